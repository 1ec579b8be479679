import PyProof.Rows.All
import Wide.All
import OpenK.AllK
import Wide.FinOn
import HandS.Iter
import HandS.Star
import KE.GoesMore
import KE.KDictZip
import HandS.ForMost
import HandS.TryMany
import HandS.TryOnly
import HandS.Exc
import HandS.More
import HandS.Deep
import HandS.ExcOwn
import HandS.ExcInit
import HandS.ExcField
import HandS.WordsExc
import HandS.IsInst
import HandS.TupSets
import HandS.Text
import HandS.Flow
import HandS.TupAny
import HandS.Style
import PyProof.ReprRoads
import HandS.RaiseMore
import HandS.Comp
import KE.KExcIs
import HandS.ExcIs
import PySem.Challenge.RW_eightcells_k43_clauses_told
set_option Elab.async false
set_option linter.all false
set_option maxRecDepth 100000
set_option maxHeartbeats 8000000
namespace Zn
open PySem L2
open PyProof.Rows hiding St

/-- one row's iterator -/
structure Rw where
  it : Addr
  a : Addr
  tup : Bool
  xs : Array Value
def At (h : Heap) (p : Rw) (i : Nat) : Prop := match p.tup with
  | true => h.IsTupleIter p.it p.a i ∧ h.IsTuple p.a p.xs
  | false => h.IsListIter p.it p.a i ∧ h.IsList p.a p.xs
theorem At.keep {h h' : Heap} {p : Rw} {i : Nat} (hat : At h p i) (k1 : ∀ o, h.get? p.it = some o → h'.get? p.it = some o) (k2 : ∀ o, h.get? p.a = some o → h'.get? p.a = some o) : At h' p i := by
  unfold At at hat ⊢
  cases e : p.tup with
  | true => rw [e] at hat; exact ⟨hat.1.at fun o q => k1 o q, hat.2.at fun o q => k2 o q⟩
  | false => rw [e] at hat; exact ⟨hat.1.at fun o q => k1 o q, hat.2.at fun o q => k2 o q⟩
theorem At.live {h : Heap} {p : Rw} {i : Nat} (hat : At h p i) : (∃ o, h.get? p.it = some o ∧ ∃ n vs, o.cls = .type n ∧ o.data = .fields vs) ∧ ∃ o, h.get? p.a = some o := by
  unfold At at hat
  cases e : p.tup with
  | true => rw [e] at hat; obtain ⟨⟨o, q, c, d⟩, ⟨o', q', _⟩⟩ := hat; exact ⟨⟨o, q, _, _, c, d⟩, o', q'⟩
  | false => rw [e] at hat; obtain ⟨⟨o, q, c, d⟩, ⟨o', q', _⟩⟩ := hat; exact ⟨⟨o, q, _, _, c, d⟩, o', q'⟩
section
variable {prog : Program} {w : World} {A : Around} {E : Value → Shared → Prop} {s : Shared} {p : Rw} {i : Nat}
theorem nx_item {x : Value} {Q : Value → Shared → Prop} (hat : At s.heap p i) (hx : p.xs[i]? = some x) (hne : p.a ≠ p.it)
    (hQ : ∀ h', At h' p (i + 1) → Heap.SameBut p.it s.heap h' → Q x { s with heap := h' }) : wpAny (model prog w) A (Builtin.SmallTypes.nextOf (.ref p.it)) Q E s := by
  unfold At at hat
  cases e : p.tup with
  | true =>
    rw [e] at hat
    refine wpAny_nextOf_tuple_item hat.1 hat.2 hx fun h' hit' hs' => hQ h' ?_ hs'
    unfold At; rw [e]; exact ⟨hit', hat.2.extBut hs'.extBut hne⟩
  | false =>
    rw [e] at hat
    refine wpAny_nextOf_list_item hat.1 hat.2 hx fun h' hit' hs' => hQ h' ?_ hs'
    unfold At; rw [e]; exact ⟨hit', hat.2.extBut hs'.extBut hne⟩
theorem nx_end {Q : Value → Shared → Prop} (hh : A.handled = none) (hat : At s.heap p i) (hx : p.xs[i]? = none)
    (hE : ∀ h' e, Heap.ExtBut p.it s.heap h' → (∃ o, h'.get? e = some o ∧ o.cls = .type "StopIteration") → E (.ref e) { s with heap := h' }) : wpAny (model prog w) A (Builtin.SmallTypes.nextOf (.ref p.it)) Q E s := by
  unfold At at hat
  cases e : p.tup with
  | true => rw [e] at hat; exact wpAny_nextOf_tuple_end hh hat.1 hat.2 hx hE
  | false => rw [e] at hat; exact wpAny_nextOf_list_end hh hat.1 hat.2 hx hE
end

/-- the zip's own cell: what it keeps first, whether that is told -/
abbrev ZF (h : Heap) (z TI TO : Addr) (f0 : Value) (b : Bool) : Prop :=
  h.get? z = some { cls := .type "zip", dict := none, data := .fields #[f0, .bool b, .bool false, .ref TI, .ref TO], slots := #[] }
/-- no tuple is out -/
def Free (h : Heap) (f0 : Value) : Prop := f0 = .none ∨ ∃ T : Addr, f0 = rawInt T ∧ h.get? T = none
theorem is_free {prog : Program} {w : World} {A : Around} {E : Value → Shared → Prop} {s : Shared} {z TI TO : Addr} {f0 : Value} {b : Bool} {Q : Bool → Shared → Prop} (hz : ZF s.heap z TI TO f0 b) (hf : Free s.heap f0) (h : Q true s) :
    wpAny (model prog w) A (Builtin.SmallTypes.ownedTupleIsFree (.ref z)) Q E s := by
  unfold Builtin.SmallTypes.ownedTupleIsFree
  refine wpAny_bind (wpAny_field hz rfl (x := f0) rfl ?_)
  rcases hf with rfl | ⟨T, rfl, hT⟩
  · exact wpAny_pure h
  · show wpAny _ _ (loadIfAlive ((T : Int).toNat) >>= _) _ _ _
    rw [Int.toNat_natCast]
    refine wpAny_bind (fun _ _ _ => ?_)
    show wpAny _ _ _ _ _ s
    rw [hT]
    exact wpAny_pure h
structure Sep (z TI TO : Addr) (ps : List Rw) : Prop where
  TIz : TI ≠ z
  TOz : TO ≠ z
  TITO : TI ≠ TO
  iz : ∀ p ∈ ps, p.it ≠ z ∧ p.it ≠ TI ∧ p.it ≠ TO
  az : ∀ p ∈ ps, p.a ≠ z ∧ p.a ≠ TO
  ai : ∀ p ∈ ps, ∀ q ∈ ps, p.a ≠ q.it
  nd : (ps.map (·.it)).Nodup
abbrev IsTp (h : Heap) (T : Addr) (vs : List Value) : Prop := h.get? T = some { cls := .type "tuple", data := .seq vs.toArray }
abbrev refs (ps : List Rw) : List Value := ps.map fun p => .ref p.it
/-- the row at place i -/
def rowV (ps : List Rw) (i : Nat) : List Value := ps.map fun p => p.xs.getD i .none
section
variable {prog : Program} {w : World} {A : Around} {E : Value → Shared → Prop} {s : Shared} {z TI TO : Addr} {ps : List Rw} {i : Nat}
theorem next_free {olds : List Value} {f0 : Value} {b0 : Bool} {Q : Value → Shared → Prop} (S : Sep z TI TO ps) (hps : ps ≠ []) (hz : ZF s.heap z TI TO f0 b0) (hfr : Free s.heap f0) (hTI : IsTp s.heap TI (refs ps)) (hTO : IsTp s.heap TO olds) (hol : olds.length = ps.length)
    (hat : ∀ p ∈ ps, At s.heap p i) (hln : ps.length ≤ sizeLine) (hlt : ∀ p ∈ ps, i < p.xs.size)
    (hQ : ∀ h', IsZip h' z TI TO (rawInt s.heap.objs.size) → IsTp h' TO (rowV ps i) → (∀ p ∈ ps, At h' p (i + 1)) → IsTp h' s.heap.objs.size (rowV ps i) → h'.objs.size = s.heap.objs.size + 1 →
      (∀ c o, c ≠ z → c ≠ TO → (∀ p ∈ ps, c ≠ p.it) → s.heap.get? c = some o → h'.get? c = some o) → Q (.ref s.heap.objs.size) { s with heap := h' }) :
    wpAny (model prog w) A (Builtin.«zip.__next__» ⟨[.ref z], []⟩) (fun fin s' => ∃ v, fin = .done (.ret v) ∧ Q v s') E s := by
  obtain ⟨hp, g, d, tk0, os⟩ := s
  show wpAny _ _ (field (.ref z) 2 >>= _) _ _ _
  refine wpAny_bind (wpAny_field hz rfl (x := .bool false) rfl ?_)
  show wpAny _ _ (field (.ref z) 3 >>= _) _ _ _
  refine wpAny_bind (wpAny_field hz rfl (x := .ref TI) rfl ?_)
  refine wpAny_bind (wpAny_seqItems hTI rfl ?_)
  have hne : (refs ps).toArray.isEmpty = false := by cases ps with | nil => exact (hps rfl).elim | cons p r => rfl
  dsimp only
  rw [hne]
  show wpAny _ _ (Builtin.SmallTypes.ownedTupleIsFree (.ref z) >>= _) _ _ _
  refine wpAny_bind (is_free hz hfr ?_)
  simp only [if_true]
  refine wpAny_bind (wpAny_rule ?_)
  refine wpAny_bind (wpAny_field hz rfl (x := .ref TO) rfl ?_)
  refine wpAny_bind (wpAny_setField_rec hz (by simp) fun g0 hz0 hs0 => ?_)
  replace hz0 : ZF g0 z TI TO .ellipsis b0 := hz0
  replace hs0 : Heap.SameBut z hp g0 := hs0
  refine wpAny_bind ?_
  have hat0 : ∀ p ∈ ps, At g0 p i := fun p hp' => (hat p hp').keep (fun o e => hs0.extBut _ _ (S.iz p hp').1 e) (fun o e => hs0.extBut _ _ (S.az p hp').1 e)
  refine wpAny_forIn_list _ (fun (l : List (Value × Nat)) (b : Option Fin × Unit) (s' : Shared) => b = (none, ()) ∧ ∃ (pre rest : List Rw) (cont : List Value) (h' : Heap), ps = pre ++ rest ∧ l = (refs rest).zipIdx pre.length ∧ s' = ⟨h', g, d, tk0, os⟩ ∧ ZF h' z TI TO .ellipsis b0 ∧
    IsTp h' TO (rowV pre i ++ cont) ∧ cont.length = rest.length ∧ (∀ p ∈ pre, At h' p (i + 1)) ∧ (∀ p ∈ rest, At h' p i) ∧ h'.objs.size = hp.objs.size ∧ ∀ c o, c ≠ z → c ≠ TO → (∀ p ∈ ps, c ≠ p.it) → hp.get? c = some o → h'.get? c = some o) _ ?turn ?fin _ _ ?st
  case st => exact ⟨rfl, [], ps, olds, g0, rfl, rfl, rfl, hz0, hs0.extBut _ _ S.TOz hTO, hol, fun p h => (nomatch h), hat0, hs0.1, fun c o c1 _ _ e => hs0.extBut _ _ c1 e⟩
  case turn =>
    rintro x l b s1 ⟨rfl, pre, rest, cont, h1, eps, el, rfl, hz1, hT1, hcl, hpre, hrest, hsz1, hk1⟩
    cases rest with
    | nil => simp [refs] at el
    | cons p rest =>
    cases cont with
    | nil => simp at hcl
    | cons c0 cont =>
    have el' : x = (.ref p.it, pre.length) ∧ l = (refs rest).zipIdx (pre.length + 1) := by simpa [refs, List.zipIdx_cons] using el
    obtain ⟨rfl, rfl⟩ := el'
    have hp' : p ∈ ps := by rw [eps]; simp
    have hx : p.xs[i]? = some (p.xs.getD i .none) := by
      have := hlt p hp'
      rw [Array.getD_eq_getD_getElem?, Array.getElem?_eq_getElem this]; rfl
    have hnd := S.nd
    rw [eps, List.map_append, List.map_cons, List.nodup_append] at hnd
    have hpq : ∀ q ∈ pre, q.it ≠ p.it := fun q hq => hnd.2.2 _ (List.mem_map.mpr ⟨q, hq, rfl⟩) _ List.mem_cons_self
    have hrq : ∀ q ∈ rest, q.it ≠ p.it := fun q hq z => (List.nodup_cons.mp hnd.2.1).1 (z ▸ List.mem_map.mpr ⟨q, hq, rfl⟩)
    have mpre : ∀ q ∈ pre, q ∈ ps := fun q hq => by rw [eps]; simp [hq]
    have mrest : ∀ q ∈ rest, q ∈ ps := fun q hq => by rw [eps]; simp [hq]
    refine wpAny_bind (wpAny_onRaise ?_)
    show wpAny _ _ (Builtin.SmallTypes.nextOf (.ref p.it) >>= _) _ _ _
    refine wpAny_bind (nx_item (hrest p List.mem_cons_self) hx (S.ai p hp' p hp') fun h2 at2 sb2 => wpAny_pure ?_)
    replace sb2 : Heap.SameBut p.it h1 h2 := sb2
    have hT2 : IsTp h2 TO (rowV pre i ++ c0 :: cont) := sb2.extBut _ _ (S.iz p hp').2.2.symm hT1
    refine wpAny_bind (wpAny_seqItems (s := ⟨h2, g, d, tk0, os⟩) hT2 rfl ?_)
    have lenc : (rowV pre i ++ c0 :: cont).length = ps.length := by
      rw [eps]; simp only [rowV, List.length_append, List.length_map, List.length_cons] at hcl ⊢; omega
    refine wpAny_bind (wpAny_updateSeq (s := ⟨h2, g, d, tk0, os⟩) hT2 rfl ?_ (hz := by rw [List.size_toArray, lenc]; exact hln) (_hz' := by rw [Array.size_setIfInBounds, List.size_toArray, lenc]; exact Nat.le_succ_of_le hln))
    have hT3 := Heap.get?_update_self (h := h2) (a := TO) (Obj.mapSeq fun x_2 => x_2.setIfInBounds pre.length (p.xs.getD i Value.none)) hT2 rfl
    have sb3 := Heap.SameBut.update h2 TO (Obj.mapSeq fun x_2 => x_2.setIfInBounds pre.length (p.xs.getD i Value.none))
    generalize h2.update TO (Obj.mapSeq fun x_2 => x_2.setIfInBounds pre.length (p.xs.getD i Value.none)) = h3 at hT3 sb3
    have e3 : Obj.mapSeq (fun x_2 => x_2.setIfInBounds pre.length (p.xs.getD i Value.none)) { cls := Value.type "tuple", data := Data.seq (rowV pre i ++ c0 :: cont).toArray } = { cls := Value.type "tuple", data := Data.seq (rowV (pre ++ [p]) i ++ cont).toArray } := by
      have hl : (rowV pre i).length = pre.length := by simp [rowV]
      have : ((rowV pre i ++ c0 :: cont).toArray.setIfInBounds pre.length (p.xs.getD i Value.none)) = (rowV (pre ++ [p]) i ++ cont).toArray := by
        rw [List.setIfInBounds_toArray]
        congr 1
        rw [List.set_append_right (h := by omega), hl, Nat.sub_self]
        simp [rowV]
      simp only [Obj.mapSeq]
      rw [if_pos (by simp)]
      show ({ cls := Value.type "tuple", data := Data.seq ((rowV pre i ++ c0 :: cont).toArray.setIfInBounds pre.length (p.xs.getD i Value.none)) 0 } : Obj) = _
      rw [this]
    rw [e3] at hT3
    refine wpAny_bind (wpAny_letGo (wpAny_pure ?_))
    have k2 : ∀ {c : Addr} {o : Obj}, c ≠ p.it → h1.get? c = some o → h2.get? c = some o := fun c1 e => sb2.extBut _ _ c1 e
    have k3 : ∀ {c : Addr} {o : Obj}, c ≠ TO → h2.get? c = some o → h3.get? c = some o := fun c1 e => sb3.extBut _ _ c1 e
    refine ⟨rfl, pre ++ [p], rest, cont, h3, by rw [eps]; simp, by simp, rfl, k3 S.TOz.symm (k2 (S.iz p hp').1.symm hz1), hT3, by simpa using hcl, fun q hq => ?_, fun q hq => ?_, by rw [sb3.1, sb2.1, hsz1], fun c o c1 c2 c3 e => k3 c2 (k2 (c3 p hp') (hk1 c o c1 c2 c3 e))⟩
    · rcases List.mem_append.mp hq with hq | hq
      · refine (hpre q hq).keep (fun o e => k3 (S.iz q (mpre q hq)).2.2 (k2 (hpq q hq) e)) (fun o e => k3 (S.az q (mpre q hq)).2 (k2 (S.ai q (mpre q hq) p hp') e))
      · have : q = p := by simpa using hq
        subst this
        exact at2.keep (fun o e => k3 (S.iz q hp').2.2 e) (fun o e => k3 (S.az q hp').2 e)
    · exact (hrest q (List.mem_cons_of_mem _ hq)).keep (fun o e => k3 (S.iz q (mrest q hq)).2.2 (k2 (hrq q hq) e)) (fun o e => k3 (S.az q (mrest q hq)).2 (k2 (S.ai q (mrest q hq) p hp') e))
  case fin =>
    rintro b s1 ⟨rfl, pre, rest, cont, h1, eps, el, rfl, hz1, hT1, hcl, hpre, hrest, hsz1, hk1⟩
    have er : rest = [] := by
      cases rest with
      | nil => rfl
      | cons p r => simp [refs, List.zipIdx_cons] at el
    subst er
    have ec : cont = [] := by cases cont with | nil => rfl | cons _ _ => simp at hcl
    subst ec
    rw [List.append_nil] at eps hT1
    subst eps
    refine wpAny_bind (wpAny_seqItems (s := ⟨h1, g, d, tk0, os⟩) hT1 rfl ?_)
    have hln' : (rowV ps i).length ≤ sizeLine := by simpa [rowV] using hln
    refine wpAny_bind (wpAny_newTuple (s := ⟨h1, g, d, tk0, os⟩) (items := (rowV ps i).toArray.toList) ?_ (hsz := by simpa using hln'))
    have hzlt : z < h1.objs.size := Heap.lt_size hz1
    show wpAny _ _ (Builtin.SmallTypes.ownedTupleHandOut (.ref z) (.ref h1.objs.size) >>= _) _ _ ⟨h1.push { cls := .type "tuple", data := .seq (rowV ps i).toArray }, g, d, tk0, os⟩
    refine wpAny_bind ?_
    unfold Builtin.SmallTypes.ownedTupleHandOut
    have hz₆ : ZF (h1.push { cls := .type "tuple", data := .seq (rowV ps i).toArray }) z TI TO .ellipsis b0 := Heap.get?_push_of_some _ hz1
    refine wpAny_bind (wpAny_setField_rec hz₆ (by simp) fun h₇ hz₇ hs₇ => ?_)
    replace hz₇ : ZF h₇ z TI TO (rawInt h1.objs.size) b0 := hz₇
    refine wpAny_setField_rec hz₇ (by simp) fun h₈ hz₈ hs₈ => ?_
    replace hz₈ : IsZip h₈ z TI TO (rawInt h1.objs.size) := hz₈
    replace hs₇ : Heap.SameBut z (h1.push { cls := .type "tuple", data := .seq (rowV ps i).toArray }) h₇ := hs₇
    replace hs₈ : Heap.SameBut z h₇ h₈ := hs₈
    have up : ∀ c o, c ≠ z → h1.get? c = some o → h₈.get? c = some o := fun c o c1 e => hs₈.extBut _ _ c1 (hs₇.extBut _ _ c1 (Heap.get?_push_of_some _ e))
    have hT₈ : IsTp h₈ h1.objs.size (rowV ps i) := hs₈.extBut _ _ (Nat.ne_of_gt hzlt) (hs₇.extBut _ _ (Nat.ne_of_gt hzlt) (Heap.get?_push_size _ rfl))
    have hz8 : h₈.objs.size = h1.objs.size + 1 := by rw [hs₈.1, hs₇.1, Heap.size_push]
    rw [hsz1] at hz₈ hT₈ hz8
    refine wpAny_pure ⟨_, rfl, ?_⟩
    show Q (.ref h1.objs.size) ⟨h₈, g, d, tk0, os⟩
    rw [hsz1]
    exact hQ h₈ hz₈ (up _ _ S.TOz hT1) (fun p hp' => (hpre p hp').keep (fun o e => up _ _ (S.iz p hp').1 e) (fun o e => up _ _ (S.az p hp').1 e)) hT₈ hz8 fun c o cz cT c1 e => up c o cz (hk1 c o cz cT c1 e)
/-- some row is at its end -/
theorem next_free_end {olds : List Value} {f0 : Value} {b0 : Bool} {Q : Fin → Shared → Prop} (hh : A.handled = none) (S : Sep z TI TO ps) (hz : ZF s.heap z TI TO f0 b0) (hfr : Free s.heap f0) (hTI : IsTp s.heap TI (refs ps)) (hTO : IsTp s.heap TO olds) (hol : olds.length = ps.length)
    (hat : ∀ p ∈ ps, At s.heap p i) (hln : ps.length ≤ sizeLine) (hend : ∃ p ∈ ps, p.xs.size ≤ i)
    (hE : ∀ h' e, (∀ c o, c ≠ z → c ≠ TO → (∀ p ∈ ps, c ≠ p.it) → s.heap.get? c = some o → h'.get? c = some o) → (∃ o, h'.get? e = some o ∧ o.cls = .type "StopIteration") → E (.ref e) { s with heap := h' }) :
    wpAny (model prog w) A (Builtin.«zip.__next__» ⟨[.ref z], []⟩) Q E s := by
  obtain ⟨hp, g, d, tk0, os⟩ := s
  show wpAny _ _ (field (.ref z) 2 >>= _) _ _ _
  refine wpAny_bind (wpAny_field hz rfl (x := .bool false) rfl ?_)
  show wpAny _ _ (field (.ref z) 3 >>= _) _ _ _
  refine wpAny_bind (wpAny_field hz rfl (x := .ref TI) rfl ?_)
  refine wpAny_bind (wpAny_seqItems hTI rfl ?_)
  have hne : (refs ps).toArray.isEmpty = false := by
    cases ps with
    | nil => obtain ⟨p, h, _⟩ := hend; cases h
    | cons p r => rfl
  dsimp only
  rw [hne]
  show wpAny _ _ (Builtin.SmallTypes.ownedTupleIsFree (.ref z) >>= _) _ _ _
  refine wpAny_bind (is_free hz hfr ?_)
  simp only [if_true]
  refine wpAny_bind (wpAny_rule ?_)
  refine wpAny_bind (wpAny_field hz rfl (x := .ref TO) rfl ?_)
  refine wpAny_bind (wpAny_setField_rec hz (by simp) fun g0 hz0 hs0 => ?_)
  replace hz0 : ZF g0 z TI TO .ellipsis b0 := hz0
  replace hs0 : Heap.SameBut z hp g0 := hs0
  refine wpAny_bind ?_
  have hat0 : ∀ p ∈ ps, At g0 p i := fun p hp' => (hat p hp').keep (fun o e => hs0.extBut _ _ (S.iz p hp').1 e) (fun o e => hs0.extBut _ _ (S.az p hp').1 e)
  refine wpAny_forIn_list _ (fun (l : List (Value × Nat)) (b : Option Fin × Unit) (s' : Shared) => b = (none, ()) ∧ ∃ (pre rest : List Rw) (cont : List Value) (h' : Heap), ps = pre ++ rest ∧ l = (refs rest).zipIdx pre.length ∧ s' = ⟨h', g, d, tk0, os⟩ ∧ ZF h' z TI TO .ellipsis b0 ∧
    IsTp h' TO (rowV pre i ++ cont) ∧ cont.length = rest.length ∧ (∃ p ∈ rest, p.xs.size ≤ i) ∧ (∀ p ∈ rest, At h' p i) ∧ ∀ c o, c ≠ z → c ≠ TO → (∀ p ∈ ps, c ≠ p.it) → hp.get? c = some o → h'.get? c = some o) _ ?turn ?fin _ _ ?st
  case st => exact ⟨rfl, [], ps, olds, g0, rfl, rfl, rfl, hz0, hs0.extBut _ _ S.TOz hTO, hol, hend, hat0, fun c o c1 _ _ e => hs0.extBut _ _ c1 e⟩
  case turn =>
    rintro x l b s1 ⟨rfl, pre, rest, cont, h1, eps, el, rfl, hz1, hT1, hcl, hen, hrest, hk1⟩
    cases rest with
    | nil => simp [refs] at el
    | cons p rest =>
    cases cont with
    | nil => simp at hcl
    | cons c0 cont =>
    have el' : x = (.ref p.it, pre.length) ∧ l = (refs rest).zipIdx (pre.length + 1) := by simpa [refs, List.zipIdx_cons] using el
    obtain ⟨rfl, rfl⟩ := el'
    have hp' : p ∈ ps := by rw [eps]; simp
    have hnd := S.nd
    rw [eps, List.map_append, List.map_cons, List.nodup_append] at hnd
    have hrq : ∀ q ∈ rest, q.it ≠ p.it := fun q hq z => (List.nodup_cons.mp hnd.2.1).1 (z ▸ List.mem_map.mpr ⟨q, hq, rfl⟩)
    have mrest : ∀ q ∈ rest, q ∈ ps := fun q hq => by rw [eps]; simp [hq]
    refine wpAny_bind (wpAny_onRaise ?_)
    show wpAny _ _ (Builtin.SmallTypes.nextOf (.ref p.it) >>= _) _ _ _
    by_cases hlt : i < p.xs.size
    · have hx : p.xs[i]? = some (p.xs.getD i .none) := by rw [Array.getD_eq_getD_getElem?, Array.getElem?_eq_getElem hlt]; rfl
      refine wpAny_bind (nx_item (hrest p List.mem_cons_self) hx (S.ai p hp' p hp') fun h2 at2 sb2 => wpAny_pure ?_)
      replace sb2 : Heap.SameBut p.it h1 h2 := sb2
      have hT2 : IsTp h2 TO (rowV pre i ++ c0 :: cont) := sb2.extBut _ _ (S.iz p hp').2.2.symm hT1
      refine wpAny_bind (wpAny_seqItems (s := ⟨h2, g, d, tk0, os⟩) hT2 rfl ?_)
      have lenc : (rowV pre i ++ c0 :: cont).length = ps.length := by
        rw [eps]; simp only [rowV, List.length_append, List.length_map, List.length_cons] at hcl ⊢; omega
      refine wpAny_bind (wpAny_updateSeq (s := ⟨h2, g, d, tk0, os⟩) hT2 rfl ?_ (hz := by rw [List.size_toArray, lenc]; exact hln) (_hz' := by rw [Array.size_setIfInBounds, List.size_toArray, lenc]; exact Nat.le_succ_of_le hln))
      have hT3 := Heap.get?_update_self (h := h2) (a := TO) (Obj.mapSeq fun x_2 => x_2.setIfInBounds pre.length (p.xs.getD i Value.none)) hT2 rfl
      have sb3 := Heap.SameBut.update h2 TO (Obj.mapSeq fun x_2 => x_2.setIfInBounds pre.length (p.xs.getD i Value.none))
      generalize h2.update TO (Obj.mapSeq fun x_2 => x_2.setIfInBounds pre.length (p.xs.getD i Value.none)) = h3 at hT3 sb3
      have e3 : Obj.mapSeq (fun x_2 => x_2.setIfInBounds pre.length (p.xs.getD i Value.none)) { cls := Value.type "tuple", data := Data.seq (rowV pre i ++ c0 :: cont).toArray } = { cls := Value.type "tuple", data := Data.seq (rowV (pre ++ [p]) i ++ cont).toArray } := by
        have hl : (rowV pre i).length = pre.length := by simp [rowV]
        have : ((rowV pre i ++ c0 :: cont).toArray.setIfInBounds pre.length (p.xs.getD i Value.none)) = (rowV (pre ++ [p]) i ++ cont).toArray := by
          rw [List.setIfInBounds_toArray]
          congr 1
          rw [List.set_append_right (h := by omega), hl, Nat.sub_self]
          simp [rowV]
        simp only [Obj.mapSeq]
        rw [if_pos (by simp)]
        show ({ cls := Value.type "tuple", data := Data.seq ((rowV pre i ++ c0 :: cont).toArray.setIfInBounds pre.length (p.xs.getD i Value.none)) 0 } : Obj) = _
        rw [this]
      rw [e3] at hT3
      refine wpAny_bind (wpAny_letGo (wpAny_pure ?_))
      have k2 : ∀ {c : Addr} {o : Obj}, c ≠ p.it → h1.get? c = some o → h2.get? c = some o := fun c1 e => sb2.extBut _ _ c1 e
      have k3 : ∀ {c : Addr} {o : Obj}, c ≠ TO → h2.get? c = some o → h3.get? c = some o := fun c1 e => sb3.extBut _ _ c1 e
      refine ⟨rfl, pre ++ [p], rest, cont, h3, by rw [eps]; simp, by simp, rfl, k3 S.TOz.symm (k2 (S.iz p hp').1.symm hz1), hT3, by simpa using hcl, ?_, fun q hq => ?_, fun c o c1 c2 c3 e => k3 c2 (k2 (c3 p hp') (hk1 c o c1 c2 c3 e))⟩
      · obtain ⟨q, hq, hqi⟩ := hen
        rcases List.mem_cons.mp hq with rfl | hq
        · omega
        · exact ⟨q, hq, hqi⟩
      · exact (hrest q (List.mem_cons_of_mem _ hq)).keep (fun o e => k3 (S.iz q (mrest q hq)).2.2 (k2 (hrq q hq) e)) (fun o e => k3 (S.az q (mrest q hq)).2 (k2 (S.ai q (mrest q hq) p hp') e))
    · refine wpAny_bind (nx_end (s := ⟨h1, g, d, tk0, os⟩) hh (hrest p List.mem_cons_self) (by simp; omega) fun q e hq he => ?_)
      replace hq : Heap.ExtBut p.it h1 q := hq
      obtain ⟨oe, hoe, hce⟩ := he
      replace hoe : q.get? e = some oe := hoe
      have hzq : ZF q z TI TO .ellipsis b0 := hq _ _ (S.iz p hp').1.symm hz1
      have hez : e ≠ z := fun x => by subst x; rw [hzq] at hoe; cases hoe; simp at hce
      refine wpAny_setField_rec (s := ⟨q, g, d, tk0, os⟩) hzq (by simp) fun q' _ hq' => ?_
      replace hq' : Heap.SameBut z q q' := hq'
      exact hE q' e (fun c o cz cT c1 x => hq'.extBut _ _ cz (hq _ _ (c1 p hp') (hk1 c o cz cT c1 x))) ⟨oe, hq'.extBut _ _ hez hoe, hce⟩
  case fin =>
    rintro b s1 ⟨rfl, pre, rest, cont, h1, eps, el, rfl, hz1, hT1, hcl, hen, hrest, hk1⟩
    obtain ⟨p, hpm, _⟩ := hen
    cases rest with
    | nil => cases hpm
    | cons p r => simp [refs, List.zipIdx_cons] at el
/-- the tuple handed out last is held by a name -/
theorem next_held {T : Addr} {f : Bool} {oT : Obj} {Q : Value → Shared → Prop} (S : Sep z TI TO ps) (hps : ps ≠ []) (hz : IsZipHeld s.heap z TI TO T f) (hT : s.heap.get? T = some oT) (hTI : IsTp s.heap TI (refs ps))
    (hat : ∀ p ∈ ps, At s.heap p i) (hln : ps.length ≤ sizeLine) (hlt : ∀ p ∈ ps, i < p.xs.size)
    (hQ : ∀ h', IsZipHeld h' z TI TO T true → (∀ p ∈ ps, At h' p (i + 1)) → IsTp h' s.heap.objs.size (rowV ps i) → h'.objs.size = s.heap.objs.size + 1 →
      (∀ c o, c ≠ z → (∀ p ∈ ps, c ≠ p.it) → s.heap.get? c = some o → h'.get? c = some o) → Q (.ref s.heap.objs.size) { s with heap := h' }) :
    wpAny (model prog w) A (Builtin.«zip.__next__» ⟨[.ref z], []⟩) (fun fin s' => ∃ v, fin = .done (.ret v) ∧ Q v s') E s := by
  obtain ⟨hp, g, d, tk0, os⟩ := s
  show wpAny _ _ (field (.ref z) 2 >>= _) _ _ _
  refine wpAny_bind (wpAny_field hz rfl (x := .bool false) rfl ?_)
  show wpAny _ _ (field (.ref z) 3 >>= _) _ _ _
  refine wpAny_bind (wpAny_field hz rfl (x := .ref TI) rfl ?_)
  refine wpAny_bind (wpAny_seqItems hTI rfl ?_)
  have hne : (refs ps).toArray.isEmpty = false := by cases ps with | nil => exact (hps rfl).elim | cons p r => rfl
  dsimp only
  rw [hne]
  show wpAny _ _ (Builtin.SmallTypes.ownedTupleIsFree (.ref z) >>= _) _ _ _
  refine wpAny_bind (wpAny_tupleHeld_zip hz hT fun g0 hz0 hs0 => ?_)
  replace hs0 : Heap.SameBut z hp g0 := hs0
  simp only [Bool.false_eq_true, if_false]
  refine wpAny_bind ?_
  rw [← Array.forIn_toList]
  have hat0 : ∀ p ∈ ps, At g0 p i := fun p hp' => (hat p hp').keep (fun o e => hs0.extBut _ _ (S.iz p hp').1 e) (fun o e => hs0.extBut _ _ (S.az p hp').1 e)
  refine wpAny_forIn_list _ (fun (l : List Value) (b : Option Fin × Array Value) (s' : Shared) => ∃ (pre rest : List Rw) (h' : Heap), b = (none, (rowV pre i).toArray) ∧ ps = pre ++ rest ∧ l = refs rest ∧ s' = ⟨h', g, d, tk0, os⟩ ∧ IsZipHeld h' z TI TO T true ∧
    (∀ p ∈ pre, At h' p (i + 1)) ∧ (∀ p ∈ rest, At h' p i) ∧ h'.objs.size = hp.objs.size ∧ ∀ c o, c ≠ z → (∀ p ∈ ps, c ≠ p.it) → hp.get? c = some o → h'.get? c = some o) _ ?turn ?fin _ _ ?st
  case st => exact ⟨[], ps, g0, rfl, rfl, rfl, rfl, hz0, fun p h => (nomatch h), hat0, hs0.1, fun c o c1 _ e => hs0.extBut _ _ c1 e⟩
  case turn =>
    rintro x l b s1 ⟨pre, rest, h1, rfl, eps, el, rfl, hz1, hpre, hrest, hsz1, hk1⟩
    cases rest with
    | nil => simp [refs] at el
    | cons p rest =>
    have el' : x = .ref p.it ∧ l = refs rest := by simpa [refs] using el
    obtain ⟨rfl, rfl⟩ := el'
    have hp' : p ∈ ps := by rw [eps]; simp
    have hx : p.xs[i]? = some (p.xs.getD i .none) := by
      have := hlt p hp'
      rw [Array.getD_eq_getD_getElem?, Array.getElem?_eq_getElem this]; rfl
    have hnd := S.nd
    rw [eps, List.map_append, List.map_cons, List.nodup_append] at hnd
    have hpq : ∀ q ∈ pre, q.it ≠ p.it := fun q hq => hnd.2.2 _ (List.mem_map.mpr ⟨q, hq, rfl⟩) _ List.mem_cons_self
    have hrq : ∀ q ∈ rest, q.it ≠ p.it := fun q hq z => (List.nodup_cons.mp hnd.2.1).1 (z ▸ List.mem_map.mpr ⟨q, hq, rfl⟩)
    have mpre : ∀ q ∈ pre, q ∈ ps := fun q hq => by rw [eps]; simp [hq]
    have mrest : ∀ q ∈ rest, q ∈ ps := fun q hq => by rw [eps]; simp [hq]
    refine wpAny_bind (wpAny_holding ?_)
    show wpAny _ _ (Builtin.SmallTypes.nextOf (.ref p.it) >>= _) _ _ _
    refine wpAny_bind (nx_item (hrest p List.mem_cons_self) hx (S.ai p hp' p hp') fun h2 at2 sb2 => wpAny_pure ?_)
    replace sb2 : Heap.SameBut p.it h1 h2 := sb2
    refine wpAny_pure ?_
    have k2 : ∀ {c : Addr} {o : Obj}, c ≠ p.it → h1.get? c = some o → h2.get? c = some o := fun c1 e => sb2.extBut _ _ c1 e
    refine ⟨pre ++ [p], rest, h2, by simp [rowV], by rw [eps]; simp, rfl, rfl, k2 (S.iz p hp').1.symm hz1, fun q hq => ?_, fun q hq => ?_, by rw [sb2.1, hsz1], fun c o c1 c2 e => k2 (c2 p hp') (hk1 c o c1 c2 e)⟩
    · rcases List.mem_append.mp hq with hq | hq
      · exact (hpre q hq).keep (fun o e => k2 (hpq q hq) e) (fun o e => k2 (S.ai q (mpre q hq) p hp') e)
      · have : q = p := by simpa using hq
        subst this
        exact at2
    · exact (hrest q (List.mem_cons_of_mem _ hq)).keep (fun o e => k2 (hrq q hq) e) (fun o e => k2 (S.ai q (mrest q hq) p hp') e)
  case fin =>
    rintro b s1 ⟨pre, rest, h1, rfl, eps, el, rfl, hz1, hpre, hrest, hsz1, hk1⟩
    have er : rest = [] := by
      cases rest with
      | nil => rfl
      | cons p r => simp [refs] at el
    subst er
    rw [List.append_nil] at eps
    subst eps
    have hln' : (rowV ps i).length ≤ sizeLine := by simpa [rowV] using hln
    show wpAny _ _ (newTuple (rowV ps i).toArray.toList >>= _) _ _ _
    refine wpAny_bind (wpAny_newTuple (s := ⟨h1, g, d, tk0, os⟩) (items := (rowV ps i).toArray.toList) ?_ (hsz := by simpa using hln'))
    have up : ∀ c o, h1.get? c = some o → (h1.push { cls := .type "tuple", data := .seq (rowV ps i).toArray }).get? c = some o := fun c o e => Heap.get?_push_of_some _ e
    have hT₈ : IsTp (h1.push { cls := .type "tuple", data := .seq (rowV ps i).toArray }) h1.objs.size (rowV ps i) := Heap.get?_push_size _ rfl
    have hz8 : (h1.push { cls := .type "tuple", data := .seq (rowV ps i).toArray }).objs.size = h1.objs.size + 1 := Heap.size_push ..
    rw [hsz1] at hT₈ hz8
    refine wpAny_pure ⟨_, rfl, ?_⟩
    show Q (.ref h1.objs.size) ⟨h1.push { cls := .type "tuple", data := .seq (rowV ps i).toArray }, g, d, tk0, os⟩
    rw [hsz1]
    exact hQ _ (up _ _ hz1) (fun p hp' => (hpre p hp').keep (fun o e => up _ _ e) (fun o e => up _ _ e)) hT₈ hz8 fun c o cz c1 e => up c o (hk1 c o cz c1 e)
theorem next_held_end {T : Addr} {f : Bool} {oT : Obj} {Q : Fin → Shared → Prop} (hh : A.handled = none) (S : Sep z TI TO ps) (hz : IsZipHeld s.heap z TI TO T f) (hT : s.heap.get? T = some oT) (hTI : IsTp s.heap TI (refs ps))
    (hat : ∀ p ∈ ps, At s.heap p i) (hend : ∃ p ∈ ps, p.xs.size ≤ i)
    (hE : ∀ h' e, (∀ c o, c ≠ z → (∀ p ∈ ps, c ≠ p.it) → s.heap.get? c = some o → h'.get? c = some o) → (∃ o, h'.get? e = some o ∧ o.cls = .type "StopIteration") → E (.ref e) { s with heap := h' }) :
    wpAny (model prog w) A (Builtin.«zip.__next__» ⟨[.ref z], []⟩) Q E s := by
  obtain ⟨hp, g, d, tk0, os⟩ := s
  show wpAny _ _ (field (.ref z) 2 >>= _) _ _ _
  refine wpAny_bind (wpAny_field hz rfl (x := .bool false) rfl ?_)
  show wpAny _ _ (field (.ref z) 3 >>= _) _ _ _
  refine wpAny_bind (wpAny_field hz rfl (x := .ref TI) rfl ?_)
  refine wpAny_bind (wpAny_seqItems hTI rfl ?_)
  have hne : (refs ps).toArray.isEmpty = false := by
    cases ps with
    | nil => obtain ⟨p, h, _⟩ := hend; cases h
    | cons p r => rfl
  dsimp only
  rw [hne]
  show wpAny _ _ (Builtin.SmallTypes.ownedTupleIsFree (.ref z) >>= _) _ _ _
  refine wpAny_bind (wpAny_tupleHeld_zip hz hT fun g0 hz0 hs0 => ?_)
  replace hs0 : Heap.SameBut z hp g0 := hs0
  simp only [Bool.false_eq_true, if_false]
  refine wpAny_bind ?_
  rw [← Array.forIn_toList]
  have hat0 : ∀ p ∈ ps, At g0 p i := fun p hp' => (hat p hp').keep (fun o e => hs0.extBut _ _ (S.iz p hp').1 e) (fun o e => hs0.extBut _ _ (S.az p hp').1 e)
  refine wpAny_forIn_list _ (fun (l : List Value) (b : Option Fin × Array Value) (s' : Shared) => ∃ (pre rest : List Rw) (h' : Heap), ps = pre ++ rest ∧ l = refs rest ∧ s' = ⟨h', g, d, tk0, os⟩ ∧
    (∃ p ∈ rest, p.xs.size ≤ i) ∧ (∀ p ∈ rest, At h' p i) ∧ ∀ c o, c ≠ z → (∀ p ∈ ps, c ≠ p.it) → hp.get? c = some o → h'.get? c = some o) _ ?turn ?fin _ _ ?st
  case st => exact ⟨[], ps, g0, rfl, rfl, rfl, hend, hat0, fun c o c1 _ e => hs0.extBut _ _ c1 e⟩
  case turn =>
    rintro x l b s1 ⟨pre, rest, h1, eps, el, rfl, hen, hrest, hk1⟩
    cases rest with
    | nil => simp [refs] at el
    | cons p rest =>
    have el' : x = .ref p.it ∧ l = refs rest := by simpa [refs] using el
    obtain ⟨rfl, rfl⟩ := el'
    have hp' : p ∈ ps := by rw [eps]; simp
    have hnd := S.nd
    rw [eps, List.map_append, List.map_cons, List.nodup_append] at hnd
    have hrq : ∀ q ∈ rest, q.it ≠ p.it := fun q hq z => (List.nodup_cons.mp hnd.2.1).1 (z ▸ List.mem_map.mpr ⟨q, hq, rfl⟩)
    have mrest : ∀ q ∈ rest, q ∈ ps := fun q hq => by rw [eps]; simp [hq]
    refine wpAny_bind (wpAny_holding ?_)
    show wpAny _ _ (Builtin.SmallTypes.nextOf (.ref p.it) >>= _) _ _ _
    by_cases hlt : i < p.xs.size
    · have hx : p.xs[i]? = some (p.xs.getD i .none) := by rw [Array.getD_eq_getD_getElem?, Array.getElem?_eq_getElem hlt]; rfl
      refine wpAny_bind (nx_item (hrest p List.mem_cons_self) hx (S.ai p hp' p hp') fun h2 at2 sb2 => wpAny_pure ?_)
      replace sb2 : Heap.SameBut p.it h1 h2 := sb2
      refine wpAny_pure ?_
      have k2 : ∀ {c : Addr} {o : Obj}, c ≠ p.it → h1.get? c = some o → h2.get? c = some o := fun c1 e => sb2.extBut _ _ c1 e
      refine ⟨pre ++ [p], rest, h2, by rw [eps]; simp, rfl, rfl, ?_, fun q hq => ?_, fun c o c1 c2 e => k2 (c2 p hp') (hk1 c o c1 c2 e)⟩
      · obtain ⟨q, hq, hqi⟩ := hen
        rcases List.mem_cons.mp hq with rfl | hq
        · omega
        · exact ⟨q, hq, hqi⟩
      · exact (hrest q (List.mem_cons_of_mem _ hq)).keep (fun o e => k2 (hrq q hq) e) (fun o e => k2 (S.ai q (mrest q hq) p hp') e)
    · refine wpAny_bind (nx_end (s := ⟨h1, g, d, tk0, os⟩) hh (hrest p List.mem_cons_self) (by simp; omega) fun q e hq he => ?_)
      replace hq : Heap.ExtBut p.it h1 q := hq
      exact hE q e (fun c o cz c1 x => hq _ _ (c1 p hp') (hk1 c o cz c1 x)) he
  case fin =>
    rintro b s1 ⟨pre, rest, h1, eps, el, rfl, hen, hrest, hk1⟩
    obtain ⟨p, hpm, _⟩ := hen
    cases rest with
    | nil => cases hpm
    | cons p r => simp [refs] at el
end
end Zn
namespace Zn
open PySem L2
open PyProof.Rows hiding St
theorem tc (us : List Value) : checkTypeCall "zip" ⟨us, []⟩ = pure () := by kernel_rfl
theorem oi (obj : Value) (us : List Value) : argsOk "object.__init__" ⟨obj :: us, []⟩ := by
  unfold argsOk; kernel_rfl
/-- how many rows a zip takes here -/
def most : Nat := 4
theorem nc1 (a0 : Value) : checkBuiltinCall "zip.__new__" ⟨[.type "zip", a0], []⟩ = pure () := by kernel_rfl
theorem nc2 (a0 a1 : Value) : checkBuiltinCall "zip.__new__" ⟨[.type "zip", a0, a1], []⟩ = pure () := by kernel_rfl
theorem nc3 (a0 a1 a2 : Value) : checkBuiltinCall "zip.__new__" ⟨[.type "zip", a0, a1, a2], []⟩ = pure () := by kernel_rfl
theorem nc4 (a0 a1 a2 a3 : Value) : checkBuiltinCall "zip.__new__" ⟨[.type "zip", a0, a1, a2, a3], []⟩ = pure () := by kernel_rfl
theorem nc : ∀ us : List Value, us ≠ [] → us.length ≤ most → checkBuiltinCall "zip.__new__" ⟨.type "zip" :: us, []⟩ = pure ()
  | [], h, _ => (h rfl).elim
  | [a0], _, _ => nc1 a0
  | [a0, a1], _, _ => nc2 a0 a1
  | [a0, a1, a2], _, _ => nc3 a0 a1 a2
  | [a0, a1, a2, a3], _, _ => nc4 a0 a1 a2 a3
  | a0 :: a1 :: a2 :: a3 :: a4 :: r, _, h => by simp [most] at h

end Zn
namespace Zn
open PySem L2
open PyProof.Rows hiding St

def itObj (p : Rw) : Obj := { cls := .type (if p.tup then "tuple_iterator" else "list_iterator"), data := .fields #[.ref p.a, .int 0 0] }
def pushIts : Heap → List Rw → Heap
  | h, [] => h
  | h, p :: r => pushIts (h.push (itObj p)) r
theorem pushIts_size : ∀ (ps : List Rw) (h : Heap), (pushIts h ps).objs.size = h.objs.size + ps.length
  | [], h => rfl
  | p :: r, h => by rw [pushIts, pushIts_size r, Heap.size_push, List.length_cons]; omega
theorem pushIts_keep : ∀ (ps : List Rw) (h : Heap) {c : Addr} {o : Obj}, h.get? c = some o → (pushIts h ps).get? c = some o
  | [], _, _, _, e => e
  | _ :: r, _, _, _, e => pushIts_keep r _ (Heap.get?_push_of_some _ e)
theorem pushIts_get : ∀ (ps : List Rw) (h : Heap) {k : Nat} {p : Rw}, ps[k]? = some p → (pushIts h ps).get? (h.objs.size + k) = some (itObj p)
  | p :: r, h, 0, q, e => by
    have : p = q := by simpa using e
    subst this
    exact pushIts_keep r _ (Heap.get?_push_size _ rfl)
  | p :: r, h, k + 1, q, e => by
    have := pushIts_get r (h.push (itObj p)) (k := k) (p := q) (by simpa using e)
    rw [Heap.size_push] at this
    rw [pushIts, show h.objs.size + (k + 1) = h.objs.size + 1 + k by omega]
    exact this
/-- the rows as they stand in the heap -/
def RowAt (h : Heap) (p : Rw) : Prop := match p.tup with
  | true => h.IsTuple p.a p.xs
  | false => h.IsList p.a p.xs
theorem RowAt.keep {h h' : Heap} {p : Rw} (hat : RowAt h p) (k : ∀ o, h.get? p.a = some o → h'.get? p.a = some o) : RowAt h' p := by
  unfold RowAt at hat ⊢
  cases e : p.tup with
  | true => rw [e] at hat; exact hat.at fun o q => k o q
  | false => rw [e] at hat; exact hat.at fun o q => k o q
theorem RowAt.live {h : Heap} {p : Rw} (hat : RowAt h p) : ∃ o, h.get? p.a = some o := by
  unfold RowAt at hat
  cases e : p.tup with
  | true => rw [e] at hat; obtain ⟨o', q', _⟩ := hat; exact ⟨o', q'⟩
  | false => rw [e] at hat; obtain ⟨o', q', _⟩ := hat; exact ⟨o', q'⟩
section
variable {prog : Program} {w : World} {A : Around} {E : Value → Shared → Prop} {s : Shared}
theorem iter_row {p : Rw} {Q : Value → Shared → Prop} (hr : RowAt s.heap p) (h : Q (.ref s.heap.objs.size) { s with heap := s.heap.push (itObj p) }) : wpAny (model prog w) A (pyIter (.ref p.a)) Q E s := by
  unfold RowAt at hr
  unfold itObj at h
  cases e : p.tup with
  | true => rw [e] at hr h; exact wpAny_pyIter_tuple hr h
  | false => rw [e] at hr h; exact wpAny_pyIter_list hr h
theorem iterAll_ok (ps : List Rw) {hp : Heap} {g : Array GenState} {d : Drawn} {tk : Nat} {os : OsState} {Q : List Value → Shared → Prop} (hr : ∀ p ∈ ps, RowAt hp p)
    (h : Q ((List.range ps.length).map fun k => .ref (hp.objs.size + k)) ⟨pushIts hp ps, g, d, tk, os⟩) : wpAny (model prog w) A (Builtin.SmallTypes.iterAll (ps.map fun p => .ref p.a)) Q E ⟨hp, g, d, tk, os⟩ := by
  unfold Builtin.SmallTypes.iterAll
  refine wpAny_bind ?_
  refine wpAny_forIn_list _ (fun (l : List Value) (b : Array Value) (s' : Shared) => ∃ pre rest, ps = pre ++ rest ∧ l = rest.map (fun p => Value.ref p.a) ∧ b = ((List.range pre.length).map fun k => Value.ref (hp.objs.size + k)).toArray ∧
    s' = ⟨pushIts hp pre, g, d, tk, os⟩) _ ?turn ?fin _ _ ⟨[], ps, rfl, rfl, rfl, rfl⟩
  case turn =>
    rintro x l b s1 ⟨pre, rest, eps, el, rfl, rfl⟩
    cases rest with
    | nil => cases el
    | cons p rest =>
    have el' : x = .ref p.a ∧ l = rest.map (fun p => Value.ref p.a) := by simpa using el
    obtain ⟨rfl, rfl⟩ := el'
    refine wpAny_bind (wpAny_holding ?_)
    refine iter_row (s := ⟨pushIts hp pre, g, d, tk, os⟩) ((hr p (by rw [eps]; simp)).keep fun o e => pushIts_keep pre hp e) (wpAny_pure ?_)
    have pa : ∀ (pre : List Rw) (h : Heap), pushIts h (pre ++ [p]) = (pushIts h pre).push (itObj p) := fun pre => by
      induction pre with
      | nil => intro h; rfl
      | cons q r ih => intro h; exact ih _
    refine ⟨pre ++ [p], rest, by rw [eps]; simp, rfl, ?_, by rw [pa]⟩
    show Array.push _ (Value.ref (pushIts hp pre).objs.size) = _
    rw [pushIts_size]
    simp [List.range_succ]
  case fin =>
    rintro b s1 ⟨pre, rest, eps, el, rfl, rfl⟩
    have er : rest = [] := by cases rest with | nil => rfl | cons _ _ => cases el
    subst er
    rw [List.append_nil] at eps
    subst eps
    exact wpAny_pure h
end

abbrev itRefs (n k : Nat) : List Value := (List.range k).map fun j => .ref (n + j)
abbrev nonesV (n k : Nat) : List Value := List.map (fun _ => Value.none) (itRefs n k)
abbrev hTI (h : Heap) (ps : List Rw) : Heap := (pushIts h ps).push { cls := .type "tuple", data := .seq (itRefs h.objs.size ps.length).toArray }
abbrev hTO (h : Heap) (ps : List Rw) : Heap := (hTI h ps).push { cls := .type "tuple", data := .seq (nonesV h.objs.size ps.length).toArray }
abbrev hZ (h : Heap) (ps : List Rw) : Heap := (hTO h ps).push { cls := .type "zip", data := .fields #[.none, .bool false, .bool false, .ref (pushIts h ps).objs.size, .ref (hTI h ps).objs.size] }
theorem meets_new (ps : List Rw) (hln : ps.length ≤ sizeLine) :
    Meets (Builtin.«zip.__new__» ⟨.type "zip" :: ps.map (fun p => .ref p.a), []⟩) (fun _ R s => (∀ p ∈ ps, RowAt s.heap p) ∧ R (.ok (.ret (.ref (hTO s.heap ps).objs.size))) { s with heap := hZ s.heap ps }) :=
  .of_wp fun prog w A R s h => by
    obtain ⟨hp, g, d, tk, os⟩ := s; obtain ⟨h1, h⟩ := h
    have hsub := sub_zip
    have l1 : (itRefs hp.objs.size ps.length).length ≤ sizeLine := by simpa using hln
    have l2 : (nonesV hp.objs.size ps.length).length ≤ sizeLine := by simpa using hln
    have q1 : ∀ {A' : Around} {E : Value → Shared → Prop} {Q : List Value → Shared → Prop}, Q (itRefs hp.objs.size ps.length) ⟨pushIts hp ps, g, d, tk, os⟩ → wpAny (model prog w) A' (Builtin.SmallTypes.iterAll (ps.map fun p => .ref p.a)) Q E ⟨hp, g, d, tk, os⟩ := fun q => iterAll_ok ps h1 q
    wp_walk using q1
    exact ⟨_, rfl, h⟩
/-- the iterators of the rows, laid from n on -/
def setIts (n : Nat) : List Rw → List Rw
  | [] => []
  | p :: r => { p with it := n } :: setIts (n + 1) r
theorem setIts_length : ∀ (ps : List Rw) (n : Nat), (setIts n ps).length = ps.length
  | [], _ => rfl
  | p :: r, n => by simp [setIts, setIts_length r]
theorem setIts_get : ∀ (ps : List Rw) (n k : Nat) {q : Rw}, (setIts n ps)[k]? = some q → q.it = n + k ∧ ∃ p, ps[k]? = some p ∧ q.a = p.a ∧ q.tup = p.tup ∧ q.xs = p.xs
  | p :: r, n, 0, q, e => by
    have : ({ p with it := n } : Rw) = q := by simpa [setIts] using e
    subst this
    exact ⟨rfl, p, rfl, rfl, rfl, rfl⟩
  | p :: r, n, k + 1, q, e => by
    obtain ⟨a, b⟩ := setIts_get r (n + 1) k (q := q) (by simpa [setIts] using e)
    exact ⟨a.trans (show n + 1 + k = n + (k + 1) by omega), by simpa using b⟩
theorem setIts_refs : ∀ (ps : List Rw) (n : Nat), refs (setIts n ps) = itRefs n ps.length
  | [], _ => rfl
  | p :: r, n => by
    show Value.ref n :: refs (setIts (n + 1) r) = itRefs n (r.length + 1)
    rw [setIts_refs r (n + 1)]
    simp only [itRefs, List.range_succ_eq_map, List.map_cons, List.map_map, Nat.add_zero]
    congr 1
    apply List.map_congr_left
    intro j _
    show Value.ref (n + 1 + j) = Value.ref (n + (j + 1))
    exact congrArg Value.ref (show n + 1 + j = n + (j + 1) by omega)
section
variable {prog : Program} {w : World} {A : Around} {E : Value → Shared → Prop} {s : Shared}
theorem call_zip (ps : List Rw) {Q : Value → Shared → Prop} (hne : ps ≠ []) (hle : ps.length ≤ most) (hr : ∀ p ∈ ps, RowAt s.heap p)
    (h : ∀ h', IsZip h' (s.heap.objs.size + ps.length + 2) (s.heap.objs.size + ps.length) (s.heap.objs.size + ps.length + 1) .none → IsTp h' (s.heap.objs.size + ps.length) (refs (setIts s.heap.objs.size ps)) →
      (∃ olds : List Value, olds.length = ps.length ∧ IsTp h' (s.heap.objs.size + ps.length + 1) olds) → (∀ q ∈ setIts s.heap.objs.size ps, At h' q 0) →
      (∀ c o, s.heap.get? c = some o → h'.get? c = some o) → Q (.ref (s.heap.objs.size + ps.length + 2)) { s with heap := h' }) :
    wpAny (model prog w) A (call (.type "zip") (ps.map fun p => .ref p.a)) Q E s := by
  have hln : ps.length ≤ sizeLine := Nat.le_trans hle (by decide)
  refine callType_new F.called_zip (by decide) (tc _) (nc _ (by cases ps with | nil => exact absurd rfl hne | cons _ _ => simp) (by simpa using hle)) (fun obj => oi obj _) F.entry_zip_new (meets_new ps hln) ⟨hr, ?_⟩
  have z1 : (pushIts s.heap ps).objs.size = s.heap.objs.size + ps.length := pushIts_size ps _
  have z2 : (hTI s.heap ps).objs.size = s.heap.objs.size + ps.length + 1 := by rw [Heap.size_push, z1]
  have z3 : (hTO s.heap ps).objs.size = s.heap.objs.size + ps.length + 2 := by rw [Heap.size_push, z2]
  have gZ : (hZ s.heap ps).get? (hTO s.heap ps).objs.size = some { cls := .type "zip", data := .fields #[.none, .bool false, .bool false, .ref (pushIts s.heap ps).objs.size, .ref (hTI s.heap ps).objs.size] } := Heap.get?_push_size _ rfl
  have gO : (hZ s.heap ps).get? (hTI s.heap ps).objs.size = some { cls := .type "tuple", data := .seq (nonesV s.heap.objs.size ps.length).toArray } := Heap.get?_push_of_some _ (Heap.get?_push_size _ rfl)
  have gT : (hZ s.heap ps).get? (pushIts s.heap ps).objs.size = some { cls := .type "tuple", data := .seq (itRefs s.heap.objs.size ps.length).toArray } := Heap.get?_push_of_some _ (Heap.get?_push_of_some _ (Heap.get?_push_size _ rfl))
  have kp : ∀ c o, (pushIts s.heap ps).get? c = some o → (hZ s.heap ps).get? c = some o := fun c o e => Heap.get?_push_of_some _ (Heap.get?_push_of_some _ (Heap.get?_push_of_some _ e))
  rw [z3, z2, z1] at gZ
  rw [z2] at gO
  rw [z1] at gT
  show _ ∧ _
  rw [z3]
  refine ⟨⟨_, gZ, rfl⟩, h _ gZ (by rw [setIts_refs]; exact gT) ⟨_, by simp, gO⟩ (fun q hq => ?_) fun c o e => kp c o (pushIts_keep ps _ e)⟩
  obtain ⟨k, hk⟩ := List.getElem?_of_mem hq
  obtain ⟨e1, p, e2, e3, e4, e5⟩ := setIts_get ps _ k hk
  have hp : p ∈ ps := List.mem_of_getElem? e2
  have gi := kp _ _ (pushIts_get ps s.heap e2)
  have hrow := hr p hp
  unfold At
  unfold RowAt at hrow
  unfold itObj at gi
  rw [e4]
  cases et : p.tup with
  | true =>
    rw [et] at hrow gi
    rw [e1, e3, e5]
    exact ⟨⟨_, gi, rfl, rfl⟩, hrow.at fun o e => kp _ o (pushIts_keep ps _ e)⟩
  | false =>
    rw [et] at hrow gi
    rw [e1, e3, e5]
    exact ⟨⟨_, gi, rfl, rfl⟩, hrow.at fun o e => kp _ o (pushIts_keep ps _ e)⟩
end
end Zn
namespace Zn
open PySem PySem.Spec L2
open PyProof.Rows hiding St

section
variable {prog : Program} {w : World} {A : Around} {E : Value → Shared → Prop} {s : Shared} {z TI TO : Addr} {ps : List Rw} {i : Nat}
theorem zf_type {f0 : Value} {b0 : Bool} (hz : ZF s.heap z TI TO f0 b0) : s.TypeIs (.ref z) "zip" := ⟨_, hz, rfl⟩
/-- free, or the tuple handed out last is there -/
theorem free_or {f0 : Value} {h : Heap} (hf : f0 = .none ∨ ∃ T : Addr, f0 = rawInt T) : Free h f0 ∨ ∃ (T : Addr) (oT : Obj), f0 = rawInt T ∧ h.get? T = some oT := by
  rcases hf with rfl | ⟨T, rfl⟩
  · exact .inl (.inl rfl)
  · cases e : h.get? T with
    | none => exact .inl (.inr ⟨T, rfl, e⟩)
    | some o => exact .inr ⟨T, o, rfl, e⟩
/-- between two turns -/
structure Mid (h : Heap) (z TI TO : Addr) (ps : List Rw) (i : Nat) : Prop where
  zf : ∃ (f0 : Value) (b0 : Bool), ZF h z TI TO f0 b0 ∧ (f0 = .none ∨ ∃ T : Addr, f0 = rawInt T)
  ti : IsTp h TI (refs ps)
  to : ∃ olds : List Value, olds.length = ps.length ∧ IsTp h TO olds
theorem py_item {Q : Option Value → Shared → Prop} (S : Sep z TI TO ps) (hps : ps ≠ []) (M : Mid s.heap z TI TO ps i) (hat : ∀ p ∈ ps, At s.heap p i) (hln : ps.length ≤ sizeLine) (hlt : ∀ p ∈ ps, i < p.xs.size)
    (hQ : ∀ h', Mid h' z TI TO ps (i + 1) → (∀ p ∈ ps, At h' p (i + 1)) → IsTp h' s.heap.objs.size (rowV ps i) → h'.objs.size = s.heap.objs.size + 1 →
      (∀ c o, c ≠ z → c ≠ TO → (∀ p ∈ ps, c ≠ p.it) → s.heap.get? c = some o → h'.get? c = some o) → Q (some (.ref s.heap.objs.size)) { s with heap := h' }) :
    wpAny (model prog w) A (pyNext (.ref z)) Q E s := by
  obtain ⟨⟨f0, b0, hz, hf⟩, hTI, olds, hol, hTO⟩ := M
  unfold pyNext
  rcases free_or (h := s.heap) hf with hf | ⟨T, oT, rfl, hT⟩
  · exact wpAny_bind (wpAny_attempt (wpAny_callSpecial?_slot (name := Str.ofString "__next__") (zf_type hz) F.slot_zip_next
      (wpAny_call_entry F.slot_zip_next (zf_type hz) F.entry_zip_next
        (next_free S hps hz hf hTI hTO hol hat hln hlt fun h' a1 a2 a3 a4 a5 a6 => wpAny_pure (hQ h' ⟨⟨_, _, a1, .inr ⟨_, rfl⟩⟩, a6 _ _ S.TIz S.TITO (fun p hp => (S.iz p hp).2.1.symm) hTI, _, by simp [rowV], a2⟩ a3 a4 a5 a6)) (F.args_zip_next_1 _))))
  · exact wpAny_bind (wpAny_attempt (wpAny_callSpecial?_slot (name := Str.ofString "__next__") (zf_type hz) F.slot_zip_next
      (wpAny_call_entry F.slot_zip_next (zf_type hz) F.entry_zip_next
        (next_held S hps hz hT hTI hat hln hlt fun h' a1 a3 a4 a5 a6 => wpAny_pure (hQ h' ⟨⟨_, _, a1, .inr ⟨_, rfl⟩⟩, a6 _ _ S.TIz (fun p hp => (S.iz p hp).2.1.symm) hTI, _, hol, a6 _ _ S.TOz (fun p hp => (S.iz p hp).2.2.symm) hTO⟩ a3 a4 a5 fun c o c1 c2 c3 e => a6 c o c1 c3 e)) (F.args_zip_next_1 _))))
theorem py_end {Q : Option Value → Shared → Prop} (hh : A.handled = none) (S : Sep z TI TO ps) (M : Mid s.heap z TI TO ps i) (hat : ∀ p ∈ ps, At s.heap p i) (hln : ps.length ≤ sizeLine) (hend : ∃ p ∈ ps, p.xs.size ≤ i)
    (hQ : ∀ h', (∀ c o, c ≠ z → c ≠ TO → (∀ p ∈ ps, c ≠ p.it) → s.heap.get? c = some o → h'.get? c = some o) → Q none { s with heap := h' }) : wpAny (model prog w) A (pyNext (.ref z)) Q E s := by
  obtain ⟨⟨f0, b0, hz, hf⟩, hTI, olds, hol, hTO⟩ := M
  unfold pyNext
  rcases free_or (h := s.heap) hf with hf | ⟨T, oT, rfl, hT⟩
  · refine wpAny_bind (wpAny_attempt (wpAny_callSpecial?_slot (name := Str.ofString "__next__") (zf_type hz) F.slot_zip_next
      (wpAny_call_entry F.slot_zip_next (zf_type hz) F.entry_zip_next (next_free_end hh S hz hf hTI hTO hol hat hln hend fun h' e hk he => ?_) (F.args_zip_next_1 _))))
    obtain ⟨o, ho, hc⟩ := he
    refine wpAny_bind (wpAny_isInstance (T := "StopIteration") (b := true) ⟨o, ho, hc⟩ isSubtype_stop ?_)
    exact wpAny_pure (hQ _ hk)
  · refine wpAny_bind (wpAny_attempt (wpAny_callSpecial?_slot (name := Str.ofString "__next__") (zf_type hz) F.slot_zip_next
      (wpAny_call_entry F.slot_zip_next (zf_type hz) F.entry_zip_next (next_held_end hh S hz hT hTI hat hend fun h' e hk he => ?_) (F.args_zip_next_1 _))))
    obtain ⟨o, ho, hc⟩ := he
    refine wpAny_bind (wpAny_isInstance (T := "StopIteration") (b := true) ⟨o, ho, hc⟩ isSubtype_stop ?_)
    exact wpAny_pure (hQ _ fun c o c1 _ c3 e => hk c o c1 c3 e)
end

section
variable {prog : Program} {w : World} {A : Around} {E : Value → Shared → Prop} {s : Shared} {z TI TO : Addr} {ps : List Rw} {i : Nat}
theorem go_any {tg : Expr} {u : Value} {Q : Unit → Shared → Prop} (S : Sep z TI TO ps) (M : Mid s.heap z TI TO ps i) (h : ∀ h', Mid h' z TI TO ps i → (∀ c o, c ≠ z → s.heap.get? c = some o → h'.get? c = some o) → h'.objs.size = s.heap.objs.size → Q () { s with heap := h' }) :
    wpAny (model prog w) A (letOwnedTupleGo tg (.ref z) u) Q E s := by
  obtain ⟨⟨f0, b0, hz, hf⟩, hTI, olds, hol, hTO⟩ := M
  have stay : Q () s := h s.heap ⟨⟨f0, b0, hz, hf⟩, hTI, olds, hol, hTO⟩ (fun _ _ _ e => e) rfl
  unfold letOwnedTupleGo
  cases tg <;> first
    | exact wpAny_pure stay
    | (cases u <;> first
        | exact wpAny_pure stay
        | (refine wpAny_bind (wpAny_load hz ?_)
           dsimp only
           split
           · refine wpAny_bind (wpAny_rule ?_)
             show wpAny _ _ (setField (.ref z) 0 .none) Q E s
             refine wpAny_setField_rec hz (by simp) fun h' hz' hs' => ?_
             exact h h' ⟨⟨.none, b0, hz', .inl rfl⟩, hs'.extBut _ _ S.TIz hTI, olds, hol, hs'.extBut _ _ S.TOz hTO⟩ (fun c o c1 e => hs'.extBut _ _ c1 e) hs'.1
           · exact wpAny_pure stay))
end
/-! ### as a walk -/
inductive All2 {α β : Type} (R : α → β → Prop) : List α → List β → Prop
  | nil : All2 R [] []
  | cons {a : α} {as : List α} {b : β} {bs : List β} : R a b → All2 R as bs → All2 R (a :: as) (b :: bs)
theorem All2.length {α β : Type} {R : α → β → Prop} : ∀ {as : List α} {bs : List β}, All2 R as bs → as.length = bs.length
  | _, _, .nil => rfl
  | _, _, .cons _ r => by simp [r.length]
theorem All2.left {α β : Type} {R : α → β → Prop} : ∀ {as : List α} {bs : List β}, All2 R as bs → ∀ a ∈ as, ∃ b ∈ bs, R a b
  | _, _, .nil, _, h => nomatch h
  | _, _, .cons r t, a, h => by
    rcases List.mem_cons.mp h with rfl | h
    · exact ⟨_, List.mem_cons_self, r⟩
    · obtain ⟨b, hb, q⟩ := t.left a h; exact ⟨b, List.mem_cons_of_mem _ hb, q⟩
theorem All2.right {α β : Type} {R : α → β → Prop} : ∀ {as : List α} {bs : List β}, All2 R as bs → ∀ b ∈ bs, ∃ a ∈ as, R a b
  | _, _, .nil, _, h => nomatch h
  | _, _, .cons r t, b, h => by
    rcases List.mem_cons.mp h with rfl | h
    · exact ⟨_, List.mem_cons_self, r⟩
    · obtain ⟨a, ha, q⟩ := t.right b h; exact ⟨a, List.mem_cons_of_mem _ ha, q⟩
theorem All2.mono {α β : Type} {R R' : α → β → Prop} (f : ∀ a b, R a b → R' a b) : ∀ {as : List α} {bs : List β}, All2 R as bs → All2 R' as bs
  | _, _, .nil => .nil
  | _, _, .cons r t => .cons (f _ _ r) (t.mono f)
/-- the row p holds xs -/
def SqA (K : PySem.W.Frag) (H : Hp) (a : Addr × Bool) (xs : List V) : Prop := match a.2 with
  | true => SqT K H a.1 xs
  | false => SqL K H a.1 xs
/-- the rows at these places as they stand at each turn, what they have there in a new tuple -/
def Itn (K : PySem.W.Frag) (as : List (Addr × Bool)) : It :=
  ⟨fun i H => ∃ xss : List (List V), All2 (SqA K H) as xss ∧ ∀ xs ∈ xss, i < xs.length,
    fun i H v H' => ∃ T row, v = .ref T ∧ H T = none ∧ H' = upd H T (.tup row) ∧ ∀ xss, All2 (SqA K H) as xss → row = xss.map fun xs => xs.getD i .non,
    fun i H => ∃ xss : List (List V), All2 (SqA K H) as xss ∧ ∃ xs ∈ xss, xs.length ≤ i⟩
def AtI (h : Heap) (p : Rw) (i : Nat) : Prop := match p.tup with
  | true => h.IsTupleIter p.it p.a i
  | false => h.IsListIter p.it p.a i
theorem AtI.at {h h' : Heap} {p : Rw} {i : Nat} (hat : AtI h p i) (k1 : ∀ o, h.get? p.it = some o → h'.get? p.it = some o) : AtI h' p i := by
  unfold AtI at hat ⊢
  cases e : p.tup with
  | true => rw [e] at hat; exact Heap.IsTupleIter.at hat fun o q => k1 o q
  | false => rw [e] at hat; exact Heap.IsListIter.at hat fun o q => k1 o q
theorem At.i {h : Heap} {p : Rw} {i : Nat} (hat : At h p i) : AtI h p i := by
  unfold At at hat; unfold AtI
  cases e : p.tup with
  | true => rw [e] at hat; exact hat.1
  | false => rw [e] at hat; exact hat.1
theorem AtI.live {h : Heap} {p : Rw} {i : Nat} (hat : AtI h p i) : ∃ o, h.get? p.it = some o ∧ ∀ v, o.data ≠ .cell v := by
  unfold AtI at hat
  cases e : p.tup with
  | true => rw [e] at hat; obtain ⟨o, q, c, d⟩ := hat; exact ⟨o, q, fun v z => by rw [d] at z; cases z⟩
  | false => rw [e] at hat; obtain ⟨o, q, c, d⟩ := hat; exact ⟨o, q, fun v z => by rw [d] at z; cases z⟩
abbrev aOf (p : Rw) : Addr × Bool := (p.a, p.tup)
section
variable {X : Cx} {pins : List (Addr × Obj)} {σ : L2.St} {H : Hp} {s : Shared} {ps : List Rw} {xss : List (List V)}
theorem rows_of (I : Inv X pins σ H s) : ∀ {as : List (Addr × Bool)} {xss : List (List V)}, All2 (SqA X.K H) as xss → ∃ ys : List (Array Value), All2 (fun a xs => RowAt s.heap ⟨0, a.1, a.2, xs⟩) as ys ∧ All2 (fun xs (y : Array Value) => Vals xs y.toList) xss ys
  | _, _, .nil => ⟨[], .nil, .nil⟩
  | a :: as, xs :: xss, .cons r t => by
    obtain ⟨ys, q1, q2⟩ := rows_of I t
    unfold SqA at r
    cases e : a.2 with
    | true =>
      rw [e] at r
      obtain ⟨its, rv, p, _⟩ := I.tuple r
      exact ⟨its.toArray :: ys, .cons (by unfold RowAt; simp only; rw [e]; exact p) q1, .cons (by simpa using rv) q2⟩
    | false =>
      rw [e] at r
      obtain ⟨its, rv, p, _⟩ := I.list r
      exact ⟨its.toArray :: ys, .cons (by unfold RowAt; simp only; rw [e]; exact p.isList) q1, .cons (by simpa using rv) q2⟩
/-- the rows with what they hold -/
def fillR : List Rw → List (Array Value) → List Rw
  | p :: ps, y :: ys => { p with xs := y } :: fillR ps ys
  | _, _ => []
theorem fill_map {R : Addr × Bool → Array Value → Prop} : ∀ {ps : List Rw} {ys : List (Array Value)}, All2 R (ps.map aOf) ys → refs (fillR ps ys) = refs ps ∧ (fillR ps ys).map (·.it) = ps.map (·.it) ∧ (fillR ps ys).length = ps.length ∧ (∀ q ∈ fillR ps ys, ∃ p ∈ ps, ∃ y ∈ ys, q = { p with xs := y } ∧ R (aOf p) y) ∧
    (∀ p ∈ ps, ∃ q ∈ fillR ps ys, ∃ y ∈ ys, q = { p with xs := y } ∧ R (aOf p) y) ∧ ∀ i, rowV (fillR ps ys) i = ys.map fun y => y.getD i .none
  | [], _, .nil => ⟨rfl, rfl, rfl, fun q h => (nomatch h), fun q h => (nomatch h), fun i => rfl⟩
  | p :: ps, y :: ys, .cons r t => by
    obtain ⟨a, b, c, d, d', e⟩ := fill_map t
    refine ⟨congrArg (Value.ref p.it :: ·) a, congrArg (p.it :: ·) b, congrArg (· + 1) c, fun q hq => ?_, fun q hq => ?_, fun i => congrArg (y.getD i .none :: ·) (e i)⟩
    · rcases List.mem_cons.mp hq with rfl | hq
      · exact ⟨p, List.mem_cons_self, y, List.mem_cons_self, rfl, r⟩
      · obtain ⟨p', h1, y', h2, h3⟩ := d q hq
        exact ⟨p', List.mem_cons_of_mem _ h1, y', List.mem_cons_of_mem _ h2, h3⟩
    · rcases List.mem_cons.mp hq with rfl | hq
      · exact ⟨_, List.mem_cons_self, y, List.mem_cons_self, rfl, r⟩
      · obtain ⟨p', h1, y', h2, h3⟩ := d' q hq
        exact ⟨p', List.mem_cons_of_mem _ h1, y', List.mem_cons_of_mem _ h2, h3⟩
theorem vals_row {i : Nat} : ∀ {xss : List (List V)} {ys : List (Array Value)}, All2 (fun xs (y : Array Value) => Vals xs y.toList) xss ys → (∀ xs ∈ xss, i < xs.length) → Vals (xss.map fun xs => xs.getD i .non) (ys.map fun y => y.getD i .none)
  | _, _, .nil, _ => .nil
  | xs :: xss, y :: ys, .cons r t, h => by
    refine .cons ?_ (vals_row t fun xs' h' => h xs' (List.mem_cons_of_mem _ h'))
    have hi := h xs List.mem_cons_self
    obtain ⟨u, hu, ru⟩ := r.get (List.getElem?_eq_getElem hi)
    have e1 : xs.getD i .non = xs[i] := by rw [List.getD_eq_getElem?_getD, List.getElem?_eq_getElem hi]; rfl
    have e2 : y.getD i .none = u := by rw [Array.getD_eq_getD_getElem?, ← Array.getElem?_toList, hu]; rfl
    show L2.RelV (xs.getD i .non) (y.getD i .none)
    rw [e1, e2]; exact ru
theorem sqA_inj (I : Inv X pins σ H s) : ∀ {as : List (Addr × Bool)} {xss yss : List (List V)}, All2 (SqA X.K H) as xss → All2 (SqA X.K H) as yss → xss = yss
  | _, _, _, .nil, .nil => rfl
  | a :: as, xs :: xss, ys :: yss, .cons r t, .cons r' t' => by
    rw [sqA_inj I t t']
    congr 1
    unfold SqA at r r'
    cases e : a.2 with
    | true => rw [e] at r r'; exact I.tuple_inj r r'
    | false => rw [e] at r r'; exact I.list_inj r r'
end

/-- what stands between two turns -/
def tnZ (z TI TO : Addr) (ps : List Rw) (i : Nat) (h : Heap) : Prop := Mid h z TI TO ps i ∧ ∀ p ∈ ps, AtI h p i
theorem at_of {h : Heap} {p : Rw} {y : Array Value} {i : Nat} (a : AtI h p i) (r : RowAt h ⟨0, (aOf p).1, (aOf p).2, y⟩) : At h { p with xs := y } i := by
  unfold AtI at a; unfold RowAt at r; unfold At
  show match p.tup with
  | true => h.IsTupleIter p.it p.a i ∧ h.IsTuple p.a y
  | false => h.IsListIter p.it p.a i ∧ h.IsList p.a y
  have r : match p.tup with
  | true => h.IsTuple p.a y
  | false => h.IsList p.a y := r
  cases e : p.tup with
  | true => rw [e] at a r; exact ⟨a, r⟩
  | false => rw [e] at a r; exact ⟨a, r⟩
theorem sep_fill {z TI TO : Addr} {ps : List Rw} {ys : List (Array Value)} {R : Addr × Bool → Array Value → Prop} (S : Sep z TI TO ps) (f : All2 R (ps.map aOf) ys) : Sep z TI TO (fillR ps ys) := by
  obtain ⟨_, b, _, d, _, _⟩ := fill_map f
  refine ⟨S.TIz, S.TOz, S.TITO, fun q hq => ?_, fun q hq => ?_, fun q hq q' hq' => ?_, by rw [b]; exact S.nd⟩
  · obtain ⟨p, hp, y, _, rfl, _⟩ := d q hq; exact S.iz p hp
  · obtain ⟨p, hp, y, _, rfl, _⟩ := d q hq; exact S.az p hp
  · obtain ⟨p, hp, y, _, rfl, _⟩ := d q hq
    obtain ⟨p', hp', y', _, rfl, _⟩ := d q' hq'
    exact S.ai p hp p' hp'
theorem mid_fill {z TI TO : Addr} {ps qs : List Rw} {i : Nat} {h : Heap} (e : refs qs = refs ps) (l : qs.length = ps.length) (M : Mid h z TI TO ps i) : Mid h z TI TO qs i :=
  ⟨M.zf, by rw [e]; exact M.ti, by rw [l]; exact M.to⟩
theorem size_of {xs : List V} {y : Array Value} (r : Vals xs y.toList) : y.size = xs.length := by
  have := r.length
  rw [Array.length_toList] at this
  exact this.symm
theorem all2_mem {α β : Type} {R : α → β → Prop} {as : List α} {bs : List β} (f : All2 R as bs) {b : β} (h : b ∈ bs) : ∃ a ∈ as, R a b := f.right b h
theorem turn_zipN {P : Program} {w : World} {K : PySem.W.Frag} {tg : Expr} {z TI TO : Addr} {ps : List Rw} (hps : ps ≠ []) (S : Sep z TI TO ps) (hln : ps.length ≤ sizeLine) :
    Turn P w K tg (Itn K (ps.map aOf)) (z :: TI :: TO :: ps.map (·.it)) z (tnZ z TI TO ps) where
  mem := by simp
  obj := fun i h st b hb => by
    obtain ⟨⟨⟨f0, b0, hz, _⟩, hTI, olds, _, hTO⟩, hat⟩ := st
    simp only [List.mem_cons] at hb
    rcases hb with rfl | rfl | rfl | hb
    · exact ⟨_, hz, fun v q => nomatch q⟩
    · exact ⟨_, hTI, fun v q => nomatch q⟩
    · exact ⟨_, hTO, fun v q => nomatch q⟩
    · obtain ⟨p, hp, rfl⟩ := List.mem_map.mp hb
      exact (hat p hp).live
  keep := fun i h h' st k => by
    obtain ⟨⟨⟨f0, b0, hz, hf⟩, hTI, olds, hol, hTO⟩, hat⟩ := st
    exact ⟨⟨⟨f0, b0, k z (by simp) _ hz, hf⟩, k TI (by simp) _ hTI, olds, hol, k TO (by simp) _ hTO⟩, fun p hp => (hat p hp).at fun o e => k p.it (by simp; exact .inr (.inr (.inr ⟨p, hp, rfl⟩))) o e⟩
  item := by
    intro X hP hw hK hc i pins s σ H E I hf st hg
    subst hP hw hK
    obtain ⟨M, hat⟩ := st
    obtain ⟨xss, hx, hlt⟩ := hg
    obtain ⟨ys, fy, fv⟩ := rows_of I hx
    obtain ⟨e1, e2, e3, e4, e5, e6⟩ := fill_map fy
    have hne : fillR ps ys ≠ [] := fun z => hps (by rw [z] at e3; exact List.length_eq_zero_iff.mp e3.symm)
    have hat' : ∀ q ∈ fillR ps ys, At s.heap q i := fun q hq => by
      obtain ⟨p, hp, y, _, rfl, r⟩ := e4 q hq
      exact at_of (hat p hp) r
    have hlt' : ∀ q ∈ fillR ps ys, i < q.xs.size := fun q hq => by
      obtain ⟨p, hp, y, hy, rfl, r⟩ := e4 q hq
      obtain ⟨xs, hxs, rv⟩ := fv.right y hy
      show i < y.size
      rw [size_of rv]; exact hlt xs hxs
    refine py_item (sep_fill S fy) hne (mid_fill e1 e3 M) hat' (by rw [e3]; exact hln) hlt' fun h' M' at' hT hsz hk => ?_
    refine ⟨_, rfl, go_any (s := { s with heap := h' }) (sep_fill S fy) M' fun h2 M2 k2 sz2 => ?_⟩
    have rv := vals_row fv hlt
    rw [← e6] at rv
    have hl : (xss.map fun xs => xs.getD i V.non).length = ps.length := by
      have := rv.length
      rw [this]; simp only [rowV, List.length_map]; exact e3
    have mz : ∀ c ∈ (z :: TI :: TO :: ps.map (·.it)), c < s.heap.objs.size := fun c hcm => by
      obtain ⟨⟨f0, b0, hz, _⟩, hTI, olds, _, hTO⟩ := M
      simp only [List.mem_cons] at hcm
      rcases hcm with rfl | rfl | rfl | hb
      · exact Heap.lt_size hz
      · exact Heap.lt_size hTI
      · exact Heap.lt_size hTO
      · obtain ⟨p, hp, rfl⟩ := List.mem_map.mp hb
        obtain ⟨o, e, _⟩ := (hat p hp).live
        exact Heap.lt_size e
    have hT2 : IsTp h2 s.heap.objs.size (rowV (fillR ps ys) i) := k2 _ _ (Nat.ne_of_gt (mz z (by simp))) hT
    have new : ObjOk X.prog X.w (upd H s.heap.objs.size (.tup (xss.map fun xs => xs.getD i .non))) h2 s.heap.objs.size (.tup (xss.map fun xs => xs.getD i .non)) :=
      ⟨by show (xss.map fun xs => xs.getD i V.non).length ≤ sizeLine; rw [hl]; exact hln, _, rv, ⟨_, hT2, rfl, _, rfl⟩⟩
    have I1 : Inv X pins σ (upd H s.heap.objs.size (.tup (xss.map fun xs => xs.getD i .non))) { s with heap := h2 } :=
      I.turnedNew (t' := s.toks) (ch := z :: TI :: TO :: ps.map (·.it)) (fun c o hb q => k2 c o (fun q' => hb (by simp [q'])) (hk c o (fun q' => hb (by simp [q'])) (fun q' => hb (by simp [q'])) (fun q' hq' z => hb (by
        have : c ∈ (fillR ps ys).map (·.it) := List.mem_map.mpr ⟨q', hq', z.symm⟩
        rw [e2] at this
        simp only [List.mem_cons]; exact .inr (.inr (.inr this)))) q)) hf (Nat.le_refl _) new
    refine ⟨.ref s.heap.objs.size, _, I1, rfl, ⟨_, _, rfl, I.hok.fresh (Nat.le_refl _), rfl, fun yss hy => by rw [sqA_inj I hy hx]⟩, ⟨mid_fill e1.symm e3.symm M2, fun p hp => ?_⟩, fun c hcm => ?_⟩
    · obtain ⟨q, hq, y, _, rfl, _⟩ := e5 p hp
      exact ((at' _ hq).i).at fun o e => k2 _ _ (S.iz p hp).1 e
    · rw [upd_ne (Nat.ne_of_lt (mz c hcm))]
      exact (hf c hcm).1
  done := by
    intro X hP hw hK hc i pins s σ H E I hf st hg
    subst hP hw hK
    obtain ⟨M, hat⟩ := st
    obtain ⟨xss, hx, xs0, hm0, hle⟩ := hg
    obtain ⟨ys, fy, fv⟩ := rows_of I hx
    obtain ⟨e1, e2, e3, e4, e5, e6⟩ := fill_map fy
    have hat' : ∀ q ∈ fillR ps ys, At s.heap q i := fun q hq => by
      obtain ⟨p, hp, y, _, rfl, r⟩ := e4 q hq
      exact at_of (hat p hp) r
    have hend : ∃ q ∈ fillR ps ys, q.xs.size ≤ i := by
      obtain ⟨y, hy, rv⟩ := fv.left xs0 hm0
      have : ∀ {ps : List Rw} {ys : List (Array Value)} {R : Addr × Bool → Array Value → Prop}, All2 R (ps.map aOf) ys → y ∈ ys → ∃ q ∈ fillR ps ys, q.xs = y := by
        intro ps ys R f
        induction ps generalizing ys with
        | nil => intro h; cases f; cases h
        | cons p ps ih =>
          intro h
          cases f with
          | cons r t =>
            rcases List.mem_cons.mp h with rfl | h
            · exact ⟨_, List.mem_cons_self, rfl⟩
            · obtain ⟨q, hq, e⟩ := ih t h; exact ⟨q, List.mem_cons_of_mem _ hq, e⟩
      obtain ⟨q, hq, e⟩ := this fy hy
      exact ⟨q, hq, by rw [e, size_of rv]; exact hle⟩
    exact py_end (I.ok.hd hc) (sep_fill S fy) (mid_fill e1 e3 M) hat' (by rw [e3]; exact hln) hend fun h' hk => ⟨rfl, I.turnedL (t' := s.toks) (ch := z :: TI :: TO :: ps.map (·.it)) (fun c o hb q =>
      hk c o (fun q' => hb (by simp [q'])) (fun q' => hb (by simp [q'])) (fun q' hq' z => hb (by
        have : c ∈ (fillR ps ys).map (·.it) := List.mem_map.mpr ⟨q', hq', z.symm⟩
        rw [e2] at this
        simp only [List.mem_cons]; exact .inr (.inr (.inr this)))) q) hf⟩
  self := fun A i s Q E st h => by
    obtain ⟨⟨f0, b0, hz, hf⟩, _⟩ := st.1
    have hT := zf_type hz
    refine wpAny_pyIter_slot hT F.slot_zip_iter (wpAny_call_entry F.slot_zip_iter hT F.entry_zip_iter ?_ (F.args_zip_iter_1 _))
    show wpAny _ _ (ret (.ref z)) _ _ s
    exact wpAny_pure ⟨_, rfl, "zip", _, hT, F.slot_zip_next.lookup, h⟩
def iZipS (K : PySem.W.Frag) (te : TE) : TI := fun σ H R => te σ H fun x H1 => ∃ (a : Addr) (as : List (Addr × Bool)) (xss : List (List V)), x = .ref a ∧ (SqT K H1 a (as.map fun p => V.ref p.1) ∨ SqL K H1 a (as.map fun p => V.ref p.1)) ∧ as ≠ [] ∧ as.length ≤ most ∧ All2 (SqA K H1) as xss ∧ R (Itn K as) H1
theorem vals_refs {as : List (Addr × Bool)} : ∀ {us : List Value}, Vals (as.map fun p => V.ref p.1) us → us = as.map fun p => Value.ref p.1 := by
  induction as with
  | nil => intro us h; cases h; rfl
  | cons p as ih =>
    intro us h
    cases h with
    | cons r t =>
      rw [ih t]
      cases r
      rfl
/-- rows of which only the places are known -/
def rw0 (as : List (Addr × Bool)) : List Rw := as.map fun p => ⟨0, p.1, p.2, #[]⟩
theorem aOf_fill {R : Addr × Bool → Array Value → Prop} : ∀ {as : List (Addr × Bool)} {ys : List (Array Value)}, All2 R as ys → ((fillR (rw0 as) ys).map fun p => Value.ref p.a) = (as.map fun p => Value.ref p.1) ∧ (fillR (rw0 as) ys).length = as.length ∧ (∀ n, (setIts n (fillR (rw0 as) ys)).map aOf = as) ∧
    (∀ q ∈ fillR (rw0 as) ys, ∃ a ∈ as, ∃ y, q = ⟨0, a.1, a.2, y⟩ ∧ R a y)
  | [], _, .nil => ⟨rfl, rfl, fun _ => rfl, fun q h => (nomatch h)⟩
  | a :: as, y :: ys, .cons r t => by
    obtain ⟨e1, e2, e3, e4⟩ := aOf_fill t
    refine ⟨congrArg (Value.ref a.1 :: ·) e1, congrArg (· + 1) e2, fun n => congrArg (a :: ·) (e3 (n + 1)), fun q hq => ?_⟩
    rcases List.mem_cons.mp hq with rfl | hq
    · exact ⟨a, List.mem_cons_self, y, rfl, r⟩
    · obtain ⟨b, hb, y', e, r'⟩ := e4 q hq
      exact ⟨b, List.mem_cons_of_mem _ hb, y', e, r'⟩
theorem setIts_mem {ps : List Rw} {n : Nat} {q : Rw} (h : q ∈ setIts n ps) : ∃ k, k < ps.length ∧ q.it = n + k ∧ ∃ p ∈ ps, q.a = p.a := by
  obtain ⟨k, hk⟩ := List.getElem?_of_mem h
  obtain ⟨e1, p, e2, e3, _⟩ := setIts_get ps n k hk
  obtain ⟨hl, _⟩ := List.getElem?_eq_some_iff.mp e2
  exact ⟨k, hl, e1, p, List.mem_of_getElem? e2, e3⟩
theorem setIts_nd : ∀ (ps : List Rw) (n : Nat), ((setIts n ps).map (·.it)).Nodup
  | [], _ => List.nodup_nil
  | p :: r, n => by
    refine List.nodup_cons.mpr ⟨fun h => ?_, setIts_nd r (n + 1)⟩
    obtain ⟨q, hq, e⟩ := List.mem_map.mp h
    obtain ⟨k, _, e2, _⟩ := setIts_mem hq
    have e : q.it = n := e
    rw [e] at e2
    exact absurd (show n = n + 1 + k from e2) (by omega)
theorem pi_zipS {X : Cx} {e tg : Expr} {te : TE} {p pos sp_ : Pos} (hg : Gl X "zip") (hm : X.mg "zip" = none) (he : PE X e te) (hst : starEach [.Starred e sp_] X.env = [(true, eval e X.env)] := by rfl) :
    PI X tg (.Call (.Name "zip" p) [.Starred e sp_] [] pos) (iZipS X.K te) := by
  refine ⟨fun pins s σ H R I h => ?_⟩
  refine Call_ (ld_blt I hg hm PyProof.Rows.boot_zip ?_)
  rw [hst]
  refine PySem.W.ks_call (P := fun _ => True) rfl (fun h _ => ⟨.machine, .inr (.inl rfl), PySem.W.Looks.of_pure rfl⟩) (PySem.W.ks_lone (thn (he.run pins s σ H _ I h) fun v s1 ⟨y, H1, I1, ry, a, as, xss, ey, hxs, hne, hle, hx, q⟩ => ?_))
  subst ey
  obtain rfl : v = Value.ref a := ry
  refine StX.star_any I1 hxs fun us s2 I2 rv => ⟨True.intro, ?_⟩
  obtain rfl := vals_refs rv
  obtain ⟨ys, fy, fv⟩ := rows_of I2 hx
  obtain ⟨e1, e2, e3, e4⟩ := aOf_fill fy
  have hrow : ∀ q ∈ fillR (rw0 as) ys, RowAt s2.heap q := fun q hq => by
    obtain ⟨b, _, y, rfl, r⟩ := e4 q hq
    exact r
  have hne' : fillR (rw0 as) ys ≠ [] := fun z => hne (by rw [z] at e2; exact List.length_eq_zero_iff.mp e2.symm)
  show wpAny _ _ (call (.type "zip") ([] ++ as.map (fun p => Value.ref p.1)) []) _ _ s2
  rw [List.nil_append, ← e1]
  refine call_zip (fillR (rw0 as) ys) hne' (by rw [e2]; exact hle) hrow fun h' hz hTI ⟨olds, hol, hTO⟩ hat hk => ?_
  have hn : ∀ {q : Rw}, q ∈ fillR (rw0 as) ys → q.a < s2.heap.objs.size := fun {q} hq => by
    obtain ⟨o, e⟩ := (hrow q hq).live
    exact Heap.lt_size e
  generalize hN : (fillR (rw0 as) ys) = ps at *
  generalize hM : s2.heap.objs.size = n at *
  have hit : ∀ q ∈ setIts n ps, n ≤ q.it ∧ q.it < n + ps.length ∧ q.a < n := fun q hq => by
    obtain ⟨k, hk, e, p', hp, ea⟩ := setIts_mem hq
    rw [e, ea]
    exact ⟨Nat.le_add_right _ _, Nat.add_lt_add_left hk _, hn hp⟩
  have S : Sep (n + ps.length + 2) (n + ps.length) (n + ps.length + 1) (setIts n ps) := by
    refine ⟨Nat.ne_of_lt (by omega), Nat.ne_of_lt (by omega), Nat.ne_of_lt (by omega), fun q hq => ?_, fun q hq => ?_, fun q hq q' hq' => ?_, setIts_nd ps n⟩
    · obtain ⟨a1, a2, a3⟩ := hit q hq
      exact ⟨Nat.ne_of_lt (Nat.lt_of_lt_of_le a2 (by omega)), Nat.ne_of_lt a2, Nat.ne_of_lt (Nat.lt_of_lt_of_le a2 (by omega))⟩
    · obtain ⟨a1, a2, a3⟩ := hit q hq
      exact ⟨Nat.ne_of_lt (Nat.lt_of_lt_of_le a3 (by omega)), Nat.ne_of_lt (Nat.lt_of_lt_of_le a3 (by omega))⟩
    · exact Nat.ne_of_lt (Nat.lt_of_lt_of_le (hit q hq).2.2 (hit q' hq').1)
  have lens : (setIts n ps).length = ps.length := setIts_length _ _
  have st : tnZ (n + ps.length + 2) (n + ps.length) (n + ps.length + 1) (setIts n ps) 0 h' :=
    ⟨⟨⟨.none, false, hz, .inl rfl⟩, hTI, olds, hol.trans lens.symm, hTO⟩, fun q hq => (hat q hq).i⟩
  have self := (turn_zipN (P := X.prog) (w := X.w) (K := X.K) (tg := tg) (ps := setIts n ps) (fun z => hne' (by rw [z] at lens; exact List.length_eq_zero_iff.mp lens.symm)) S (by rw [lens, e2]; exact Nat.le_trans hle (by decide)))
  rw [e3] at self
  have I3 : Inv X pins σ H1 { s2 with heap := h' } := I2.kept (t' := s2.toks) hk
  refine self.self _ 0 { s2 with heap := h' } _ _ st ?_
  refine ⟨_, _, _, _, H1, rfl, I3, self, st, fun b hb => ?_, q⟩
  have hle : n ≤ b := by
    simp only [List.mem_cons] at hb
    rcases hb with rfl | rfl | rfl | hb
    · show n ≤ n + ps.length + 2; omega
    · show n ≤ n + ps.length; omega
    · show n ≤ n + ps.length + 1; omega
    · obtain ⟨q, hq, rfl⟩ := List.mem_map.mp hb
      exact (hit q hq).1
  rw [← hM] at hle
  exact (I2.fpOk hle (I2.hok.fresh hle))
end Zn
/-! sum of a tuple of ints -/
namespace Zn
open PySem PySem.Spec L2
open PyProof.Rows hiding St
section
variable {prog : Program} {w : World} {A : Around} {E : Value → Shared → Prop} {s : Shared} {l : Addr} {xs : Array (Int × Tok)} {its : List Value} {ns : List Int}
theorem sum_intTup {Q : Value → Shared → Prop} (hh : A.handled = none) (hl : s.heap.IsTuple l (intItems xs))
    (h : ∀ h' tk t', (∀ b o, s.heap.get? b = some o → h'.get? b = some o) → Q (.int (preSum (numAt xs) xs.size) t') { s with heap := h', toks := tk }) :
    wpAny (model prog w) A (call (.builtin "sum") [.ref l]) Q E s := by
  have hlt : l < s.heap.objs.size := by obtain ⟨_, e, _⟩ := hl; exact Heap.lt_size e
  refine call_sum_walkG (wpAny_pyIter_tuple hl ?_)
  refine ⟨_, _, _, _, _, _, numAt xs, rfl, Walks.tuple (A := A.in1) hh s.heap.objs.size l (Nat.ne_of_lt hlt) (intItems xs), ⟨⟨_, Heap.get?_push_size _ rfl, rfl, rfl⟩, hl.push _⟩, fun b hb => ?_, (fun _ _ => intItems_at), fun h' tk t' hk => ?_⟩
  · show b < (s.heap.push _).objs.size
    rw [Heap.size_push]
    rcases List.mem_cons.mp hb with rfl | hb
    · exact Nat.lt_succ_self _
    · rcases List.mem_cons.mp hb with rfl | hb
      · exact Nat.lt_succ_of_lt hlt
      · cases hb
  · have := h h' tk t' (fun b o e => hk b o (fun hm => by
      have hb := Heap.lt_size e
      rcases List.mem_cons.mp hm with rfl | hm
      · exact Nat.lt_irrefl _ hb
      · cases hm) (Heap.get?_push_of_some _ e))
    simpa [intItems] using this
theorem sum_rawT {Q : Value → Shared → Prop} (hh : A.handled = none) (hl : s.heap.IsTuple l its.toArray) (hi : IntsAre its ns)
    (h : ∀ h' tk t', (∀ b o, s.heap.get? b = some o → h'.get? b = some o) → Q (.int ns.sum t') { s with heap := h', toks := tk }) : wpAny (model prog w) A (call (.builtin "sum") [.ref l]) Q E s := by
  obtain ⟨xs, e⟩ := hi.allInts.items
  have hn : numsOf (intItems xs).toList = ns := by rw [← e]; exact hi.numsOf
  rw [nums_intItems] at hn
  rw [e] at hl
  refine sum_intTup hh hl fun h' tk t' hk => ?_
  have := h h' tk t' hk
  rw [preSum_eq, List.take_of_length_le (by simp), hn]; exact this
end
def rSum2 (K : PySem.W.Frag) : List V → Hp → VK → Prop := fun vs H Q => ∃ (a : Addr) (ns : List Int), vs = [V.ref a] ∧ (SqL K H a (ns.map V.int) ∨ SqT K H a (ns.map V.int)) ∧ Q (.int ns.sum) H
theorem cr_sum2 {X : Cx} (hc : X.calm = true) : CallR X (.builtin "sum") (rSum2 X.K) := by
  intro pins s σ H vs us Q I r h
  obtain ⟨a, ns, rfl, hs, q⟩ := h
  rcases hs with hs | hs
  · exact cr_sum hc pins s σ H [.ref a] us Q I r ⟨a, ns, rfl, hs, q⟩
  · obtain ⟨its, rv, hl, _⟩ := I.tuple hs
    rw [Vals.ref1 r]
    exact sum_rawT (I.ok.hd hc) (show s.heap.IsTuple a its.toArray from hl) rv.ints fun h' tk t' hk => ⟨.int _, H, I.kept hk, ⟨_, rfl⟩, q⟩
end Zn
/-! several except clauses, each with a name or without -/
namespace Zh
open PySem PySem.Spec L2
open PyProof.Rows hiding St
/-- an exception of the body, caught: it flies, the rest is as the body left it -/
structure Cau (X : Cx) (a : Addr) (cls : Value) (d : Option Addr) (pins : List (Addr × Obj)) (σ : St) (H : Hp) (B : Heap) (sI s : Shared) : Prop where
  inv : Inv X pins σ H sI
  low : ∀ b o, sI.heap.get? b = some o → b ∉ frs X.stack → B.get? b = some o
  ups : sI.heap.UpToSlots s.heap
  fly : HandSPX.FlyingZ B (X.env :: X.outer) a (Zc cls d) s.heap
  new : H a = none
  osE : s.os = sI.os
  gen : AllBare s.gens
/-- what the clauses do -/
def HdS (X : Cx) (hds : List ExceptHandler) (t : Ends → WX) : Prop := ∀ {a : Addr} {cls : Value} {d : Option Addr} {pins : List (Addr × Obj)} {σ : St} {H : Hp} {D : Ends} {B : Heap} {sI s : Shared},
  Cau X a cls d pins σ H B sI s → t D cls d σ H → wpAny (model X.prog X.w) X.A (handleBy (.ref a) X.env hds) (SP X pins D) X.xe s
section
variable {X : Cx} {a : Addr} {cls : Value} {d : Option Addr} {pins : List (Addr × Obj)} {σ : St} {H : Hp} {B : Heap} {sI s : Shared}
theorem Cau.there (C : Cau X a cls d pins σ H B sI s) : ∃ oe vs, s.heap.get? a = some oe ∧ Zc cls d oe ∧ oe.data = .fields vs := C.fly.there
theorem Cau.apart (C : Cau X a cls d pins σ H B sI s) : a ∉ frs (X.env :: X.outer) := fun m => by
  obtain ⟨oe, vs, e1, -, e2⟩ := C.there
  obtain ⟨_, o, e3, nf⟩ := C.fly.2.2.1.mem m
  rw [e1] at e3
  cases e3
  exact nf _ e2
theorem Cau.here (hf : X.env.frame = some X.env.locals) (C : Cau X a cls d pins σ H B sI s) : a ≠ X.env.locals ∧ a ∉ X.fs := by
  refine ⟨fun z => C.apart (List.mem_filterMap.mpr ⟨_, List.mem_cons_self, by rw [hf, z]⟩), fun m => ?_⟩
  obtain ⟨e, m1, m2⟩ := List.mem_filterMap.mp m
  exact C.apart (List.mem_filterMap.mpr ⟨e, List.mem_cons_of_mem _ m1, m2⟩)
theorem Cau.back (C : Cau X a cls d pins σ H B sI s) : Inv X pins σ H s := Inv.landed C.inv C.low C.fly.1 C.ups C.osE C.gen
theorem Cau.within (hf : X.env.frame = some X.env.locals) (C : Cau X a cls d pins σ H B sI s) {oe : Obj} {vs : Array Value} (e1 : s.heap.get? a = some oe) (e2 : oe.data = .fields vs) : Inv (X.suite a ((a, oe) :: (X.pn ++ pins))) [] σ H s :=
  Inv.suite C.back e1 e2 C.new (C.here hf).1 (C.here hf).2
theorem Cau.move (C : Cau X a cls d pins σ H B sI s) {h : Heap} (f : HandSPX.FlyingZ B (X.env :: X.outer) a (Zc cls d) h) (u : s.heap.UpToSlots h) : Cau X a cls d pins σ H B sI { s with heap := h } := ⟨C.inv, C.low, C.ups.trans u, f, C.new, C.osE, C.gen⟩
/-- the clause's class is looked up and asked -/
theorem Cau.ask (hf : X.env.frame = some X.env.locals) (C : Cau X a cls d pins σ H B sI s) {x : Str} {c : Value} {np : Pos} {b : Bool} {hd0 : ExceptHandler} {hds : List ExceptHandler} (hc : Names X x c) (hb : PySem.W.exmOne X.K cls c = some b)
    {Q : Value → Shared → Prop} {E : Value → Shared → Prop} (q : Q c s) : wpAny (model X.prog X.w) (X.A.mark (some (.ref a))) (eval (.Name x np) X.env) Q E s := by
  obtain ⟨oe, vs, e1, e2, e3⟩ := C.there
  have I := C.within hf e1 e3
  obtain ⟨hg, hn, hm | ⟨hm, hv, hnn⟩⟩ := hc
  · exact ld_glob (X := X.suite a ((a, oe) :: (X.pn ++ pins))) I hg hm q hn
  · exact ld_blt (X := X.suite a ((a, oe) :: (X.pn ++ pins))) I hg hm hv q hnn hn
theorem hd_out {W : WX} (hs : X.stack = X.env :: X.outer) (hf : X.env.frame = some X.env.locals) (tk : Takes X W) : HdS X [] (fun _ => W) := fun {a cls d pins σ H D B sI s} C w => by
  refine wpAny_handleBy_nil ?_
  obtain ⟨-, -, -, oe, vs, T, oT, ts, e1, -, e2, e3, -⟩ := id C.fly
  have last : wpAny (model X.prog X.w) X.A (setFlight (.ref a) X.env.frame) (fun _ s4 => wpAny (model X.prog X.w) X.A (throw (.ref a) : Sem Flow) (SP X pins D) X.xe s4) X.xe s := by
    rw [hf]
    exact HandSPX.setFlight_upZ C.fly fun h4 held u => wpAny_throw (tk _ _ ⟨a, B, sI, pins, σ, H, cls, d, rfl, C.inv, C.low, C.ups.trans u, .inr (.inr (by rw [hs]; exact held)), C.new, C.osE, C.gen, w⟩)
  unfold PySem.passOn
  refine wpAny_bind (wpAny_field e1 e2 e3 ?_)
  rw [if_neg (show ¬ ((Value.ref T == Value.none) = true) from by simp)]
  first
    | exact wpAny_bind (wpAny_pure (wpAny_bind last))
    | exact wpAny_bind last
section
variable {x n : Str} {c : Value} {i : Nat} {ts : Addr → Value → Option Addr → TS} {b₀ : Stmt} {suite : List Stmt} {np p' : Pos} {hds : List ExceptHandler} {t : Ends → WX}
def wPl (K : PySem.W.Frag) (c : Value) (ts : Addr → Value → Option Addr → TS) (t : Ends → WX) : Ends → WX := fun D cls d σ H => ∃ b, PySem.W.exmOne K cls c = some b ∧ (b = true → ∀ a, H a = none → ts a cls d D σ H) ∧ (b = false → t D cls d σ H)
/-- the ends, with the clause's name gone -/
def goes (i : Nat) (D : Ends) : Ends := ⟨fun σ H => D.nx (σ.set i none) H, D.rt, fun σ H => D.bk (σ.set i none) H, fun σ H => D.ct (σ.set i none) H⟩
def wNm (K : PySem.W.Frag) (c : Value) (i : Nat) (ts : Addr → Value → Option Addr → TS) (t : Ends → WX) : Ends → WX := fun D cls d σ H => ∃ b, PySem.W.exmOne K cls c = some b ∧ (b = true → ∀ a, H a = none → ts a cls d (goes i D) (σ.set i (some (.ref a))) H) ∧ (b = false → t D cls d σ H)
theorem hd_plain (hf : X.env.frame = some X.env.locals) (hc : Names X x c) (hsu : ∀ (a : Addr) (oe : Obj) (cls : Value) (d : Option Addr) (pn : List (Addr × Obj)), Zc cls d oe → (∃ vs, oe.data = .fields vs) → PSs (X.suite a ((a, oe) :: pn)) (b₀ :: suite) (ts a cls d))
    (r : HdS X hds t) : HdS X (.ExceptHandler (some (.Name x np)) none (b₀ :: suite) p' :: hds) (wPl X.K c ts t) := fun {a cls d pins σ H D B sI s} C ⟨b, k1, k2, k3⟩ => by
  obtain ⟨oe, vs, e1, e2, e3⟩ := C.there
  have ok := C.inv.ok
  refine wpAny_handleBy_cons (codeAny_handlers_test ?_) (by intro q; cases q)
  have LT : PySem.W.Looks (model X.prog X.w) s.heap (typeOf (.ref a)) cls := fun A Q E s k q => wpAny_typeOf_ref (k _ _ e1) (by rw [e2.1]; exact q)
  refine C.ask hf hc k1 (hd0 := .ExceptHandler none none [] p') (hds := []) ((PySem.W.exm_one (M := model X.prog X.w) C.back.kIn LT k1).here ?_)
  cases b with
  | false => exact r C (k3 rfl)
  | true =>
    refine codeAny_handlers_suite (HandSPX.lands_againZ C.fly fun h4 f4 u4 => ?_)
    have C4 := C.move f4 u4
    obtain ⟨o4, v4, g1, g2, g3⟩ := C4.there
    refine wpAny_mono ((hsu a o4 cls d (X.pn ++ pins) g2 ⟨_, g3⟩).run [] _ _ H _ (C4.within hf g1 g3) (k2 rfl a C.new)) (fun f s6 hsp => ?_) (fun _ _ z => False.elim z)
    cases f with
    | next => obtain ⟨_, _, I6, q6⟩ := hsp; exact ⟨_, _, I6.unsuite ok, q6⟩
    | brk => obtain ⟨_, _, I6, q6⟩ := hsp; exact ⟨_, _, I6.unsuite ok, q6⟩
    | cont => obtain ⟨_, _, I6, q6⟩ := hsp; exact ⟨_, _, I6.unsuite ok, q6⟩
    | ret u => obtain ⟨_, _, _, I6, r6, q6⟩ := hsp; exact ⟨_, _, _, I6.unsuite ok, r6, q6⟩
theorem hd_as (hf : X.env.frame = some X.env.locals) (hN : X.N.Nodup) (hi : X.N[i]? = some n) (hln : X.env.kindOf n = some .local) (hc : Names X x c)
    (hsu : ∀ (a : Addr) (oe : Obj) (cls : Value) (d : Option Addr) (pn : List (Addr × Obj)), Zc cls d oe → (∃ vs, oe.data = .fields vs) → PSs (X.suite a ((a, oe) :: pn)) (b₀ :: suite) (ts a cls d))
    (r : HdS X hds t) : HdS X (.ExceptHandler (some (.Name x np)) (some n) (b₀ :: suite) p' :: hds) (wNm X.K c i ts t) := fun {a cls d pins σ H D B sI s} C ⟨b, k1, k2, k3⟩ => by
  obtain ⟨oe, vs, e1, e2, e3⟩ := C.there
  have ok := C.inv.ok
  refine wpAny_handleBy_cons (codeAny_handlers_test ?_) (by intro q; cases q)
  have LT : PySem.W.Looks (model X.prog X.w) s.heap (typeOf (.ref a)) cls := fun A Q E s k q => wpAny_typeOf_ref (k _ _ e1) (by rw [e2.1]; exact q)
  refine C.ask hf hc k1 (hd0 := .ExceptHandler none none [] p') (hds := []) ((PySem.W.exm_one (M := model X.prog X.w) C.back.kIn LT k1).here ?_)
  cases b with
  | false => exact r C (k3 rfl)
  | true =>
    refine codeAny_handlers_suite_as (HandSPX.lands_againZ C.fly fun h4 f4 u4 => ?_)
    have C4 := C.move f4 u4
    obtain ⟨o4, v4, g1, g2, g3⟩ := C4.there
    refine store_ok (X := X.suite a ((a, o4) :: (X.pn ++ pins))) (v := .ref a) (C4.within hf g1 g3) hN hi (show L2.Loc _ n from .inl hln) rfl (fun s5 I5 => ?_) (.inr hln)
    refine wpAny_mono ((hsu a o4 cls d (X.pn ++ pins) g2 ⟨_, g3⟩).run [] s5 _ H _ I5 (k2 rfl a C.new)) (fun f s6 hsp => ?_) (fun _ _ z => False.elim z)
    have fin : ∀ {σ6 : St} {H6 : Hp} {Q : Shared → Prop}, Inv (X.suite a ((a, o4) :: (X.pn ++ pins))) [] σ6 H6 s6 → (∀ s7, Inv X pins (σ6.set i none) H6 s7 → Q s7) → wpAny (model X.prog X.w) X.A (do bindName X.env n .none; unbindBehindTheSuite X.env n p') (fun _ s7 => Q s7) X.xe s6 :=
      fun {σ6 H6 Q} I6 q => gone_ok (I6.unsuite ok) hN hi hln q
    cases f with
    | next => obtain ⟨_, _, I6, q6⟩ := hsp; exact fin I6 fun _ I7 => ⟨_, _, I7, q6⟩
    | brk => obtain ⟨_, _, I6, q6⟩ := hsp; exact fin I6 fun _ I7 => ⟨_, _, I7, q6⟩
    | cont => obtain ⟨_, _, I6, q6⟩ := hsp; exact fin I6 fun _ I7 => ⟨_, _, I7, q6⟩
    | ret u => obtain ⟨_, _, _, I6, r6, q6⟩ := hsp; exact fin I6 fun _ I7 => ⟨_, _, _, I7, r6, q6⟩
end
theorem ps_try_h {body : List Stmt} {h₀ : ExceptHandler} {hds : List ExceptHandler} {t : Ends → WX} {pos : Pos} {tb : WX → TS} (hs : X.stack = X.env :: X.outer) (hf : X.env.frame = some X.env.locals)
    (hb : ∀ (W : WX) (pn : List (Addr × Obj)) (xe : Value → Shared → Prop), Takes (X.tr pn xe) W → PassesOwn (model X.prog X.w) X.A X.env xe → PSs (X.tr pn xe) body (tb W)) (hh : HdS X (h₀ :: hds) t) :
    PS X (.Try body (h₀ :: hds) [] [] pos) (fun D σ H => tb (t D) D σ H) := by
  refine ⟨fun pins s σ H D I w => wpAny_Try_except ?_⟩
  have ok := I.ok
  refine wpAny_mono ((hb (t D) (X.pn ++ pins) (fun e s₁ => wpAny (model X.prog X.w) X.A (noteFrame e X.env) (fun _ s₂ => wpAny (model X.prog X.w) X.A (setFlight e none) (fun _ s₃ => wpAny (model X.prog X.w) X.A (handleBy e X.env (h₀ :: hds)) (SP X pins D) X.xe s₃) X.xe s₂) X.xe s₁)
    (fun u s' xx => ?_) PassesOwn.looking).run [] s σ H D (I.toTry _) w) (fun f s1 hsp => ?_) (fun _ _ z => z)
  · obtain ⟨a, B, sI, _, σ', H', cls, d, rfl, J, nb, up, sky, na, os, ag, w'⟩ := xx
    have sky' : Sky B (X.env :: X.outer) a (Zc cls d) X.env.locals s'.heap := by rw [← hs]; exact sky
    exact Sky.land Zc.steady (by rw [ok.frames, hs]) hf sky' fun h3 f3 u3 => hh ⟨J.ofTry ok, nb, up.trans u3, f3, na, os, ag⟩ w'
  · cases f with
    | next => obtain ⟨_, _, J, q⟩ := hsp; exact wpAny_execs_nil ⟨_, _, J.ofTry ok, q⟩
    | brk => obtain ⟨_, _, J, q⟩ := hsp; exact ⟨_, _, J.ofTry ok, q⟩
    | cont => obtain ⟨_, _, J, q⟩ := hsp; exact ⟨_, _, J.ofTry ok, q⟩
    | ret u => obtain ⟨_, _, _, J, r, q⟩ := hsp; exact ⟨_, _, _, J.ofTry ok, r, q⟩
end
end Zh
/-! the walk of a written dict with text keys -/
namespace Zk
open PySem PySem.Spec L2
open PyProof.Rows hiding St
/-- the keys, in their order -/
def KeyTs : List DictEntry → List Str → Prop
  | [], [] => True
  | e :: es, z :: zs => (∃ t, e.key = .str z t) ∧ KeyTs es zs
  | _, _ => False
theorem KeyTs.len : ∀ {es : List DictEntry} {zs : List Str}, KeyTs es zs → es.length = zs.length
  | [], [], _ => rfl
  | _ :: _, _ :: _, h => congrArg (· + 1) (KeyTs.len h.2)
  | [], _ :: _, h => h.elim
  | _ :: _, [], h => h.elim
theorem KeyTs.at : ∀ {es : List DictEntry} {zs : List Str}, KeyTs es zs → ∀ i, i < zs.length → ∃ e z t, es[i]? = some e ∧ zs[i]? = some z ∧ e.key = .str z t
  | [], [], _, i, h => absurd h (Nat.not_lt_zero _)
  | e :: _, z :: _, h, 0, _ => let ⟨t, q⟩ := h.1; ⟨e, z, t, rfl, rfl, q⟩
  | _ :: _, _ :: _, h, i + 1, l => by
    obtain ⟨e, z, t, q⟩ := KeyTs.at h.2 i (Nat.lt_of_succ_lt_succ l)
    exact ⟨e, z, t, by simpa using q⟩
  | [], _ :: _, h, _, _ => h.elim
  | _ :: _, [], h, _, _ => h.elim
def Itw (zs : List Str) : It := ⟨fun i _ => i < zs.length, fun i H x H' => H' = H ∧ ∃ z, zs[i]? = some z ∧ x = .str z, fun i _ => zs.length ≤ i⟩
section
variable {P : Program} {w : World} {K : PySem.W.Frag} {tg : Expr} {d : Addr} {es : Array DictEntry} {n : Nat} {zs : List Str}
theorem turn_kd (D : KDict K w d es n) (hk : KeyTs es.toList zs) (it : Addr) : Turn P w K tg (Itw zs) [it] it (fun i h => h.IsKeyIter it d i zs.length n) where
  mem := List.mem_cons_self
  self := fun A i s Q E st h => wpAny_pyIter_keyiter st h
  keep := fun i h h' st k => st.at fun oi e => k it List.mem_cons_self oi e
  obj := fun i h st b hb => by
    obtain rfl : b = it := List.mem_singleton.mp hb
    obtain ⟨oi, e, _, dd⟩ := st
    exact ⟨oi, e, fun v z => by rw [dd] at z; cases z⟩
  done := by
    intro X hP hw hK hc i pins s σ H E I hf st hg
    subst hP hw hK
    obtain ⟨f0, f1, f2, f3, f4, f5⟩ := hf it List.mem_cons_self
    exact next_key_end (I.ok.hd hc) st (I.kIn _ _ D.at_) rfl (by rw [← hk.len, Array.length_toList]) hg fun h' eb => ⟨rfl, I.turned (t' := s.toks) (fun b ob hb e => eb b ob hb e) f0 f1 f3 f4 f5⟩
  item := by
    intro X hP hw hK hc i pins s σ H E I hf st hg
    subst hP hw hK
    obtain ⟨f0, f1, f2, f3, f4, f5⟩ := hf it List.mem_cons_self
    obtain ⟨en, z, t, e1, e2, e3⟩ := hk.at i hg
    refine next_key_item st (I.kIn _ _ D.at_) rfl (by rw [← hk.len, Array.length_toList]) (by rw [← Array.getElem?_toList]; exact e1) fun h' st' sb => ?_
    obtain ⟨oi, e, c, dd⟩ := id st'
    exact ⟨en.key, rfl, go_of (s := { s with heap := h' }) e c dd (by decide) ⟨.str z, H, I.turned (t' := s.toks) (fun b ob hb e => (sb.2 b hb).trans e) f0 f1 f3 f4 f5, ⟨t, e3⟩, ⟨rfl, z, e2, rfl⟩, st', fun b hb => (hf b hb).1⟩⟩
def iKd (K : PySem.W.Frag) (w : World) (td : TE) : TI := fun σ H R => td σ H fun x H1 => ∃ d es n zs, x = .ref d ∧ KDict K w d es n ∧ KeyTs es.toList zs ∧ R (Itw zs) H1
theorem pi_kd {X : Cx} {tg e : Expr} {td : TE} (he : PE X e td) : PI X tg e (iKd X.K X.w td) := by
  refine ⟨fun pins s σ H R I h => ?_⟩
  refine thn (he.run pins s σ H _ I h) fun u s1 ⟨x, H1, I1, rx, d, es, n, zs, ex, D, hk, q⟩ => ?_
  subst ex
  obtain rfl : u = Value.ref d := rx
  refine iter_keys D.low (I1.kIn _ _ D.at_) ⟨rfl, rfl, rfl⟩ rfl (pi_one (tk := s1.toks) I1 _ (turn_kd D hk _) ⟨_, Heap.get?_push_size _ rfl, rfl, ?_⟩ q)
  rw [← hk.len, Array.length_toList] <;> rfl
end

/-! in a tuple of data -/
def rInU (K : PySem.W.Frag) (f : Bool → Bool) : R2 := fun x y H Q => ∃ d ds, Dp K H x d ∧ Dp K H y (.tuple ds) ∧ SeqAt.shaped d = true ∧ SeqAt.shaped (.tuple ds) = true ∧ Q (.bl (f (ds.any fun z => PyData.eqv z d))) H
theorem op_inU {X : Cx} (hu : X.A.units + 65 < cLine) : OpR X (compareOp .In) (rInU X.K fun b => b) := by
  intro pins s σ H x y v u Q I rx ry h
  obtain ⟨d, ds, hd, he, sd, se, q⟩ := h
  obtain ⟨_, r1⟩ := Dp.reads I d x v hd rx
  obtain ⟨_, r2⟩ := Dp.reads I (.tuple ds) y u he ry
  exact SeqAt.in_tuple_reads r2 r1 (SeqAt.canLay_of_shaped se) (SeqAt.canLay_of_shaped sd) (room_in_shaped sd hu) ⟨.bl _, H, I, rfl, q⟩
theorem op_ninU {X : Cx} (hu : X.A.units + 65 < cLine) : OpR X (compareOp .NotIn) (rInU X.K fun b => !b) := by
  intro pins s σ H x y v u Q I rx ry h
  obtain ⟨d, ds, hd, he, sd, se, q⟩ := h
  obtain ⟨_, r1⟩ := Dp.reads I d x v hd rx
  obtain ⟨_, r2⟩ := Dp.reads I (.tuple ds) y u he ry
  exact SeqAt.notIn_tuple_reads r2 r1 (SeqAt.canLay_of_shaped se) (SeqAt.canLay_of_shaped sd) (room_in_shaped sd hu) ⟨.bl _, H, I, rfl, q⟩
end Zk
namespace B
open PySem L2

/-! ## data, slots, values, results -/
inductive D where
  | non | bl (b : Bool) | int (i : Int) | str (x : Str)
  | tup (xs : List D) | lst (xs : List D) | ro (xs : List D)
  | obj (c : Nat) (fs : List (Str × D))
  | tbl (fs : List (Str × D))
inductive Sl where
  | un | fz (d : D) | ow (xs : List D) | ob (c : Nat) (fs : List (Str × D)) | xc (c : Nat) (fs : List (Str × D))
abbrev En := List Sl
inductive Vl where
  | pl (d : D) | fr (xs : List D) | al (i : Nat)
inductive R (α : Type) where
  | ok (a : α) | ex (c : Nat) (fs : List (Str × D)) (δ : En) | no
inductive Fl where
  | nx | bk | ct | rt (v : Vl)
namespace R
@[inline] def bind {α β : Type} (r : R α) (f : α → R β) : R β := match r with
  | .ok a => f a
  | .ex c fs δ => .ex c fs δ
  | .no => .no
/-- nothing raised leaves -/
def calm {α : Type} : R α → R α
  | .ok a => .ok a
  | _ => .no
def ofO {α : Type} : Option α → R α
  | some a => .ok a
  | none => .no
end R

inductive Ty where
  | int | bool | str | list | tuple | own (c : Nat) | verr
  deriving DecidableEq
inductive Bi where
  | len | abs | int | repr | all | any | list | tuple | sorted | max | min | sum | str | bool
  deriving DecidableEq
inductive It where
  | seq | rng1 | rng2 | zip | enum | zst
  deriving DecidableEq
inductive Tg where
  | nm (i : Nat) | tp (is : List Nat)
  deriving DecidableEq

/-- methods of built-in kinds -/
inductive Bm where
  | index | join
  deriving DecidableEq
/-- further forms: kal a call with keywords (the places' values, then the keywords'), sset sorted(set(..)) -/
inductive Xk where
  | kal (f : Nat) | bm (m : Bm) | sset
  deriving DecidableEq
inductive C where
  | int (i : Int) | bl (b : Bool) | non | str (x : Str)
  | var (i : Nat) | pk (i : Nat) | gl (g : Nat)
  | bin (op : Operator) (a b : C) | neg (a : C) | not (a : C)
  | bop (op : BoolOp) (a b : C) | one (op : BoolOp) (a : C)
  | cmp (op : CmpOp) (a b : C) | chn (op op' : CmpOp) (a b c : C)
  | ite (t a b : C)
  | cal (f : Nat) (as : C) | mak (c : Nat) (as : C)
  | bi (b : Bi) (as : C) | isi (a : C) (ts : List Ty)
  | mt (m : Str) (o as : C) | app (i : Nat) (a : C)
  | fld (o : C) (f : Str) | xf (i : Nat) (f : Str) | xi (i : Nat) (ts : List Ty)
  | ix (a b : C) | sl (a lo hi : C)
  | tup (as : C) | lst (as : C)
  | lc (own : List Nat) (tg : Tg) (k : It) (is t e : C)
  | lc2 (own vs : List Nat) (tg : Tg) (k : It) (is t : C) (tg1 : Tg) (k1 : It) (is1 t1 e : C)
  | yes | tst (a : C)
  | nil | cons (a r : C) | sole (a : C) | two (a b : C)
  | xt (k : Xk) (a b : C)

inductive S where
  | skip | seq (a b : S)
  | asg (i : Nat) (e : C) | par (i j : Nat) (as : C) | unp (is : List Nat) (e : C)
  | sti (i : Nat) (k e : C)
  | stf (i : Nat) (f : Str) (e : C)
  | aug (i : Nat) (op : Operator) (e : C)
  | iff (t : C) (a b : S)
  | for_ (tg : Tg) (k : It) (is : C) (b : S)
  | whl (t : C) (b : S)
  | ret (e : C) | retN | exp (e : C) | pass | brk | cnt
  | rai (c : Nat) (as : C)
  | try_ (b hs : S) | hnd (c : Nat) (i : Option Nat) (h r : S)

/-! ## data: what the operations give -/
mutual
def D.py : D → PyData
  | .non => .none
  | .bl b => .bool b
  | .int i => .int i
  | .str x => .str x
  | .tup xs => .tuple (D.pys xs)
  | .lst xs => .list (D.pys xs)
  | .ro xs => .list (D.pys xs)
  | .obj _ _ => .none
  | .tbl _ => .none
def D.pys : List D → List PyData
  | [] => []
  | x :: xs => D.py x :: D.pys xs
end
mutual
def D.pure : D → Bool
  | .tup xs => D.pures xs
  | .lst xs => D.pures xs
  | .ro xs => D.pures xs
  | .obj _ _ => false
  | .tbl _ => false
  | _ => true
def D.pures : List D → Bool
  | [] => true
  | x :: xs => D.pure x && D.pures xs
end
/-- fit for ==, in: no object within, at most 64 deep -/
def D.cmpb (d : D) : Bool := d.pure && SeqAt.shaped d.py
def D.eqv (d e : D) : Bool := PyData.eqv d.py e.py

def cutD (xs : List D) (lo hi : Option Int) : List D := (xs.drop (HT.sIx xs.length 0 lo)).take (HT.sIx xs.length xs.length hi - HT.sIx xs.length 0 lo)

def seqOf : D → Option (List D)
  | .tup xs => some xs
  | .lst xs => some xs
  | .ro xs => some xs
  | _ => none

/-- what a loop walks -/
def walkOf : D → Option (List D)
  | .tup xs => some xs
  | .lst xs => some xs
  | .ro xs => some xs
  | .tbl fs => some (fs.map fun p => .str p.1)
  | _ => none
/-- a op b: the value, and whether it is a new list -/
def addD : D → D → Option Vl
  | .int i, .int j => some (.pl (.int (i + j)))
  | .str x, .str y => if x.length + y.length ≤ sizeLine then some (.pl (.str (x ++ y))) else none
  | .lst xs, .lst ys => if xs.length + ys.length ≤ sizeLine then some (.fr (xs ++ ys)) else none
  | .tup xs, .tup ys => if xs.length + ys.length ≤ sizeLine then some (.pl (.tup (xs ++ ys))) else none
  | _, _ => none
def subD : D → D → Option Vl
  | .int i, .int j => some (.pl (.int (i - j)))
  | _, _ => none
def mulD : D → D → Option Vl
  | .int i, .int j => if (-(2 ^ 64) < i ∧ i < 2 ^ 64) ∨ (-(2 ^ 64) < j ∧ j < 2 ^ 64) then some (.pl (.int (i * j))) else none
  | .lst xs, .int k => if -(2 ^ 63) ≤ k ∧ k < 2 ^ 63 ∧ xs.length * k.toNat ≤ sizeLine then some (.fr (List.replicate k.toNat xs).flatten) else none
  | _, _ => none
def divD : D → D → Option Vl
  | .int i, .int j => if 0 < j ∧ j < 1073741824 then some (.pl (.int (i / j))) else none
  | _, _ => none
def modD : D → D → Option Vl
  | .int i, .int j => if 0 < j then some (.pl (.int (i % j))) else none
  | _, _ => none
def powD : D → D → Option Vl
  | .int i, .int j => if 0 ≤ j ∧ j ≤ 1000000 ∧ i.natAbs < 2 ^ 64 then some (.pl (.int (i ^ j.toNat))) else none
  | _, _ => none
def shlD : D → D → Option Vl
  | .int i, .int j => if 0 ≤ j ∧ j ≤ 1000000 ∧ i.natAbs < 2 ^ 64 then some (.pl (.int (i * 2 ^ j.toNat))) else none
  | _, _ => none
def binD (op : Operator) (a b : D) : Option Vl := match op with
  | .Add => addD a b
  | .Sub => subD a b
  | .Mult => mulD a b
  | .FloorDiv => divD a b
  | .Mod => modD a b
  | .Pow => powD a b
  | .LShift => shlD a b
  | _ => none

def ordD (p : Int → Int → Bool) : D → D → Option Bool
  | .int i, .int j => some (p i j)
  | _, _ => none
def eqD (a b : D) : Option Bool := if a.cmpb && b.cmpb then some (a.eqv b) else none
def isNonD : D → Bool
  | .non => true
  | _ => false
def isD : D → D → Option Bool
  | d, .non => some (isNonD d)
  | .bl a, .bl b => some (decide (a = b))
  | _, _ => none
def inD : D → D → Option Bool
  | a, .lst ys => if a.cmpb && (D.lst ys).cmpb then some (ys.any fun z => z.eqv a) else none
  | a, .ro ys => if a.cmpb && (D.lst ys).cmpb then some (ys.any fun z => z.eqv a) else none
  | a, .tup ys => if a.cmpb && (D.tup ys).cmpb then some (ys.any fun z => z.eqv a) else none
  | .str z, .tbl fs => some (fs.lookup z).isSome
  | _, _ => none
def cmpD (op : CmpOp) (a b : D) : Option Bool := match op with
  | .Lt => ordD (fun i j => decide (i < j)) a b
  | .LtE => ordD (fun i j => decide (i ≤ j)) a b
  | .Gt => ordD (fun i j => decide (j < i)) a b
  | .GtE => ordD (fun i j => decide (j ≤ i)) a b
  | .Eq => eqD a b
  | .NotEq => (eqD a b).map (!·)
  | .Is => isD a b
  | .IsNot => (isD a b).map (!·)
  | .In => inD a b
  | .NotIn => (inD a b).map (!·)

def truD : D → Option Bool
  | .bl b => some b
  | .non => some false
  | .int i => some (i != 0)
  | .str x => if x.length ≤ sizeLine then some (x.length != 0) else none
  | .lst xs => some (!xs.isEmpty)
  | .tup xs => some (!xs.isEmpty)
  | _ => none

def isT (sub : Nat → Nat → Bool) (ty : Ty) (d : D) : Bool := match ty, d with
  | .int, .int _ => true
  | .int, .bl _ => true
  | .bool, .bl _ => true
  | .str, .str _ => true
  | .list, .lst _ => true
  | .list, .ro _ => true
  | .tuple, .tup _ => true
  | .own c, .obj c' _ => sub c' c
  | _, _ => false
/-- fit for isinstance: its class is known -/
def knwD (nc : Nat) : D → Bool
  | .obj c _ => decide (c < nc)
  | .tbl _ => false
  | _ => true
def isiD (nc : Nat) (sub : Nat → Nat → Bool) (ts : List Ty) (d : D) : Option Bool := if knwD nc d then some (ts.any fun t => isT sub t d) else none

def lenD : D → Option Nat
  | .tup xs => some xs.length
  | .lst xs => some xs.length
  | .ro xs => some xs.length
  | .str x => if x.length ≤ sizeLine then some x.length else none
  | _ => none

/-- a[i] -/
def ixD (a i : D) : Option D := match a, i with
  | .tup xs, .int k => atI xs k
  | .lst xs, .int k => atI xs k
  | .ro xs, .int k => atI xs k
  | .tbl fs, .str z => fs.lookup z
  | .str z, .int k => if z.length ≤ sizeLine then (atI z.cps.toList k).map fun c => .str ⟨#[c]⟩ else none
  | _, _ => none

def boolsOf : List D → Option (List Bool)
  | [] => some []
  | .bl b :: r => (boolsOf r).map (b :: ·)
  | _ :: _ => none
def intsOf : List D → Option (List Int)
  | [] => some []
  | .int i :: r => (intsOf r).map (i :: ·)
  | _ :: _ => none

def biD (b : Bi) (as : List D) : Option Vl := match b, as with
  | .len, [d] => (lenD d).map fun n => .pl (.int n)
  | .abs, [.int i] => some (.pl (.int (if i < 0 then -i else i)))
  | .int, [.int i] => some (.pl (.int i))
  | .int, [.bl k] => some (.pl (.int (if k then 1 else 0)))
  | .bool, [.int i] => some (.pl (.bl (i != 0)))
  | .bool, [.bl k] => some (.pl (.bl k))
  | .repr, [d] => if d.pure && SeqAt.shaped d.py && d.py.showable && decide (d.py.shown.length ≤ sizeLine) then some (.pl (.str d.py.shown)) else none
  | .all, [.lst xs] => (boolsOf xs).map fun bs => .pl (.bl (bs.all id))
  | .any, [.lst xs] => (boolsOf xs).map fun bs => .pl (.bl (bs.any id))
  | .list, [.lst xs] => some (.fr xs)
  | .list, [.tup xs] => some (.fr xs)
  | .list, [.ro xs] => some (.fr xs)
  | .tuple, [.lst xs] => some (.pl (.tup xs))
  | .tuple, [.ro xs] => some (.pl (.tup xs))
  | .tuple, [.tup xs] => some (.pl (.tup xs))
  | .sum, [.lst xs] => (intsOf xs).map fun ns => .pl (.int ns.sum)
  | .sum, [.tup xs] => (intsOf xs).map fun ns => .pl (.int ns.sum)
  | .max, [.int i, .int j] => some (.pl (.int (if j > i then j else i)))
  | .min, [.int i, .int j] => some (.pl (.int (if j < i then j else i)))
  | _, _ => none

def strsOf : List D → Option (List Str)
  | [] => some []
  | .str x :: r => (strsOf r).map (x :: ·)
  | _ :: _ => none
/-- rows of integers -/
def rowsI : List D → Option (List (List Int))
  | [] => some []
  | .tup xs :: r => (intsOf xs).bind fun ns => (rowsI r).map (ns :: ·)
  | _ :: _ => none
/-- a row read as a number -/
def codeI (r : List Int) : Int := r.foldl (fun n v => 2 * n + v) 0
def insU (x : List Int) : List (List Int) → List (List Int)
  | [] => [x]
  | y :: r => if codeI x < codeI y then x :: y :: r else if codeI x = codeI y then y :: r else y :: insU x r
/-- each once, ascending -/
def sortU : List (List Int) → List (List Int)
  | [] => []
  | x :: r => insU x (sortU r)
/-- rows of 0 and 1, of one size, fewer than 64 -/
def fitU (rows : List (List Int)) : Bool := decide (rows.length < 64) && decide (1 ≤ (rows.headD []).length) && rows.all fun r => r.length == (rows.headD []).length && r.all fun v => decide (0 ≤ v) && decide (v < 2)
/-- sorted(set(..)) -/
def ssetD : D → Option Vl
  | .lst xs => (rowsI xs).bind fun rows => if fitU rows then some (.fr ((sortU rows).map fun r => .tup (r.map .int))) else none
  | _ => none
/-- the receiver's kind fits -/
def bmT (m : Bm) (x : D) : Bool := match m, x with
  | .index, .lst _ => true
  | .index, .ro _ => true
  | .join, .str _ => true
  | _, _ => false
/-- x.m(..) of a built-in kind -/
def bmD (m : Bm) (x : D) (as : List D) : Option Vl := match m, x, as with
  | .index, .lst ys, [a] => if a.cmpb && (D.lst ys).cmpb then (ys.findIdx? fun z => z.eqv a).map fun (n : Nat) => .pl (.int (n : Int)) else none
  | .index, .ro ys, [a] => if a.cmpb && (D.lst ys).cmpb then (ys.findIdx? fun z => z.eqv a).map fun (n : Nat) => .pl (.int (n : Int)) else none
  | .join, .str z, [.lst ys] => (strsOf ys).bind fun ss => if (ss.map (·.length)).sum + ss.length * z.length ≤ 16777216 then some (.pl (.str (Txt.join z ss))) else none
  | .join, .str z, [.tup ys] => (strsOf ys).bind fun ss => if (ss.map (·.length)).sum + ss.length * z.length ≤ 16777216 then some (.pl (.str (Txt.join z ss))) else none
  | _, _, _ => none

/-! ## slots -/
def gS (δ : En) (i : Nat) : Sl := δ.getD i .un
def dv (δ : En) : Vl → Option D
  | .pl d => some d
  | .fr xs => some (.lst xs)
  | .al i => match gS δ i with
    | .un => none
    | .fz d => some d
    | .ow xs => some (.lst xs)
    | .ob c fs => some (.obj c fs)
    | .xc _ _ => none
def dvs (δ : En) : List Vl → Option (List D)
  | [] => some []
  | v :: r => (dv δ v).bind fun d => (dvs δ r).map (d :: ·)
/-- handed over for good -/
def cv : Vl → Option D
  | .pl d => some d
  | .fr xs => some (.lst xs)
  | .al _ => none
def cvs : List Vl → Option (List D)
  | [] => some []
  | v :: r => (cv v).bind fun d => (cvs r).map (d :: ·)
/-- what a slot holds from a value -/
def slV : Vl → Option Sl
  | .pl d => some (.fz d)
  | .fr xs => some (.ow xs)
  | .al _ => none
/-- the parameter that a value becomes -/
def slA (δ : En) : Vl → Sl
  | .pl d => .fz d
  | .fr xs => .fz (.lst xs)
  | .al i => gS δ i
def als : List Vl → List Nat
  | [] => []
  | .al i :: r => i :: als r
  | _ :: r => als r
def giveBack (δ : En) : List Vl → List Sl → En
  | .al i :: r, s :: ss => giveBack (δ.set i s) r ss
  | _ :: r, _ :: ss => giveBack δ r ss
  | _, _ => δ

/-- what the defs and classes of the text do -/
structure Gv where
  gl : Nat → Option D
  nc : Nat
  sub : Nat → Nat → Bool
  fl : Nat → Str → Bool
  mt : Nat → Str → Option Nat
  ini : Nat → Option Nat
  xf : Nat → Option (List Str)
  xs : Nat → Nat → Option Bool
structure Orc extends Gv where
  cl : Nat → List Sl → R (Vl × List Sl)
  mkc : Nat → List Sl → R (Vl × List Sl)
/-- a call's end for the caller -/
def endC (δ : En) (vs : List Vl) : R (Vl × List Sl) → R (Vl × En)
  | .ok (v, ss) => .ok (v, giveBack δ vs ss)
  | .ex c fs ss => .ex c fs (giveBack δ vs ss)
  | .no => .no
/-- a making's end: what the first slot holds -/
def endM (c : Nat) (δ : En) (vs : List Vl) : R (Vl × List Sl) → R (Vl × En)
  | .ok (.pl .non, .ob c' fs :: ss) => if c' = c then .ok (.pl (.obj c fs), giveBack δ vs ss) else .no
  | .ex c fs (_ :: ss) => .ex c fs (giveBack δ vs ss)
  | _ => .no
def mtd (o : Orc) (m : Str) : Option D → Option Nat
  | some (.obj c fs) => if c < o.nc ∧ (fs.lookup m).isNone then o.mt c m else none
  | _ => none
def fldD (o : Orc) (f : Str) : D → Option D
  | .obj c fs => if c < o.nc ∧ o.fl c f = true then fs.lookup f else none
  | _ => none
/-- isinstance of an exception -/
def xi1 (o : Orc) (c : Nat) : Ty → Option Bool
  | .own c' => o.xs c c'
  | .verr => (o.xs c c).map fun _ => true
  | _ => none
def xiD (o : Orc) (c : Nat) : List Ty → Option Bool
  | [] => some false
  | t :: ts => match xi1 o c t, xiD o c ts with
    | some b, some d => some (b || d)
    | _, _ => none
def putD (f : Str) (d : D) : List (Str × D) → List (Str × D)
  | [] => [(f, d)]
  | (g, e) :: r => if g = f then (g, d) :: r else (g, e) :: putD f d r

def b2v (g : D → D → Option Bool) : D → D → Option Vl := fun a b => (g a b).map fun z => .pl (.bl z)
def negD : D → Option Vl
  | .int i => some (.pl (.int (-i)))
  | _ => none
def notD (d : D) : Option Vl := (truD d).map fun b => .pl (.bl (!b))
def ixV (a i : D) : Option Vl := (ixD a i).map .pl
/-- a loop's target -/
def bindN (bd : List Nat) : List Nat → List D → En → Option En
  | [], [], δ => some δ
  | i :: is, d :: ds, δ => if i ∈ bd ∨ δ.length ≤ i then none else bindN bd is ds (δ.set i (.fz d))
  | _, _, _ => none
def bindT (bd : List Nat) (tg : Tg) (d : D) (δ : En) : Option En := match tg with
  | .nm i => bindN bd [i] [d] δ
  | .tp is => match d with
    | .tup xs => bindN bd is xs δ
    | _ => none

/-- rows that are tuples or lists -/
def rowsOf : List D → Option (List (List D))
  | [] => some []
  | d :: r => (seqOf d).bind fun xs => (rowsOf r).map (xs :: ·)
def leastL (n : Nat) : List (List D) → Nat
  | [] => n
  | xs :: r => leastL (min n xs.length) r
/-- the items that a loop walks -/
def itD (k : It) (as : List D) : Option (List D) := match k, as with
  | .seq, [d] => walkOf d
  | .rng1, [.int j] => if -(2 ^ 62) ≤ j ∧ j < 2 ^ 62 then some ((List.range j.toNat).map fun (i : Nat) => .int (0 + (i : Int))) else none
  | .rng2, [.int i, .int j] => if -(2 ^ 62) ≤ i ∧ i < 2 ^ 62 ∧ -(2 ^ 62) ≤ j ∧ j < 2 ^ 62 then some ((List.range (j - i).toNat).map fun (n : Nat) => .int (i + (n : Int))) else none
  | .zst, [d] => (seqOf d).bind fun rs => (rowsOf rs).bind fun xss => if xss.length ≤ 4 then match xss with | [] => none | xs :: _ => some ((List.range (leastL xs.length xss)).map fun j => .tup (xss.map fun xs => xs.getD j .non)) else none
  | _, _ => none

/-- the block's own slots: emptied ahead, as they were behind -/
def wipeS (δ : En) : List Nat → En
  | [] => δ
  | i :: is => (wipeS δ is).set i .un
def backS (δ0 : En) : List Nat → En → En
  | [], δ => δ
  | i :: is, δ => backS δ0 is (δ.set i (gS (wipeS δ0 is) i))
def lcLoop (own : List Nat) (bind : D → En → Option En) (ft : En → R (Bool × En)) (fe : En → R (Vl × En)) : List D → List D → En → R (List D × En)
  | [], acc, δ => .ok (acc, δ)
  | d :: r, acc, δ => (R.ofO (bind d δ)).bind fun δ1 => (ft δ1).bind fun (b, δ2) =>
      if b then (fe δ2).bind fun (v, δ3) => (R.ofO (cv v)).bind fun e => if acc.length < sizeLine then lcLoop own bind ft fe r (acc ++ [e]) (wipeS δ3 own) else .no
      else lcLoop own bind ft fe r acc (wipeS δ2 own)

/-- two clauses -/
def lcLoop2 (own vs : List Nat) (bind : D → En → Option En) (ft : En → R (Bool × En)) (fi1 : En → R (List D × En)) (bind1 : D → En → Option En) (ft1 : En → R (Bool × En)) (fe : En → R (Vl × En)) : List D → List D → En → R (List D × En)
  | [], acc, δ => .ok (acc, δ)
  | d :: r, acc, δ => (R.ofO (bind d δ)).bind fun δ1 => (ft δ1).bind fun (b, δ2) =>
      if b then (fi1 δ2).bind fun (items, δ3) => (lcLoop vs bind1 ft1 fe items acc (wipeS δ3 vs)).bind fun (acc', δ4) => lcLoop2 own vs bind ft fi1 bind1 ft1 fe r acc' (wipeS δ4 own)
      else lcLoop2 own vs bind ft fi1 bind1 ft1 fe r acc (wipeS δ2 own)

def plainS : Sl → Bool
  | .un => true
  | .fz _ => true
  | _ => false

mutual
def evE (o : Orc) (bd : List Nat) : C → En → R (Vl × En)
  | .int i, δ => .ok (.pl (.int i), δ)
  | .bl b, δ => .ok (.pl (.bl b), δ)
  | .non, δ => .ok (.pl .non, δ)
  | .str x, δ => .ok (.pl (.str x), δ)
  | .var i, δ => match gS δ i with
    | .un => .no
    | .fz d => .ok (.pl d, δ)
    | .ow xs => if i ∈ bd then .no else .ok (.pl (.lst xs), δ.set i (.fz (.lst xs)))
    | .ob c fs => if i ∈ bd then .no else .ok (.pl (.obj c fs), δ.set i (.fz (.obj c fs)))
    | .xc _ _ => .no
  | .pk i, δ => match gS δ i with
    | .un => .no
    | .fz d => .ok (.pl d, δ)
    | .xc _ _ => .no
    | _ => .ok (.al i, δ)
  | .gl g, δ => (R.ofO (o.gl g)).bind fun d => .ok (.pl d, δ)
  | .bin op a b, δ => (evE o bd a δ).bind fun (v, δ1) => (evE o bd b δ1).bind fun (w, δ2) =>
      (R.ofO (dv δ2 v)).bind fun x => (R.ofO (dv δ2 w)).bind fun y => (R.ofO (binD op x y)).bind fun z => .ok (z, δ2)
  | .neg a, δ => (evE o bd a δ).bind fun (v, δ1) => (R.ofO (dv δ1 v)).bind fun x => (R.ofO (negD x)).bind fun z => .ok (z, δ1)
  | .not a, δ => (evE o bd a δ).bind fun (v, δ1) => (R.ofO (dv δ1 v)).bind fun x => (R.ofO (notD x)).bind fun z => .ok (z, δ1)
  | .one _ a, δ => evE o bd a δ
  | .bop op a b, δ => (evE o bd a δ).bind fun (v, δ1) => (R.ofO (dv δ1 v)).bind fun d => (R.ofO (truD d)).bind fun c => (match op with
      | .And => if c then evE o bd b δ1 else .ok (v, δ1)
      | .Or => if c then .ok (v, δ1) else evE o bd b δ1)
  | .cmp op a b, δ => (evE o bd a δ).bind fun (v, δ1) => (evE o bd b δ1).bind fun (w, δ2) =>
      (R.ofO (dv δ2 v)).bind fun x => (R.ofO (dv δ2 w)).bind fun y => (R.ofO (b2v (cmpD op) x y)).bind fun z => .ok (z, δ2)
  | .chn op op' a b c, δ => (evE o bd a δ).bind fun (v, δ1) => (evE o bd b δ1).bind fun (w, δ2) =>
      (R.ofO (dv δ2 v)).bind fun x => (R.ofO (dv δ2 w)).bind fun y => (R.ofO (cmpD op x y)).bind fun z =>
        if z then (evE o bd c δ2).bind fun (u, δ3) => (R.ofO (dv δ3 w)).bind fun y => (R.ofO (dv δ3 u)).bind fun x' => (R.ofO (cmpD op' y x')).bind fun z' => .ok (.pl (.bl z'), δ3)
        else .ok (.pl (.bl false), δ2)
  | .ite t a b, δ => (evT o bd t δ).bind fun (c, δ1) => if c then evE o bd a δ1 else evE o bd b δ1
  | .cal f as, δ => (evA o bd as δ).bind fun (vs, δ1) =>
      if (als vs).Nodup then endC δ1 vs (o.cl f (vs.map (slA δ1))) else .no
  | .mak c as, δ => (evA o bd as δ).bind fun (vs, δ1) =>
      if (als vs).Nodup then endM c δ1 vs (o.mkc c (.ob c [] :: vs.map (slA δ1))) else .no
  | .bi b as, δ => (evA o bd as δ).bind fun (vs, δ1) => (R.ofO (dvs δ1 vs)).bind fun ds => (R.ofO (biD b ds)).bind fun v => .ok (v, δ1)
  | .isi a ts, δ => (evE o bd a δ).bind fun (v, δ1) => (R.ofO (dv δ1 v)).bind fun d => (R.ofO (isiD o.nc o.sub ts d)).bind fun b => .ok (.pl (.bl b), δ1)
  | .mt m a as, δ => (evE o bd a δ).bind fun (v, δ1) => (R.ofO (mtd o m (dv δ1 v))).bind fun f => (evA o bd as δ1).bind fun (vs, δ2) =>
      if (als (v :: vs)).Nodup then endC δ2 (v :: vs) (o.cl f ((v :: vs).map (slA δ2))) else .no
  | .app i a, δ => (match gS δ i with | .ow _ => evE o bd a δ | _ => .no).bind fun (v, δ1) => (R.ofO (cv v)).bind fun d => match gS δ1 i with
    | .ow xs => if xs.length < sizeLine then .ok (.pl .non, δ1.set i (.ow (xs ++ [d]))) else .no
    | _ => .no
  | .fld a f, δ => (evE o bd a δ).bind fun (v, δ1) => (R.ofO (dv δ1 v)).bind fun d => (R.ofO ((fldD o f d).map .pl)).bind fun z => .ok (z, δ1)
  | .xf i f, δ => match gS δ i with
    | .xc c fs => if o.nc ≤ c ∧ o.fl c f = true then (R.ofO (fs.lookup f)).bind fun d => .ok (.pl d, δ) else .no
    | _ => .no
  | .xi i ts, δ => match gS δ i with
    | .xc c _ => (R.ofO (xiD o c ts)).bind fun b => .ok (.pl (.bl b), δ)
    | _ => .no
  | .ix a b, δ => (evE o bd a δ).bind fun (v, δ1) => (evE o bd b δ1).bind fun (w, δ2) =>
      (R.ofO (dv δ2 v)).bind fun x => (R.ofO (dv δ2 w)).bind fun y => (R.ofO (ixV x y)).bind fun z => .ok (z, δ2)
  | .sl a l h, δ => (evE o bd a δ).bind fun (v, δ1) => (evO o bd l δ1).bind fun (lo, δ2) => (evO o bd h δ2).bind fun (hi, δ3) => match dv δ3 v with
    | some (.lst xs) => .ok (.fr (cutD xs lo hi), δ3)
    | some (.ro xs) => .ok (.fr (cutD xs lo hi), δ3)
    | some (.tup xs) => .ok (.pl (.tup (cutD xs lo hi)), δ3)
    | _ => .no
  | .tup as, δ => (evA o bd as δ).bind fun (vs, δ1) => (R.ofO (cvs vs)).bind fun ds => if ds.length ≤ sizeLine then .ok (.pl (.tup ds), δ1) else .no
  | .lst as, δ => (evA o bd as δ).bind fun (vs, δ1) => (R.ofO (cvs vs)).bind fun ds => if ds.length ≤ sizeLine then .ok (.fr ds, δ1) else .no
  | .lc own tg k is t e, δ => ((evA o bd is δ).bind fun (vs, δ1) => (R.ofO (cvs vs)).bind fun ds => (R.ofO (itD k ds)).bind fun items => .ok (items, δ1)).bind fun (items, δ1) =>
      if own.all (fun i => plainS (gS δ1 i)) && own.all (fun i => !bd.contains i) then
        (lcLoop own (bindT bd tg) (evT o bd t) (evE o bd e) items [] (wipeS δ1 own)).calm.bind fun (zs, δ2) => .ok (.fr zs, backS δ1 own δ2)
      else .no
  | .lc2 own vs tg k is t tg1 k1 is1 t1 e, δ => ((evA o bd is δ).bind fun (vs, δ1) => (R.ofO (cvs vs)).bind fun ds => (R.ofO (itD k ds)).bind fun items => .ok (items, δ1)).bind fun (items, δ1) =>
      if own.all (fun i => plainS (gS δ1 i)) && own.all (fun i => !bd.contains i) then
        (lcLoop2 own vs (bindT bd tg) (evT o bd t) (fun δ => (evA o bd is1 δ).bind fun (vs, δ1) => (R.ofO (cvs vs)).bind fun ds => (R.ofO (itD k1 ds)).bind fun items => .ok (items, δ1)) (bindT bd tg1) (evT o bd t1) (evE o bd e) items [] (wipeS δ1 own)).calm.bind fun (zs, δ2) => .ok (.fr zs, backS δ1 own δ2)
      else .no
  | .yes, _ => .no
  | .tst _, _ => .no
  | .nil, _ => .no
  | .cons _ _, _ => .no
  | .sole _, _ => .no
  | .two _ _, _ => .no
  | .xt k a b, δ => match k with
    | .kal f => ((evA o bd a δ).bind fun (vs, δ1) => (evA o bd b δ1).bind fun (ws, δ2) => .ok (vs ++ ws, δ2)).bind fun (vs, δ1) =>
      if (als vs).Nodup then endC δ1 vs (o.cl f (vs.map (slA δ1))) else .no
    | .sset => (evE o bd a δ).bind fun (v, δ1) => (R.ofO (dv δ1 v)).bind fun x => (R.ofO (ssetD x)).bind fun z => .ok (z, δ1)
    | .bm m => (evE o bd a δ).bind fun (v, δ1) => (R.ofO (dv δ1 v)).bind fun x0 => if bmT m x0 then (evA o bd b δ1).bind fun (vs, δ2) => (R.ofO (dv δ2 v)).bind fun x => (R.ofO (dvs δ2 vs)).bind fun ds => (R.ofO (bmD m x ds)).bind fun z => .ok (z, δ2) else .no
termination_by structural c => c
def evT (o : Orc) (bd : List Nat) : C → En → R (Bool × En)
  | .yes, δ => .ok (true, δ)
  | .not a, δ => (evT o bd a δ).bind fun (b, δ1) => .ok (!b, δ1)
  | .one _ a, δ => evT o bd a δ
  | .bop op a b, δ => (evT o bd a δ).bind fun (c, δ1) => (match op with
      | .And => if c then evT o bd b δ1 else .ok (false, δ1)
      | .Or => if c then .ok (true, δ1) else evT o bd b δ1)
  | .ite t a b, δ => (evT o bd t δ).bind fun (c, δ1) => if c then evT o bd a δ1 else evT o bd b δ1
  | .tst e, δ => (evE o bd e δ).bind fun (v, δ1) => (R.ofO (dv δ1 v)).bind fun d => (R.ofO (truD d)).bind fun b => .ok (b, δ1)
  | .cmp op a b, δ => ((evE o bd a δ).bind fun (v, δ1) => (evE o bd b δ1).bind fun (w, δ2) =>
      (R.ofO (dv δ2 v)).bind fun x => (R.ofO (dv δ2 w)).bind fun y => (R.ofO (b2v (cmpD op) x y)).bind fun z => .ok (z, δ2)).bind fun (v, δ1) => (R.ofO (dv δ1 v)).bind fun d => (R.ofO (truD d)).bind fun b => .ok (b, δ1)
  | .chn op op' a b c, δ => ((evE o bd a δ).bind fun (v, δ1) => (evE o bd b δ1).bind fun (w, δ2) =>
      (R.ofO (dv δ2 v)).bind fun x => (R.ofO (dv δ2 w)).bind fun y => (R.ofO (cmpD op x y)).bind fun z =>
        if z then (evE o bd c δ2).bind fun (u, δ3) => (R.ofO (dv δ3 w)).bind fun y => (R.ofO (dv δ3 u)).bind fun x' => (R.ofO (cmpD op' y x')).bind fun z' => .ok (.pl (.bl z'), δ3)
        else .ok (.pl (.bl false), δ2)).bind fun (v, δ1) => (R.ofO (dv δ1 v)).bind fun d => (R.ofO (truD d)).bind fun b => .ok (b, δ1)
  | _, _ => .no
termination_by structural c => c
def evA (o : Orc) (bd : List Nat) : C → En → R (List Vl × En)
  | .nil, δ => .ok ([], δ)
  | .cons a r, δ => (evE o bd a δ).bind fun (v, δ1) => (evA o bd r δ1).bind fun (vs, δ2) => .ok (v :: vs, δ2)
  | .sole a, δ => (evE o bd a δ).bind fun (v, δ1) => (R.ok (([], δ1) : List Vl × En)).bind fun (vs, δ2) => .ok (v :: vs, δ2)
  | .two a b, δ => (evE o bd a δ).bind fun (v, δ1) => ((evE o bd b δ1).bind fun (v, δ1) => (R.ok (([], δ1) : List Vl × En)).bind fun (vs, δ2) => .ok (v :: vs, δ2)).bind fun (vs, δ2) => .ok (v :: vs, δ2)
  | _, _ => .no
termination_by structural c => c
def evO (o : Orc) (bd : List Nat) : C → En → R (Option Int × En)
  | .nil, δ => .ok (none, δ)
  | .tst e, δ => (evE o bd e δ).bind fun (v, δ1) => match dv δ1 v with
    | some (.int i) => .ok (some i, δ1)
    | _ => .no
  | _, _ => .no
termination_by structural c => c
end
/-! ## statements -/
def loop (bind : D → En → Option En) (f : En → R (Fl × En)) : List D → En → R (Fl × En)
  | [], δ => .ok (.nx, δ)
  | d :: r, δ => (R.ofO (bind d δ)).bind fun δ1 => match f δ1 with
    | .ok (.nx, δ2) => loop bind f r δ2
    | .ok (.ct, δ2) => loop bind f r δ2
    | .ok (.bk, δ2) => .ok (.nx, δ2)
    | .ok (.rt v, δ2) => .ok (.rt v, δ2)
    | .ex c fs δ2 => .ex c fs δ2
    | .no => .no
/-- n turns at most -/
def whl (t : En → R (Bool × En)) (f : En → R (Fl × En)) : Nat → En → R (Fl × En)
  | 0, _ => .no
  | n + 1, δ => (t δ).bind fun (b, δ1) => if b then (match f δ1 with
    | .ok (.nx, δ2) => whl t f n δ2
    | .ok (.ct, δ2) => whl t f n δ2
    | .ok (.bk, δ2) => .ok (.nx, δ2)
    | .ok (.rt v, δ2) => .ok (.rt v, δ2)
    | .ex c fs δ2 => .ex c fs δ2
    | .no => .no) else .ok (.nx, δ1)
def putS (bd : List Nat) (i : Nat) (v : Vl) (δ : En) : Option En := if i ∈ bd ∨ δ.length ≤ i then none else (slV v).map fun s => δ.set i s
/-- no exception is held -/
def xcB : Sl → Bool
  | .xc _ _ => true
  | _ => false
def noX (δ : En) : Bool := δ.all fun s => !xcB s
/-- the except clause's name goes -/
def endX (i : Nat) : R (Fl × En) → R (Fl × En)
  | .ok (f, δ) => if i < δ.length ∧ noX (δ.set i .un) = true then .ok (f, δ.set i .un) else .no
  | _ => .no
/-- no name was bound -/
def endN : R (Fl × En) → R (Fl × En)
  | .ok (f, δ) => if noX δ = true then .ok (f, δ) else .no
  | _ => .no
mutual
def evS (o : Orc) (bd : List Nat) : S → En → R (Fl × En)
  | .skip, δ => .ok (.nx, δ)
  | .pass, δ => .ok (.nx, δ)
  | .seq a b, δ => match evS o bd a δ with
    | .ok (.nx, δ1) => evS o bd b δ1
    | r => r
  | .asg i e, δ => (evE o bd e δ).bind fun (v, δ1) => (R.ofO (putS bd i v δ1)).bind fun δ2 => .ok (.nx, δ2)
  | .par i j as, δ => (evA o bd as δ).bind fun (vs, δ1) => (match vs with
    | [v, w] => (R.ofO (putS bd i v δ1)).bind fun δ2 => (R.ofO (putS bd j w δ2)).bind fun δ3 => .ok (.nx, δ3)
    | _ => .no)
  | .unp is e, δ => (evE o bd e δ).bind fun (v, δ1) => (R.ofO (cv v)).bind fun d => (match d with
    | .tup xs => (R.ofO (bindN bd is xs δ1)).bind fun δ2 => .ok (.nx, δ2)
    | .lst xs => (R.ofO (bindN bd is xs δ1)).bind fun δ2 => .ok (.nx, δ2)
    | _ => .no)
  | .sti i k e, δ => (evE o bd e δ).bind fun (v, δ1) => (R.ofO (cv v)).bind fun d => (match gS δ1 i with | .ow _ => evE o bd k δ1 | _ => .no).bind fun (w, δ2) => (match dv δ2 w, gS δ2 i with
    | some (.int j), .ow xs => (R.ofO (ixN xs.length j)).bind fun n => .ok (.nx, δ2.set i (.ow (xs.set n d)))
    | _, _ => .no)
  | .stf i f e, δ => (evE o bd e δ).bind fun (v, δ1) => (R.ofO (cv v)).bind fun d => (match gS δ1 i with
    | .ob c fs => if c < o.nc ∧ o.fl c f = true ∧ fs.length < 1000 then .ok (.nx, δ1.set i (.ob c (putD f d fs))) else .no
    | _ => .no)
  | .aug _ _ _, _ => .no
  | .iff t a b, δ => (evT o bd t δ).bind fun (c, δ1) => if c then evS o bd a δ1 else evS o bd b δ1
  | .for_ tg k is b, δ => ((evA o bd is δ).bind fun (vs, δ1) => (R.ofO (cvs vs)).bind fun ds => (R.ofO (itD k ds)).bind fun items => .ok (items, δ1)).bind fun (items, δ1) => loop (bindT bd tg) (evS o bd b) items δ1
  | .whl t b, δ => whl (evT o bd t) (evS o bd b) 1000000 δ
  | .ret e, δ => (evE o bd e δ).bind fun (v, δ1) => (R.ofO (slV v)).bind fun _ => .ok (.rt v, δ1)
  | .retN, δ => .ok (.rt (.pl .non), δ)
  | .exp e, δ => (evE o bd e δ).bind fun (_, δ1) => .ok (.nx, δ1)
  | .brk, δ => .ok (.bk, δ)
  | .cnt, δ => .ok (.ct, δ)
  | .rai c as, δ => (R.ofO (o.xf c)).bind fun ns => (evA o bd as δ).bind fun (vs, δ1) => (R.ofO (cvs vs)).bind fun ds => if ns.length = ds.length then .ex c (ns.zip ds).reverse δ1 else .no
  | .try_ b hs, δ => match evS o bd b δ with
    | .ex cl fs δ1 => evH o bd hs cl fs δ1
    | r => r
  | .hnd _ _ _ _, _ => .no
termination_by structural s => s
/-- the except clauses -/
def evH (o : Orc) (bd : List Nat) : S → Nat → List (Str × D) → En → R (Fl × En)
  | .hnd c i h r, cl, fs, δ => (R.ofO (o.xs cl c)).bind fun m => if m then (match i with
        | some i => if i ∈ bd ∨ δ.length ≤ i then .no else endX i (evS o bd h (δ.set i (.xc cl fs)))
        | none => endN (evS o bd h δ))
      else evH o bd r cl fs δ
  | .skip, cl, fs, δ => .ex cl fs δ
  | _, _, _, _ => .no
termination_by structural s => s
end

structure Def where
  np : Nat
  n : Nat
  bor : List Nat
  body : S
end B
namespace B
open PySem PySem.Spec L2
open PyProof.Rows hiding St

/-! ## what a value stands for -/
structure Kt where
  K : PySem.W.Frag
  ct : Nat → Addr
  xd : Addr → Nat → Addr → Prop
  /-- a written dict with text keys -/
  kd : Addr → List (Str × V) → Prop
def KSeq (K : PySem.W.Frag) (a : Addr) (T : String) (xs : List V) : Prop :=
  ∃ (o : Obj) (its : Array Value) (n : Nat), K.lookup a = some o ∧ o.cls = .type T ∧ o.dict = none ∧ o.data = .seq its n ∧ its.size ≤ sizeLine ∧ Vals xs its.toList
def TupAt (k : Kt) (O : Addr → Prop) (H : Hp) (a : Addr) (xs : List V) : Prop := (¬ O a ∧ H a = some (.tup xs)) ∨ KSeq k.K a "tuple" xs
def RoAt (k : Kt) (O : Addr → Prop) (H : Hp) (a : Addr) (xs : List V) : Prop := (¬ O a ∧ ∃ o, H a = some (.frz o (.lst xs))) ∨ KSeq k.K a "list" xs
/-- at a: a written dict with these entries -/
def KdF (K : PySem.W.Frag) (w : World) (a : Addr) (ps : List (Str × V)) : Prop :=
  ∃ es n, KDict K w a es n ∧ Zk.KeyTs es.toList (ps.map (·.1)) ∧ ∀ z, (∀ v, ps.lookup z = some v → ∃ u, PySem.W.nsIn K a z = some (some u) ∧ RelV v u) ∧ (ps.lookup z = none → PySem.W.nsIn K a z = some none)
mutual
inductive Rep (k : Kt) (O : Addr → Prop) (H : Hp) : V → D → Prop
  | non : Rep k O H .non .non
  | bl (b : Bool) : Rep k O H (.bl b) (.bl b)
  | int (i : Int) : Rep k O H (.int i) (.int i)
  | str (x : Str) : Rep k O H (.str x) (.str x)
  | tup {a : Addr} {xs : List V} {ds : List D} : TupAt k O H a xs → RepL k O H xs ds → Rep k O H (.ref a) (.tup ds)
  | lst {a : Addr} {xs : List V} {ds : List D} : ¬ O a → H a = some (.lst xs) → RepL k O H xs ds → Rep k O H (.ref a) (.lst ds)
  | ro {a : Addr} {xs : List V} {ds : List D} : RoAt k O H a xs → RepL k O H xs ds → Rep k O H (.ref a) (.ro ds)
  | obj {a dx : Addr} {c : Nat} {fvs : List (Str × V)} {fs : List (Str × D)} : ¬ O a → H a = some (.ins (k.ct c) dx fvs) → RepF k O H fvs fs → Rep k O H (.ref a) (.obj c fs)
  | tbl {a : Addr} {ps : List (Str × V)} {fs : List (Str × D)} : k.kd a ps → RepF k O H ps fs → Rep k O H (.ref a) (.tbl fs)
inductive RepL (k : Kt) (O : Addr → Prop) (H : Hp) : List V → List D → Prop
  | nil : RepL k O H [] []
  | cons {v : V} {vs : List V} {d : D} {ds : List D} : Rep k O H v d → RepL k O H vs ds → RepL k O H (v :: vs) (d :: ds)
inductive RepF (k : Kt) (O : Addr → Prop) (H : Hp) : List (Str × V) → List (Str × D) → Prop
  | nil : RepF k O H [] []
  | cons {f : Str} {v : V} {vs : List (Str × V)} {d : D} {ds : List (Str × D)} : Rep k O H v d → RepF k O H vs ds → RepF k O H ((f, v) :: vs) ((f, d) :: ds)
end
/-- all that a Rep may lean on stays -/
def Stays (O : Addr → Prop) (H : Hp) (O' : Addr → Prop) (H' : Hp) : Prop := ∀ a, ¬ O a → ∀ u, H a = some u → ¬ O' a ∧ H' a = some u
section
variable {k : Kt} {O O' : Addr → Prop} {H H' : Hp}
theorem TupAt.mono (s : Stays O H O' H') {a : Addr} {xs : List V} : TupAt k O H a xs → TupAt k O' H' a xs
  | .inl ⟨n, h⟩ => .inl (s a n _ h)
  | .inr h => .inr h
theorem RoAt.mono (s : Stays O H O' H') {a : Addr} {xs : List V} : RoAt k O H a xs → RoAt k O' H' a xs
  | .inl ⟨n, o, h⟩ => .inl ⟨(s a n _ h).1, o, (s a n _ h).2⟩
  | .inr h => .inr h
mutual
theorem Rep.mono (s : Stays O H O' H') : ∀ {v : V} {d : D}, Rep k O H v d → Rep k O' H' v d
  | _, _, .non => .non
  | _, _, .bl b => .bl b
  | _, _, .int b => .int b
  | _, _, .str b => .str b
  | _, _, .tup a r => .tup (a.mono s) (r.mono s)
  | _, _, .lst n a r => .lst (s _ n _ a).1 (s _ n _ a).2 (r.mono s)
  | _, _, .ro a r => .ro (a.mono s) (r.mono s)
  | _, _, .obj n a r => .obj (s _ n _ a).1 (s _ n _ a).2 (r.mono s)
  | _, _, .tbl a r => .tbl a (r.mono s)
theorem RepL.mono (s : Stays O H O' H') : ∀ {v : List V} {d : List D}, RepL k O H v d → RepL k O' H' v d
  | _, _, .nil => .nil
  | _, _, .cons a r => .cons (a.mono s) (r.mono s)
theorem RepF.mono (s : Stays O H O' H') : ∀ {v : List (Str × V)} {d : List (Str × D)}, RepF k O H v d → RepF k O' H' v d
  | _, _, .nil => .nil
  | _, _, .cons a r => .cons (a.mono s) (r.mono s)
end
theorem RepL.length : ∀ {v : List V} {d : List D}, RepL k O H v d → v.length = d.length
  | _, _, .nil => rfl
  | _, _, .cons _ r => by simp [r.length]
theorem RepL.get : ∀ {v : List V} {d : List D} {i : Nat} {x : D}, RepL k O H v d → d[i]? = some x → ∃ u, v[i]? = some u ∧ Rep k O H u x
  | _, _, _, _, .nil, e => by simp at e
  | _, _, 0, _, .cons r _, e => by simp at e; subst e; exact ⟨_, rfl, r⟩
  | _, _, i + 1, _, .cons _ t, e => by simpa using t.get (i := i) (by simpa using e)
theorem RepL.getV : ∀ {v : List V} {d : List D} {i : Nat} {u : V}, RepL k O H v d → v[i]? = some u → ∃ x, d[i]? = some x ∧ Rep k O H u x
  | _, _, _, _, .nil, e => by simp at e
  | _, _, 0, _, .cons r _, e => by simp at e; subst e; exact ⟨_, rfl, r⟩
  | _, _, i + 1, _, .cons _ t, e => by simpa using t.getV (i := i) (by simpa using e)
theorem RepL.append : ∀ {v w : List V} {d e : List D}, RepL k O H v d → RepL k O H w e → RepL k O H (v ++ w) (d ++ e)
  | _, _, _, _, .nil, r => r
  | _, _, _, _, .cons a t, r => .cons a (t.append r)
theorem RepL.set : ∀ {v : List V} {d : List D} (i : Nat) {u : V} {x : D}, RepL k O H v d → Rep k O H u x → RepL k O H (v.set i u) (d.set i x)
  | _, _, _, _, _, .nil, _ => .nil
  | _, _, 0, _, _, .cons _ t, r => .cons r t
  | _, _, i + 1, _, _, .cons a t, r => .cons a (t.set i r)
theorem RepL.drop : ∀ {v : List V} {d : List D} (n : Nat), RepL k O H v d → RepL k O H (v.drop n) (d.drop n)
  | _, _, 0, r => r
  | _, _, _ + 1, .nil => .nil
  | _, _, n + 1, .cons _ t => t.drop n
theorem RepL.take : ∀ {v : List V} {d : List D} (n : Nat), RepL k O H v d → RepL k O H (v.take n) (d.take n)
  | _, _, 0, _ => .nil
  | _, _, _ + 1, .nil => .nil
  | _, _, n + 1, .cons a t => .cons a (t.take n)
theorem RepL.rep {v : List V} {d : List D} (r : RepL k O H v d) : ∀ n : Nat, RepL k O H (List.replicate n v).flatten (List.replicate n d).flatten
  | 0 => .nil
  | n + 1 => by simp only [List.replicate_succ, List.flatten_cons]; exact r.append (r.rep n)
theorem RepF.look : ∀ {v : List (Str × V)} {d : List (Str × D)} {f : Str} {x : D}, RepF k O H v d → d.lookup f = some x → ∃ u, v.lookup f = some u ∧ Rep k O H u x
  | _, _, _, _, .nil, e => by simp at e
  | _, _, f, x, .cons (f := g) r t, e => by
    rw [List.lookup_cons] at e ⊢
    cases h : f == g with
    | true => rw [h] at e; cases e; exact ⟨_, rfl, r⟩
    | false => rw [h] at e; exact t.look e
theorem RepF.lookN {f : Str} : ∀ {v : List (Str × V)} {d : List (Str × D)}, RepF k O H v d → d.lookup f = none → v.lookup f = none
  | _, _, .nil, _ => rfl
  | _, _, .cons (f := g) r t, e => by
    rw [List.lookup_cons] at e ⊢
    cases h : f == g with
    | true => rw [h] at e; cases e
    | false => rw [h] at e; exact t.lookN e
theorem RepF.keys : ∀ {v : List (Str × V)} {d : List (Str × D)}, RepF k O H v d → v.map (·.1) = d.map (·.1)
  | _, _, .nil => rfl
  | _, _, .cons r t => by simp only [List.map_cons, t.keys]
theorem TupAt.sq {a : Addr} {xs : List V} : TupAt k O H a xs → SqT k.K H a xs
  | .inl ⟨_, h⟩ => .inl (.inl h)
  | .inr ⟨o, its, n, a, b, _, c, d, e⟩ => .inr ⟨o, its, n, a, b, c, d, e⟩
theorem RoAt.sq {a : Addr} {xs : List V} : RoAt k O H a xs → SqL k.K H a xs
  | .inl ⟨_, o, h⟩ => .inl (.inr ⟨o, h⟩)
  | .inr h => .inr h
end

/-! ## the entries of a frame: its slots and what is held for a while -/
abbrev Et := Option V × Sl
def EtOk (k : Kt) (O : Addr → Prop) (H : Hp) : Et → Prop
  | (_, .un) => True
  | (some v, .fz d) => Rep k O H v d
  | (some (.ref a), .ow ds) => O a ∧ ∃ xs, H a = some (.lst xs) ∧ RepL k O H xs ds
  | (some (.ref a), .ob c fs) => O a ∧ ∃ dx fvs, H a = some (.ins (k.ct c) dx fvs) ∧ RepF k O H fvs fs
  | (some (.ref a), .xc c fs) => ∃ dd fvs, k.xd a c dd ∧ ¬ O dd ∧ H dd = some (.xd fvs) ∧ RepF k O H fvs fs
  | _ => False
def oa : Et → List Addr
  | (some (.ref a), .ow _) => [a]
  | (some (.ref a), .ob _ _) => [a]
  | _ => []
theorem oa_O {k : Kt} {O : Addr → Prop} {H : Hp} {e : Et} (h : EtOk k O H e) {a : Addr} (ha : a ∈ oa e) : O a := by
  obtain ⟨ov, s⟩ := e
  cases ov with
  | none => cases s <;> simp [oa] at ha
  | some v =>
    cases v <;> cases s <;> simp [oa] at ha
    · subst ha; exact h.1
    · subst ha; exact h.1
/-- an entry that no owner's change touches -/
theorem EtOk.mono {k : Kt} {O O' : Addr → Prop} {H H' : Hp} (s : Stays O H O' H') {e : Et} (ho : ∀ a ∈ oa e, O' a ∧ H' a = H a) (h : EtOk k O H e) : EtOk k O' H' e := by
  obtain ⟨ov, sl⟩ := e
  cases sl with
  | un => exact True.intro
  | fz d =>
    cases ov with
    | none => exact h
    | some v => exact Rep.mono s h
  | ow ds =>
    cases ov with
    | none => exact h
    | some v =>
      cases v with
      | ref a =>
        obtain ⟨h1, xs, h2, h3⟩ := h
        obtain ⟨q1, q2⟩ := ho a (by simp [oa])
        exact ⟨q1, xs, q2.trans h2, h3.mono s⟩
      | _ => exact h
  | ob c fs =>
    cases ov with
    | none => exact h
    | some v =>
      cases v with
      | ref a =>
        obtain ⟨h1, dx, xs, h2, h3⟩ := h
        obtain ⟨q1, q2⟩ := ho a (by simp [oa])
        exact ⟨q1, dx, xs, q2.trans h2, h3.mono s⟩
      | _ => exact h
  | xc c fs =>
    cases ov with
    | none => exact h
    | some v =>
      cases v with
      | ref a =>
        obtain ⟨dd, xs, h0, h1, h2, h3⟩ := h
        exact ⟨dd, xs, h0, (s dd h1 _ h2).1, (s dd h1 _ h2).2, h3.mono s⟩
      | _ => exact h

/-- a def's entry: the heap, what was owned then, which parameters (slot, address) are lent -/
structure Cst where
  k : Kt
  H0 : Hp
  O0 : Addr → Prop
  Bs : List (Nat × Addr)
  h0 : ∀ b, O0 b → ∃ u, H0 b = some u
abbrev Cst.lent (c : Cst) (a : Addr) : Prop := a ∈ c.Bs.map (·.2)

structure FR (c : Cst) (O : Addr → Prop) (es : List Et) (H : Hp) : Prop where
  o0 : ∀ a, c.O0 a → O a
  o1 : ∀ a, c.lent a → O a
  tr : ∀ a, O a → ∃ u, H a = some u
  ok : ∀ e ∈ es, EtOk c.k O H e
  nd : (es.flatMap oa).Nodup
  nw : ∀ a ∈ es.flatMap oa, c.lent a ∨ c.H0 a = none
  pr : ∀ a u, c.H0 a = some u → ¬ c.lent a → H a = some u
  on : ∀ a, O a → c.O0 a ∨ c.H0 a = none
section
variable {c : Cst} {O : Addr → Prop} {es es' : List Et} {H : Hp}
theorem FR.perm (F : FR c O es H) (p : es.Perm es') : FR c O es' H :=
  ⟨F.o0, F.o1, F.tr, fun e h => F.ok e (p.mem_iff.mpr h), (p.flatMap_right oa).nodup_iff.mp F.nd, fun a h => F.nw a ((p.flatMap_right oa).mem_iff.mpr h), F.pr, F.on⟩
theorem sub_oa : ∀ {es' es : List Et}, es'.Sublist es → (es'.flatMap oa).Sublist (es.flatMap oa)
  | _, _, .slnil => .slnil
  | _, _, .cons a h => by rw [List.flatMap_cons]; exact (sub_oa h).trans (List.sublist_append_right _ _)
  | _, _, .cons_cons a h => by rw [List.flatMap_cons, List.flatMap_cons]; exact (List.Sublist.refl _).append (sub_oa h)
theorem FR.sub (F : FR c O es H) (p : es'.Sublist es) : FR c O es' H :=
  ⟨F.o0, F.o1, F.tr, fun e h => F.ok e (p.mem h), F.nd.sublist (sub_oa p), fun a h => F.nw a ((sub_oa p).mem h), F.pr, F.on⟩
theorem FR.none_O (F : FR c O es H) {p : Addr} (hp : H p = none) : ¬ O p := fun h => by
  obtain ⟨u, e⟩ := F.tr p h
  rw [hp] at e; cases e
theorem FR.own_O (F : FR c O es H) {a : Addr} (h : a ∈ es.flatMap oa) : O a := by
  obtain ⟨e, he, ha⟩ := List.mem_flatMap.mp h
  exact oa_O (F.ok e he) ha
theorem FR.none_H0 (F : FR c O es H) {p : Addr} (hp : H p = none) : c.H0 p = none := by
  cases e : c.H0 p with
  | none => rfl
  | some u =>
    by_cases hl : c.lent p
    · exact absurd (F.o1 p hl) (F.none_O hp)
    · have := F.pr p u e hl; rw [hp] at this; cases this
/-- a frozen thing more -/
theorem FR.addFz (F : FR c O es H) {v : V} {d : D} (r : Rep c.k O H v d) : FR c O ((some v, .fz d) :: es) H :=
  ⟨F.o0, F.o1, F.tr, fun e h => (List.mem_cons.mp h).elim (fun z => z ▸ r) (F.ok e), by simpa [oa] using F.nd, fun a h => F.nw a (by simpa [oa] using h), F.pr, F.on⟩
theorem FR.addUn (F : FR c O es H) {v : Option V} : FR c O ((v, .un) :: es) H :=
  ⟨F.o0, F.o1, F.tr, fun e h => (List.mem_cons.mp h).elim (fun z => z ▸ True.intro) (F.ok e), by cases v <;> simpa [oa] using F.nd, fun a h => F.nw a (by cases v <;> simpa [oa] using h), F.pr, F.on⟩
theorem stays_upd {O O' : Addr → Prop} {H : Hp} {p : Addr} {o : HO} (hp : H p = none ∨ O p) (h : ∀ a, a ≠ p → O' a → O a) : Stays O H O' (upd H p o) := fun a n u e => by
  have ne : a ≠ p := fun z => by
    subst z
    rcases hp with q | q
    · rw [e] at q; cases q
    · exact n q
  exact ⟨fun z => n (h a ne z), by rw [upd_ne ne]; exact e⟩
/-- a new frozen object -/
theorem FR.newFz (F : FR c O es H) {p : Addr} (hp : H p = none) {o : HO} {d : D} (r : Rep c.k O (upd H p o) (.ref p) d) : FR c O ((some (.ref p), .fz d) :: es) (upd H p o) := by
  have s : Stays O H O (upd H p o) := stays_upd (.inl hp) fun _ _ h => h
  refine ⟨F.o0, F.o1, fun a h => ?_, fun e h => ?_, by simpa [oa] using F.nd, fun a h => F.nw a (by simpa [oa] using h), fun a u e n => ?_, F.on⟩
  · obtain ⟨u, e⟩ := F.tr a h
    exact ⟨u, by rw [upd_ne (ne_of_none e hp)]; exact e⟩
  · rcases List.mem_cons.mp h with z | h
    · rw [z]; exact r
    · refine (F.ok e h).mono s fun a ha => ?_
      have q := oa_O (F.ok e h) ha
      exact ⟨q, upd_ne fun z => F.none_O hp (z ▸ q)⟩
  · have q := F.pr a u e n
    rw [upd_ne (ne_of_none q hp)]; exact q
theorem FR.newTup (F : FR c O es H) {p : Addr} (hp : H p = none) {xs : List V} {ds : List D} (r : RepL c.k O H xs ds) : FR c O ((some (.ref p), .fz (.tup ds)) :: es) (upd H p (.tup xs)) :=
  F.newFz hp (.tup (.inl ⟨F.none_O hp, upd_same⟩) (r.mono (stays_upd (.inl hp) fun _ _ h => h)))
/-- a new list -/
theorem FR.newLst (F : FR c O es H) {p : Addr} (hp : H p = none) {xs : List V} {ds : List D} (r : RepL c.k O H xs ds) :
    FR c (fun a => O a ∨ a = p) ((some (.ref p), .ow ds) :: es) (upd H p (.lst xs)) := by
  have s : Stays O H (fun a => O a ∨ a = p) (upd H p (.lst xs)) := stays_upd (.inl hp) fun a n h => h.elim id fun z => absurd z n
  have no : ¬ O p := F.none_O hp
  refine ⟨fun a h => .inl (F.o0 a h), fun a h => .inl (F.o1 a h), fun a h => ?_, fun e h => ?_, ?_, fun a h => ?_, fun a u e n => ?_, fun a h => h.elim (F.on a) fun z => .inr (z ▸ F.none_H0 hp)⟩
  · rcases h with h | rfl
    · obtain ⟨u, e⟩ := F.tr a h
      exact ⟨u, by rw [upd_ne (ne_of_none e hp)]; exact e⟩
    · exact ⟨_, upd_same⟩
  · rcases List.mem_cons.mp h with z | h
    · rw [z]; exact ⟨.inr rfl, xs, upd_same, r.mono s⟩
    · refine (F.ok e h).mono s fun a ha => ?_
      have q := oa_O (F.ok e h) ha
      exact ⟨.inl q, upd_ne fun z => no (z ▸ q)⟩
  · simp only [List.flatMap_cons, oa, List.singleton_append, List.nodup_cons]
    exact ⟨fun h => no (F.own_O h), F.nd⟩
  · simp only [List.flatMap_cons, oa, List.singleton_append, List.mem_cons] at h
    rcases h with rfl | h
    · exact .inr (F.none_H0 hp)
    · exact F.nw a h
  · have q := F.pr a u e n
    rw [upd_ne (ne_of_none q hp)]; exact q
/-- an owned list is frozen -/
theorem FR.freeze (F : FR c O es H) {a : Addr} {ds : List D} (he : es = (some (.ref a), .ow ds) :: es') (hl : ¬ c.lent a) :
    FR c (fun b => O b ∧ b ≠ a) ((some (.ref a), .fz (.lst ds)) :: es') H := by
  subst he
  obtain ⟨h1, xs, h2, h3⟩ := F.ok _ List.mem_cons_self
  have s : Stays O H (fun b => O b ∧ b ≠ a) H := fun b n u e => ⟨fun z => n z.1, e⟩
  have nd := F.nd
  simp only [List.flatMap_cons, oa, List.singleton_append, List.nodup_cons] at nd
  have hn : c.H0 a = none := (F.nw a (by simp [oa])).resolve_left hl
  refine ⟨fun b h => ⟨F.o0 b h, fun z => ?_⟩, fun b h => ⟨F.o1 b h, fun z => hl (z ▸ h)⟩, fun b h => F.tr b h.1, fun e h => ?_, by simpa [oa] using nd.2, fun b h => F.nw b ?_, F.pr, fun b h => F.on b h.1⟩
  · subst z
    obtain ⟨u, e⟩ := c.h0 b h
    rw [hn] at e; cases e
  · rcases List.mem_cons.mp h with z | h'
    · rw [z]; exact .lst (fun z => z.2 rfl) h2 (h3.mono s)
    · refine (F.ok e (List.mem_cons_of_mem _ h')).mono s fun b hb => ⟨⟨oa_O (F.ok e (List.mem_cons_of_mem _ h')) hb, fun z => nd.1 ?_⟩, rfl⟩
      exact List.mem_flatMap.mpr ⟨e, h', z ▸ hb⟩
  · simp only [List.flatMap_cons, oa, List.singleton_append, List.nil_append] at h ⊢
    exact List.mem_cons_of_mem _ h
/-- an owned object is frozen -/
theorem FR.freezeO (F : FR c O es H) {a : Addr} {cl : Nat} {fs : List (Str × D)} (he : es = (some (.ref a), .ob cl fs) :: es') (hl : ¬ c.lent a) :
    FR c (fun b => O b ∧ b ≠ a) ((some (.ref a), .fz (.obj cl fs)) :: es') H := by
  subst he
  obtain ⟨h1, dx, xs, h2, h3⟩ := F.ok _ List.mem_cons_self
  have s : Stays O H (fun b => O b ∧ b ≠ a) H := fun b n u e => ⟨fun z => n z.1, e⟩
  have nd := F.nd
  simp only [List.flatMap_cons, oa, List.singleton_append, List.nodup_cons] at nd
  have hn : c.H0 a = none := (F.nw a (by simp [oa])).resolve_left hl
  refine ⟨fun b h => ⟨F.o0 b h, fun z => ?_⟩, fun b h => ⟨F.o1 b h, fun z => hl (z ▸ h)⟩, fun b h => F.tr b h.1, fun e h => ?_, by simpa [oa] using nd.2, fun b h => F.nw b ?_, F.pr, fun b h => F.on b h.1⟩
  · subst z
    obtain ⟨u, e⟩ := c.h0 b h
    rw [hn] at e; cases e
  · rcases List.mem_cons.mp h with z | h'
    · rw [z]; exact .obj (fun z => z.2 rfl) h2 (h3.mono s)
    · refine (F.ok e (List.mem_cons_of_mem _ h')).mono s fun b hb => ⟨⟨oa_O (F.ok e (List.mem_cons_of_mem _ h')) hb, fun z => nd.1 ?_⟩, rfl⟩
      exact List.mem_flatMap.mpr ⟨e, h', z ▸ hb⟩
  · simp only [List.flatMap_cons, oa, List.singleton_append, List.nil_append] at h ⊢
    exact List.mem_cons_of_mem _ h
/-- an owned list is written -/
theorem FR.write (F : FR c O es H) {a : Addr} {ds ds' : List D} {xs' : List V} (he : es = (some (.ref a), .ow ds) :: es') (r : RepL c.k O H xs' ds') :
    FR c O ((some (.ref a), .ow ds') :: es') (upd H a (.lst xs')) := by
  subst he
  obtain ⟨h1, xs, h2, h3⟩ := F.ok _ List.mem_cons_self
  have s : Stays O H O (upd H a (.lst xs')) := stays_upd (.inr h1) fun _ _ h => h
  have nd := F.nd
  simp only [List.flatMap_cons, oa, List.singleton_append, List.nodup_cons] at nd
  refine ⟨F.o0, F.o1, fun b h => ?_, fun e h => ?_, by simpa [oa] using F.nd, fun b h => F.nw b (by simpa [oa] using h), fun b u e n => ?_, F.on⟩
  · by_cases z : b = a
    · exact ⟨_, by rw [z]; exact upd_same⟩
    · obtain ⟨u, e⟩ := F.tr b h
      exact ⟨u, by rw [upd_ne z]; exact e⟩
  · rcases List.mem_cons.mp h with z | h'
    · rw [z]; exact ⟨h1, _, upd_same, r.mono s⟩
    · refine (F.ok e (List.mem_cons_of_mem _ h')).mono s fun b hb => ⟨oa_O (F.ok e (List.mem_cons_of_mem _ h')) hb, upd_ne fun z => nd.1 ?_⟩
      exact List.mem_flatMap.mpr ⟨e, h', z ▸ hb⟩
  · have ne : b ≠ a := fun z => by
      rcases F.nw a (by simp [oa]) with q | q
      · exact n (by rw [z]; exact q)
      · rw [z, q] at e; cases e
    rw [upd_ne ne]; exact F.pr b u e n
end
end B
namespace B
open PySem PySem.Spec L2
open PyProof.Rows hiding St

/-! ## a frame's state -/
def isOwn : Sl → Prop
  | .ow _ => True
  | .ob _ _ => True
  | _ => False
structure FO (c : Cst) (O : Addr → Prop) (δ : En) (τ : List Et) (σ : St) (H : Hp) : Prop where
  fr : FR c O (τ ++ σ.zip δ) H
  len : σ.length = δ.length
  bs : ∀ p ∈ c.Bs, σ[p.1]? = some (some (.ref p.2)) ∧ isOwn (gS δ p.1)
def FS (c : Cst) (δ : En) (τ : List Et) (σ : St) (H : Hp) : Prop := ∃ O, FO c O δ τ σ H
abbrev Cst.bd (c : Cst) : List Nat := c.Bs.map (·.1)

theorem zip_split {σ : St} {δ : En} {i : Nat} {ov : Option V} {s : Sl} (h1 : σ[i]? = some ov) (h2 : δ[i]? = some s) : ∃ l1 l2 : List Et, σ.zip δ = l1 ++ (ov, s) :: l2 ∧ (∀ s', σ.zip (δ.set i s') = l1 ++ (ov, s') :: l2) ∧
    (∀ ov' s', (σ.set i ov').zip (δ.set i s') = l1 ++ (ov', s') :: l2) ∧ ∀ j ov' s', j ≠ i → σ[j]? = some ov' → δ[j]? = some s' → (ov', s') ∈ l1 ++ l2 := by
  induction σ generalizing δ i with
  | nil => simp at h1
  | cons o σ ih =>
    cases δ with
    | nil => simp at h2
    | cons d δ =>
      cases i with
      | zero =>
        simp at h1 h2
        subst h1 h2
        refine ⟨[], σ.zip δ, rfl, fun _ => rfl, fun _ _ => rfl, fun j ov' s' hj e1 e2 => ?_⟩
        cases j with
        | zero => exact absurd rfl hj
        | succ j =>
          simp at e1 e2
          obtain ⟨a1, b1⟩ := List.getElem?_eq_some_iff.mp e1
          obtain ⟨a2, b2⟩ := List.getElem?_eq_some_iff.mp e2
          have : (σ.zip δ)[j]? = some (ov', s') := by rw [List.getElem?_zip_eq_some]; exact ⟨e1, e2⟩
          exact List.mem_of_getElem? this
      | succ i =>
        obtain ⟨l1, l2, e, q1, q2, q3⟩ := ih (by simpa using h1) (by simpa using h2)
        refine ⟨(o, d) :: l1, l2, by simp [e], fun s' => by simp [q1], fun ov' s' => by simp [q2], fun j ov' s' hj e1 e2 => ?_⟩
        cases j with
        | zero => simp at e1 e2; subst e1 e2; exact List.mem_cons_self
        | succ j => exact List.mem_cons_of_mem _ (q3 j ov' s' (fun z => hj (by rw [z])) (by simpa using e1) (by simpa using e2))
theorem gS_get {δ : En} {i : Nat} {s : Sl} (h : gS δ i = s) (hs : s ≠ .un) : δ[i]? = some s := by
  unfold gS at h
  rw [List.getD_eq_getElem?_getD] at h
  cases e : δ[i]? with
  | none => rw [e] at h; exact absurd h.symm hs
  | some t => rw [e] at h; simp at h; rw [h]
theorem get_gS {δ : En} {i : Nat} {s : Sl} (h : δ[i]? = some s) : gS δ i = s := by
  unfold gS; rw [List.getD_eq_getElem?_getD, h]; rfl
theorem mid_perm (τ l1 l2 : List Et) (e : Et) : (τ ++ (l1 ++ e :: l2)).Perm (e :: (τ ++ (l1 ++ l2))) := by
  have h : (l1 ++ e :: l2).Perm (e :: (l1 ++ l2)) := List.perm_middle
  exact (h.append_left τ).trans List.perm_middle
section
variable {c : Cst} {O : Addr → Prop} {δ : En} {τ : List Et} {σ : St} {H : Hp}
theorem FO.slot (F : FO c O δ τ σ H) {i : Nat} {s : Sl} (h : gS δ i = s) (hs : s ≠ .un) : ∃ ov, σ[i]? = some ov ∧ δ[i]? = some s ∧ (ov, s) ∈ σ.zip δ ∧ EtOk c.k O H (ov, s) := by
  have e := gS_get h hs
  obtain ⟨hi, _⟩ := List.getElem?_eq_some_iff.mp e
  have hσ : i < σ.length := by rw [F.len]; exact hi
  have e1 : σ[i]? = some σ[i] := List.getElem?_eq_getElem hσ
  have m : (σ[i], s) ∈ σ.zip δ := List.mem_of_getElem? (i := i) (by rw [List.getElem?_zip_eq_some]; exact ⟨e1, e⟩)
  exact ⟨_, e1, e, m, F.fr.ok _ (List.mem_append_right _ m)⟩
/-- a lent address belongs to its slot alone -/
theorem FO.temp_nl (F : FO c O δ τ σ H) {τ' : List Et} {a : Addr} {e : Et} (hp : τ.Perm (e :: τ')) (ha : a ∈ oa e) : ¬ c.lent a := fun hl => by
  obtain ⟨p, hp1, rfl⟩ := List.mem_map.mp hl
  obtain ⟨h1, h2⟩ := F.bs p hp1
  have hs : gS δ p.1 ≠ .un := fun z => by rw [z] at h2; exact h2
  obtain ⟨ov, e1, e2, m, _⟩ := F.slot rfl hs
  rw [h1] at e1; cases e1
  have nd := (F.fr.perm (hp.append_right _)).nd
  simp only [List.cons_append, List.flatMap_cons, List.nodup_append] at nd
  refine nd.2.2 _ ha p.2 (List.mem_flatMap.mpr ⟨_, List.mem_append_right _ m, ?_⟩) rfl
  cases q : gS δ p.1 <;> rw [q] at h2 <;> first | exact h2.elim | simp [oa]
theorem FO.slot_nl (F : FO c O δ τ σ H) {i : Nat} {a : Addr} {s : Sl} (h1 : σ[i]? = some (some (.ref a))) (h2 : δ[i]? = some s) (hs : isOwn s) (hb : i ∉ c.bd) : ¬ c.lent a := fun hl => by
  obtain ⟨p, hp1, rfl⟩ := List.mem_map.mp hl
  obtain ⟨k1, k2⟩ := F.bs p hp1
  have ne : p.1 ≠ i := fun z => hb (z ▸ List.mem_map.mpr ⟨p, hp1, rfl⟩)
  have hk : gS δ p.1 ≠ .un := fun z => by rw [z] at k2; exact k2
  obtain ⟨ov, e1, e2, m, _⟩ := F.slot rfl hk
  rw [k1] at e1; cases e1
  obtain ⟨l1, l2, q1, q2, q3, q4⟩ := zip_split h1 h2
  have F1 : FR c O ((some (V.ref p.2), s) :: (τ ++ (l1 ++ l2))) H := F.fr.perm (by rw [q1]; exact mid_perm τ l1 l2 _)
  have nd := F1.nd
  simp only [List.flatMap_cons, List.nodup_append] at nd
  refine nd.2.2 p.2 ?_ p.2 (List.mem_flatMap.mpr ⟨_, List.mem_append_right _ (q4 _ _ _ ne k1 e2), ?_⟩) rfl
  · cases s <;> first | exact hs.elim | simp [oa]
  · cases q : gS δ p.1 <;> rw [q] at k2 <;> first | exact k2.elim | simp [oa]
theorem gS_set_ne {i j : Nat} {s : Sl} (h : j ≠ i) : gS (δ.set i s) j = gS δ j := by
  unfold gS; rw [List.getD_eq_getElem?_getD, List.getD_eq_getElem?_getD, List.getElem?_set_ne (Ne.symm h)]
theorem gS_set_same {i : Nat} {s t : Sl} (h : δ[i]? = some t) : gS (δ.set i s) i = s := by
  obtain ⟨hi, _⟩ := List.getElem?_eq_some_iff.mp h
  unfold gS; rw [List.getD_eq_getElem?_getD, List.getElem?_set_self hi]; rfl
/-- what is held for a while may be dropped, and mixed -/
theorem FO.sub (F : FO c O δ τ σ H) {τ' : List Et} (h : τ'.Sublist τ) : FO c O δ τ' σ H := ⟨F.fr.sub (h.append_right _), F.len, F.bs⟩
theorem FO.perm (F : FO c O δ τ σ H) {τ' : List Et} (h : τ.Perm τ') : FO c O δ τ' σ H := ⟨F.fr.perm (h.append_right _), F.len, F.bs⟩
theorem FO.addFz (F : FO c O δ τ σ H) {v : V} {d : D} (r : Rep c.k O H v d) : FO c O δ ((some v, .fz d) :: τ) σ H := ⟨F.fr.addFz r, F.len, F.bs⟩
theorem FO.addUn (F : FO c O δ τ σ H) {v : Option V} : FO c O δ ((v, .un) :: τ) σ H := ⟨F.fr.addUn, F.len, F.bs⟩
theorem FO.newTup (F : FO c O δ τ σ H) {p : Addr} (hp : H p = none) {xs : List V} {ds : List D} (r : RepL c.k O H xs ds) : FO c O δ ((some (.ref p), .fz (.tup ds)) :: τ) σ (upd H p (.tup xs)) := ⟨F.fr.newTup hp r, F.len, F.bs⟩
theorem FO.newLst (F : FO c O δ τ σ H) {p : Addr} (hp : H p = none) {xs : List V} {ds : List D} (r : RepL c.k O H xs ds) : FO c (fun a => O a ∨ a = p) δ ((some (.ref p), .ow ds) :: τ) σ (upd H p (.lst xs)) := ⟨F.fr.newLst hp r, F.len, F.bs⟩
/-- a new list held is frozen -/
theorem FO.freezeT (F : FO c O δ τ σ H) {τ' : List Et} {a : Addr} {ds : List D} (h : τ.Perm ((some (.ref a), .ow ds) :: τ')) : FO c (fun b => O b ∧ b ≠ a) δ ((some (.ref a), .fz (.lst ds)) :: τ') σ H :=
  ⟨(F.perm h).fr.freeze rfl (F.temp_nl h (by simp [oa])), F.len, F.bs⟩
/-- a slot's list is frozen -/
theorem FO.freezeS (F : FO c O δ τ σ H) {i : Nat} {ds : List D} (h : gS δ i = .ow ds) (hb : i ∉ c.bd) : ∃ a, σ[i]? = some (some (.ref a)) ∧ FO c (fun b => O b ∧ b ≠ a) (δ.set i (.fz (.lst ds))) τ σ H := by
  obtain ⟨ov, e1, e2, m, ok⟩ := F.slot h (fun z => by cases z)
  cases ov with
  | none => exact ok.elim
  | some v =>
    cases v with
    | ref a =>
      obtain ⟨l1, l2, q1, q2, q3, q4⟩ := zip_split e1 e2
      have F1 : FR c O ((some (V.ref a), Sl.ow ds) :: (τ ++ (l1 ++ l2))) H := F.fr.perm (by rw [q1]; exact mid_perm τ l1 l2 _)
      refine ⟨a, e1, ⟨?_, by rw [List.length_set]; exact F.len, fun p hp => ?_⟩⟩
      · rw [q2]
        exact (F1.freeze rfl (F.slot_nl e1 e2 True.intro hb)).perm (mid_perm τ l1 l2 _).symm
      · have ne : p.1 ≠ i := fun z => hb (z ▸ List.mem_map.mpr ⟨p, hp, rfl⟩)
        rw [gS_set_ne ne]
        exact F.bs p hp
    | _ => exact ok.elim
/-- a slot's object is frozen -/
theorem FO.freezeSO (F : FO c O δ τ σ H) {i : Nat} {cl : Nat} {fs : List (Str × D)} (h : gS δ i = .ob cl fs) (hb : i ∉ c.bd) : ∃ a, σ[i]? = some (some (.ref a)) ∧ FO c (fun b => O b ∧ b ≠ a) (δ.set i (.fz (.obj cl fs))) τ σ H := by
  obtain ⟨ov, e1, e2, m, ok⟩ := F.slot h (fun z => by cases z)
  cases ov with
  | none => exact ok.elim
  | some v =>
    cases v with
    | ref a =>
      obtain ⟨l1, l2, q1, q2, q3, q4⟩ := zip_split e1 e2
      have F1 : FR c O ((some (V.ref a), Sl.ob cl fs) :: (τ ++ (l1 ++ l2))) H := F.fr.perm (by rw [q1]; exact mid_perm τ l1 l2 _)
      refine ⟨a, e1, ⟨?_, by rw [List.length_set]; exact F.len, fun p hp => ?_⟩⟩
      · rw [q2]
        exact (F1.freezeO rfl (F.slot_nl e1 e2 True.intro hb)).perm (mid_perm τ l1 l2 _).symm
      · have ne : p.1 ≠ i := fun z => hb (z ▸ List.mem_map.mpr ⟨p, hp, rfl⟩)
        rw [gS_set_ne ne]
        exact F.bs p hp
    | _ => exact ok.elim
/-- a slot's list is written -/
theorem FO.writeS (F : FO c O δ τ σ H) {i : Nat} {ds ds' : List D} {a : Addr} {xs' : List V} (h : gS δ i = .ow ds) (e : σ[i]? = some (some (.ref a))) (r : RepL c.k O H xs' ds') : FO c O (δ.set i (.ow ds')) τ σ (upd H a (.lst xs')) := by
  have e2 := gS_get h (fun z => by cases z)
  obtain ⟨l1, l2, q1, q2, q3, q4⟩ := zip_split e e2
  have F1 : FR c O ((some (V.ref a), Sl.ow ds) :: (τ ++ (l1 ++ l2))) H := F.fr.perm (by rw [q1]; exact mid_perm τ l1 l2 _)
  refine ⟨?_, by rw [List.length_set]; exact F.len, fun p hp => ?_⟩
  · rw [q2]
    exact (F1.write rfl r).perm (mid_perm τ l1 l2 _).symm
  · by_cases ne : p.1 = i
    · rw [ne, gS_set_same e2]
      have := F.bs p hp
      rw [ne] at this
      exact ⟨this.1, True.intro⟩
    · rw [gS_set_ne ne]
      exact F.bs p hp
/-- what is held goes into a slot -/
theorem FO.putS (F : FO c O δ τ σ H) {τ' : List Et} {x : Option V} {s : Sl} {i : Nat} (h : τ.Perm ((x, s) :: τ')) (hi : i < σ.length) (hb : i ∉ c.bd) : FO c O (δ.set i s) τ' (σ.set i x) H := by
  have hδ : i < δ.length := by rw [← F.len]; exact hi
  have e1 : σ[i]? = some σ[i] := List.getElem?_eq_getElem hi
  have e2 : δ[i]? = some δ[i] := List.getElem?_eq_getElem hδ
  obtain ⟨l1, l2, q1, q2, q3, q4⟩ := zip_split e1 e2
  refine ⟨?_, by simp [F.len], fun p hp => ?_⟩
  · have F1 := (F.perm h).fr
    rw [q1] at F1
    rw [q3]
    refine (F1.sub (es' := (x, s) :: (τ' ++ (l1 ++ l2))) ?_).perm (mid_perm τ' l1 l2 _).symm
    exact List.Sublist.cons_cons _ ((List.Sublist.refl _).append ((List.Sublist.refl _).append (List.sublist_cons_self _ _)))
  · have ne : p.1 ≠ i := fun z => hb (z ▸ List.mem_map.mpr ⟨p, hp, rfl⟩)
    rw [gS_set_ne ne, List.getElem?_set_ne (Ne.symm ne)]
    exact F.bs p hp
end

/-! ## values -/
def ent (x : V) : Vl → Et
  | .pl d => (some x, .fz d)
  | .fr ds => (some x, .ow ds)
  | .al _ => (none, .un)
def VOk (σ : St) (x : V) : Vl → Prop
  | .al i => σ[i]? = some (some x)
  | _ => True
/-- a value's data, whoever owns it -/
def Den (k : Kt) (O : Addr → Prop) (H : Hp) (x : V) : D → Prop
  | .lst ds => ∃ a xs, x = .ref a ∧ H a = some (.lst xs) ∧ RepL k O H xs ds
  | .obj c fs => ∃ a dx fvs, x = .ref a ∧ H a = some (.ins (k.ct c) dx fvs) ∧ RepF k O H fvs fs
  | d => Rep k O H x d
theorem Rep.den {k : Kt} {O : Addr → Prop} {H : Hp} {x : V} {d : D} (r : Rep k O H x d) : Den k O H x d := by
  cases d with
  | lst ds => cases r with | lst n a r => exact ⟨_, _, rfl, a, r⟩
  | obj c fs => cases r with | obj n a r => exact ⟨_, _, _, rfl, a, r⟩
  | _ => exact r
section
variable {c : Cst} {O : Addr → Prop} {δ : En} {τ : List Et} {σ : St} {H : Hp}
theorem FO.den (F : FO c O δ τ σ H) {x : V} {v : Vl} {d : D} (hm : ent x v ∈ τ) (ok : VOk σ x v) (h : dv δ v = some d) : Den c.k O H x d := by
  have e := F.fr.ok _ (List.mem_append_left _ hm)
  cases v with
  | pl d' => cases h; exact Rep.den e
  | fr ds =>
    cases h
    cases x with
    | ref a => obtain ⟨_, xs, h2, h3⟩ := e; exact ⟨a, xs, rfl, h2, h3⟩
    | _ => exact e.elim
  | al i =>
    simp only [dv] at h
    cases q : gS δ i with
    | un => rw [q] at h; cases h
    | fz d' =>
      rw [q] at h; cases h
      obtain ⟨ov, e1, e2, m, o⟩ := F.slot q (fun z => by cases z)
      rw [show σ[i]? = some (some x) from ok] at e1; cases e1
      exact Rep.den o
    | ow ds =>
      rw [q] at h; cases h
      obtain ⟨ov, e1, e2, m, o⟩ := F.slot q (fun z => by cases z)
      rw [show σ[i]? = some (some x) from ok] at e1; cases e1
      cases x with
      | ref a => obtain ⟨_, xs, h2, h3⟩ := o; exact ⟨a, xs, rfl, h2, h3⟩
      | _ => exact o.elim
    | ob cc fs =>
      rw [q] at h; cases h
      obtain ⟨ov, e1, e2, m, o⟩ := F.slot q (fun z => by cases z)
      rw [show σ[i]? = some (some x) from ok] at e1; cases e1
      cases x with
      | ref a => obtain ⟨_, dx, xs, h2, h3⟩ := o; exact ⟨a, dx, xs, rfl, h2, h3⟩
      | _ => exact o.elim
    | xc cc fs => rw [q] at h; cases h
theorem Den.int {k : Kt} {x : V} {i : Int} (h : Den k O H x (.int i)) : x = .int i := by cases h; rfl
theorem Den.bl {k : Kt} {x : V} {i : Bool} (h : Den k O H x (.bl i)) : x = .bl i := by cases h; rfl
theorem Den.str {k : Kt} {x : V} {i : Str} (h : Den k O H x (.str i)) : x = .str i := by cases h; rfl
theorem Den.non {k : Kt} {x : V} (h : Den k O H x .non) : x = .non := by cases h; rfl
theorem Den.tup {k : Kt} {x : V} {ds : List D} (h : Den k O H x (.tup ds)) : ∃ a xs, x = .ref a ∧ TupAt k O H a xs ∧ RepL k O H xs ds := by cases h with | tup a r => exact ⟨_, _, rfl, a, r⟩
theorem Den.ro {k : Kt} {x : V} {ds : List D} (h : Den k O H x (.ro ds)) : ∃ a xs, x = .ref a ∧ RoAt k O H a xs ∧ RepL k O H xs ds := by cases h with | ro a r => exact ⟨_, _, rfl, a, r⟩
/-- what has no object within, as the library's data -/
theorem Rep.notNon {k : Kt} {v : V} (h : Rep k O H v .non) : v = .non := by cases h; rfl
mutual
theorem Rep.dp {k : Kt} : ∀ {v : V} {d : D}, Rep k O H v d → d.pure = true → Dp k.K H v d.py
  | _, _, .non, _ => by simp only [D.py]; exact .non
  | _, _, .bl b, _ => by simp only [D.py]; exact .bl b
  | _, _, .int b, _ => by simp only [D.py]; exact .int b
  | _, _, .str b, _ => by simp only [D.py]; exact .str b
  | _, _, .tup a r, h => by simp only [D.py]; exact .tup a.sq (r.dp (by simpa [D.pure] using h))
  | _, _, .lst n a r, h => by simp only [D.py]; exact .lst (SqL.of a) (r.dp (by simpa [D.pure] using h))
  | _, _, .ro a r, h => by simp only [D.py]; exact .lst a.sq (r.dp (by simpa [D.pure] using h))
  | _, _, .obj _ _ _, h => by simp [D.pure] at h
theorem RepL.dp {k : Kt} : ∀ {v : List V} {d : List D}, RepL k O H v d → D.pures d = true → DpAll k.K H v (D.pys d)
  | _, _, .nil, _ => by simp only [D.pys]; exact .nil
  | _, _, .cons a r, h => by
    simp only [D.pures, Bool.and_eq_true] at h
    simp only [D.pys]
    exact .cons (a.dp h.1) (r.dp h.2)
end
theorem Den.dp {k : Kt} {v : V} {d : D} (h : Den k O H v d) (hp : d.pure = true) : Dp k.K H v d.py := by
  cases d with
  | lst ds =>
    obtain ⟨a, xs, rfl, h2, h3⟩ := h
    simp only [D.py]
    exact .lst (SqL.of h2) (h3.dp (by simpa [D.pure] using hp))
  | obj c fs => simp [D.pure] at hp
  | _ => exact Rep.dp h hp
end

/-! ## what is wanted behind an evaluation -/
def Post (c : Cst) (W : WX) (σ : St) (τ : List Et) (r : R (Vl × En)) (Q : VK) : Prop := match r with
  | .ok (v, δ) => ∀ x H, FS c δ (ent x v :: τ) σ H → VOk σ x v → Q x H
  | .ex cl fs δ => ∀ H d fvs O, FO c O δ τ σ H → H d = some (.xd fvs) → RepF c.k O H fvs fs → ¬ O d → W (.ref (c.k.ct cl)) (some d) σ H
  | .no => False
def rdE (c : Cst) (W : WX) (f : En → R (Vl × En)) : TE := fun σ H Q => ∃ δ τ, FS c δ τ σ H ∧ Post c W σ τ (f δ) Q
def PostT (c : Cst) (W : WX) (σ : St) (τ : List Et) (r : R (Bool × En)) (Q : Bool → Hp → Prop) : Prop := match r with
  | .ok (v, δ) => ∀ H, FS c δ τ σ H → Q v H
  | .ex cl fs δ => ∀ H d fvs O, FO c O δ τ σ H → H d = some (.xd fvs) → RepF c.k O H fvs fs → ¬ O d → W (.ref (c.k.ct cl)) (some d) σ H
  | .no => False
def rdT (c : Cst) (W : WX) (f : En → R (Bool × En)) : TT := fun σ H Q => ∃ δ τ, FS c δ τ σ H ∧ PostT c W σ τ (f δ) Q
def ents : List V → List Vl → List Et
  | x :: xs, v :: vs => ent x v :: ents xs vs
  | _, _ => []
def VOks (σ : St) : List V → List Vl → Prop
  | x :: xs, v :: vs => VOk σ x v ∧ VOks σ xs vs
  | [], [] => True
  | _, _ => False
def PostA (c : Cst) (W : WX) (σ : St) (τ : List Et) (r : R (List Vl × En)) (Q : List V → Hp → Prop) : Prop := match r with
  | .ok (vs, δ) => ∀ xs H, FS c δ (ents xs vs ++ τ) σ H → VOks σ xs vs → Q xs H
  | .ex cl fs δ => ∀ H d fvs O, FO c O δ τ σ H → H d = some (.xd fvs) → RepF c.k O H fvs fs → ¬ O d → W (.ref (c.k.ct cl)) (some d) σ H
  | .no => False
def rdA (c : Cst) (W : WX) (f : En → R (List Vl × En)) : TA := fun σ H Q => ∃ δ τ, FS c δ τ σ H ∧ PostA c W σ τ (f δ) Q
def PostO (c : Cst) (W : WX) (σ : St) (τ : List Et) (r : R (Option Int × En)) (Q : Option Int → Hp → Prop) : Prop := match r with
  | .ok (v, δ) => ∀ H, FS c δ τ σ H → Q v H
  | .ex cl fs δ => ∀ H d fvs O, FO c O δ τ σ H → H d = some (.xd fvs) → RepF c.k O H fvs fs → ¬ O d → W (.ref (c.k.ct cl)) (some d) σ H
  | .no => False
def rdO (c : Cst) (W : WX) (f : En → R (Option Int × En)) : TO := fun σ H Q => ∃ δ τ, FS c δ τ σ H ∧ PostO c W σ τ (f δ) Q
end B
namespace B
open PySem PySem.Spec L2
open PyProof.Rows hiding St

/-! ## one after another -/
def ExK (c : Cst) (W : WX) (σ : St) (τ : List Et) (cl : Nat) (fs : List (Str × D)) (δ : En) : Prop :=
  ∀ H d fvs O, FO c O δ τ σ H → H d = some (.xd fvs) → RepF c.k O H fvs fs → ¬ O d → W (.ref (c.k.ct cl)) (some d) σ H
section
variable {c : Cst} {W : WX} {σ : St} {τ τ' : List Et} {H : Hp} {δ : En}
theorem ExK.weak {cl : Nat} {fs : List (Str × D)} (h : ExK c W σ τ cl fs δ) (s : τ.Sublist τ') : ExK c W σ τ' cl fs δ := fun H d fvs O F e r n => h H d fvs O (F.sub s) e r n
theorem seqE {fa : En → R (Vl × En)} {Q : VK} (F : FS c δ τ σ H) (hex : ∀ cl fs δ', fa δ = .ex cl fs δ' → ExK c W σ τ cl fs δ') (hno : fa δ ≠ .no)
    (hok : ∀ v δ1, fa δ = .ok (v, δ1) → ∀ x H1, FS c δ1 (ent x v :: τ) σ H1 → VOk σ x v → Q x H1) : rdE c W fa σ H Q := by
  refine ⟨δ, τ, F, ?_⟩
  unfold Post
  cases e : fa δ with
  | ok p => exact hok p.1 p.2 e
  | ex cl fs δ' => exact hex cl fs δ' e
  | no => exact hno e
theorem seqT {fa : En → R (Bool × En)} {Q : Bool → Hp → Prop} (F : FS c δ τ σ H) (hex : ∀ cl fs δ', fa δ = .ex cl fs δ' → ExK c W σ τ cl fs δ') (hno : fa δ ≠ .no)
    (hok : ∀ v δ1, fa δ = .ok (v, δ1) → ∀ H1, FS c δ1 τ σ H1 → Q v H1) : rdT c W fa σ H Q := by
  refine ⟨δ, τ, F, ?_⟩
  unfold PostT
  cases e : fa δ with
  | ok p => exact hok p.1 p.2 e
  | ex cl fs δ' => exact hex cl fs δ' e
  | no => exact hno e
theorem seqA {fa : En → R (List Vl × En)} {Q : List V → Hp → Prop} (F : FS c δ τ σ H) (hex : ∀ cl fs δ', fa δ = .ex cl fs δ' → ExK c W σ τ cl fs δ') (hno : fa δ ≠ .no)
    (hok : ∀ v δ1, fa δ = .ok (v, δ1) → ∀ x H1, FS c δ1 (ents x v ++ τ) σ H1 → VOks σ x v → Q x H1) : rdA c W fa σ H Q := by
  refine ⟨δ, τ, F, ?_⟩
  unfold PostA
  cases e : fa δ with
  | ok p => exact hok p.1 p.2 e
  | ex cl fs δ' => exact hex cl fs δ' e
  | no => exact hno e
theorem seqO {fa : En → R (Option Int × En)} {Q : Option Int → Hp → Prop} (F : FS c δ τ σ H) (hex : ∀ cl fs δ', fa δ = .ex cl fs δ' → ExK c W σ τ cl fs δ') (hno : fa δ ≠ .no)
    (hok : ∀ v δ1, fa δ = .ok (v, δ1) → ∀ H1, FS c δ1 τ σ H1 → Q v H1) : rdO c W fa σ H Q := by
  refine ⟨δ, τ, F, ?_⟩
  unfold PostO
  cases e : fa δ with
  | ok p => exact hok p.1 p.2 e
  | ex cl fs δ' => exact hex cl fs δ' e
  | no => exact hno e
end
/-- what an evaluation that goes on with g leaves: P of the whole, by the first part's end -/
theorem bindE {α β : Type} {P : R β → Prop} {r : R α} {g : α → R β} (h : P (r.bind g)) : (∀ cl fs δ', r = .ex cl fs δ' → P (.ex cl fs δ')) ∧ (r = .no → P .no) ∧ ∀ a, r = .ok a → P (g a) :=
  ⟨fun _ _ _ e => by subst e; exact h, fun e => by subst e; exact h, fun _ e => by subst e; exact h⟩
theorem bindO {α β : Type} {P : R β → Prop} {r : Option α} {g : α → R β} (h : P ((R.ofO r).bind g)) (hn : ¬ P .no) : ∃ a, r = some a ∧ P (g a) := by
  cases r with
  | none => exact absurd h hn
  | some a => exact ⟨a, rfl, h⟩

/-! ## where one stands -/
structure Gd (X : Cx) (c : Cst) (lv : Nat) (q : Bool) : Prop where
  nd : X.N.Nodup
  calm : q = true → X.calm = true
  room : q = true → Room lv X.A
  un : X.A.units + 150 < cLine
  K : X.K = c.k.K
  kd : ∀ a ps, c.k.kd a ps → KdF X.K X.w a ps
section
variable {X : Cx} {c : Cst} {W : WX} {fa fb : En → R (Vl × En)} {a b : Expr} {pos : Pos} {lv : Nat}

theorem peOf {e : Expr} {t t' : TE} (h : PE X e t) (i : ∀ σ H Q, t' σ H Q → t σ H Q) : PE X e t' := ⟨fun pins s σ H Q I q => h.run pins s σ H Q I (i σ H Q q)⟩
theorem ptOf {e : Expr} {t t' : TT} (h : PT X e t) (i : ∀ σ H Q, t' σ H Q → t σ H Q) : PT X e t' := ⟨fun pins s σ H Q I q => h.run pins s σ H Q I (i σ H Q q)⟩

/-- two values, then z: from the two parts' ends -/
def do2 (fa fb : En → R (Vl × En)) (g : D → D → Option Vl) : En → R (Vl × En) := fun δ => (fa δ).bind fun (v, δ1) => (fb δ1).bind fun (w, δ2) =>
  (R.ofO (dv δ2 v)).bind fun x => (R.ofO (dv δ2 w)).bind fun y => (R.ofO (g x y)).bind fun z => .ok (z, δ2)
/-- what an operator's rule must give -/
def Rule2 (c : Cst) (r : R2) (g : D → D → Option Vl) : Prop := ∀ (O : Addr → Prop) (δ : En) (τ : List Et) (σ : St) (H : Hp) (Q : VK) (x y : V) (v w : Vl) (d e : D) (z : Vl),
  FO c O δ (ent y w :: ent x v :: τ) σ H → Den c.k O H x d → Den c.k O H y e → g d e = some z → (∀ u H', FS c δ (ent u z :: τ) σ H' → VOk σ u z → Q u H') → r x y H Q
theorem s_two {r : R2} {g : D → D → Option Vl} (hr : Rule2 c r g) : ∀ σ H Q, rdE c W (do2 fa fb g) σ H Q → tOp r (rdE c W fa) (rdE c W fb) σ H Q := by
  rintro σ H Q ⟨δ, τ, F, P⟩
  obtain ⟨p1, p2, p3⟩ := bindE (P := fun r => Post c W σ τ r Q) (show Post c W σ τ ((fa δ).bind _) Q from P)
  refine seqE F (fun cl fs δ' e => p1 cl fs δ' e) (fun e => p2 e) fun v δ1 e1 x H1 F1 o1 => ?_
  obtain ⟨q1, q2, q3⟩ := bindE (P := fun r => Post c W σ τ r Q) (p3 _ e1)
  refine seqE F1 (fun cl fs δ' e => ExK.weak (q1 cl fs δ' e) (List.sublist_cons_self _ _)) (fun e => q2 e) fun w δ2 e2 y H2 F2 o2 => ?_
  obtain ⟨d, ed, h⟩ := bindO (P := fun r => Post c W σ τ r Q) (q3 _ e2) (fun z => z)
  obtain ⟨e, ee, h⟩ := bindO (P := fun r => Post c W σ τ r Q) h (fun z => z)
  obtain ⟨z, ez, h⟩ := bindO (P := fun r => Post c W σ τ r Q) h (fun z => z)
  obtain ⟨O, F2⟩ := F2
  exact hr O δ2 τ σ H2 Q x y v w d e z F2 (F2.den (List.mem_cons_of_mem _ List.mem_cons_self) o1 ed) (F2.den List.mem_cons_self o2 ee) ez h
theorem s_op {op : Operator} {r : R2} {g : D → D → Option Vl} (ho : OpR X (binaryOp op) r) (hr : Rule2 c r g) (ha : PE X a (rdE c W fa)) (hb : PE X b (rdE c W fb)) :
    PE X (.BinOp a op b pos) (rdE c W (do2 fa fb g)) := peOf (pe_op ho ha hb) (s_two hr)

/-- a scalar, a new tuple, a new list behind two held values -/
theorem out_fz {O : Addr → Prop} {δ : En} {τ τ' : List Et} {σ : St} {H : Hp} {u : V} {d : D} (F : FO c O δ τ' σ H) (s : τ.Sublist τ') (r : Rep c.k O H u d) : FS c δ (ent u (.pl d) :: τ) σ H := ⟨O, (F.sub s).addFz r⟩
theorem sub2 {e1 e2 : Et} {τ : List Et} : τ.Sublist (e1 :: e2 :: τ) := (List.sublist_cons_self _ _).trans (List.sublist_cons_self _ _)
theorem sub1 {e1 : Et} {τ : List Et} : τ.Sublist (e1 :: τ) := List.sublist_cons_self _ _

theorem rule_add : Rule2 c (fun x y H Q => rI0 (fun i j => .int (i + j)) x y H Q ∨ (∃ i j, x = .str i ∧ y = .str j ∧ i.length + j.length ≤ sizeLine ∧ Q (.str (i ++ j)) H) ∨ rCat x y H Q ∨ rCatA c.k.K x y H Q) addD := by
  intro O δ τ σ H Q x y v w d e z F h1 h2 hz q
  cases d <;> cases e <;> simp only [addD] at hz <;> try contradiction
  · cases hz
    exact .inl ⟨_, _, h1.int, h2.int, q _ _ (out_fz F sub2 (.int _)) True.intro⟩
  · split at hz <;> cases hz
    exact .inr (.inl ⟨_, _, h1.str, h2.str, by assumption, q _ _ (out_fz F sub2 (.str _)) True.intro⟩)
  · obtain ⟨a, xs, rfl, ta, ra⟩ := h1.tup
    obtain ⟨b, ys, rfl, tb, rb⟩ := h2.tup
    split at hz <;> cases hz
    rename_i hl
    refine .inr (.inr (.inr ⟨a, b, xs, ys, rfl, rfl, ta.sq, tb.sq, (by rw [ra.length, rb.length]; exact hl), fun e => ?_, fun _ e => ?_, fun _ _ p hp => ?_⟩))
    · subst e
      cases ra
      exact q _ _ (out_fz F sub2 (.tup tb rb)) True.intro
    · subst e
      cases rb
      rw [List.append_nil] at q
      exact q _ _ (out_fz F sub2 (.tup ta ra)) True.intro
    · exact q _ _ ⟨O, (F.sub sub2).newTup hp (ra.append rb)⟩ True.intro
  · obtain ⟨a, xs, rfl, ta, ra⟩ := h1
    obtain ⟨b, ys, rfl, tb, rb⟩ := h2
    split at hz <;> cases hz
    rename_i hl
    exact .inr (.inr (.inl ⟨a, b, xs, ys, rfl, rfl, ta, tb, by rw [ra.length, rb.length]; exact hl, fun p hp => q _ _ ⟨_, (F.sub sub2).newLst hp (ra.append rb)⟩ True.intro⟩))
theorem rule_sub : Rule2 c (rI0 fun i j => .int (i - j)) subD := by
  intro O δ τ σ H Q x y v w d e z F h1 h2 hz q
  cases d <;> cases e <;> simp only [subD] at hz <;> try contradiction
  cases hz
  exact ⟨_, _, h1.int, h2.int, q _ _ (out_fz F sub2 (.int _)) True.intro⟩
theorem rule_mul : Rule2 c (fun x y H Q => rI CMul (fun i j => .int (i * j)) x y H Q ∨ rRep x y H Q) mulD := by
  intro O δ τ σ H Q x y v w d e z F h1 h2 hz q
  cases d <;> cases e <;> simp only [mulD] at hz <;> try contradiction
  · split at hz <;> cases hz
    exact .inl ⟨_, _, h1.int, h2.int, by assumption, q _ _ (out_fz F sub2 (.int _)) True.intro⟩
  · split at hz <;> cases hz
    obtain ⟨a, xs, rfl, ta, ra⟩ := h1
    rename_i hl
    exact .inr ⟨a, _, xs, rfl, h2.int, ta, hl.1, hl.2.1, by rw [ra.length]; exact hl.2.2, fun p hp => q _ _ ⟨_, (F.sub sub2).newLst hp (ra.rep _)⟩ True.intro⟩
theorem rule_div : Rule2 c (rI CDiv fun i j => .int (i / j)) divD := by
  intro O δ τ σ H Q x y v w d e z F h1 h2 hz q
  cases d <;> cases e <;> simp only [divD] at hz <;> try contradiction
  split at hz <;> cases hz
  exact ⟨_, _, h1.int, h2.int, by assumption, q _ _ (out_fz F sub2 (.int _)) True.intro⟩
theorem rule_mod : Rule2 c (rI (fun _ j => 0 < j) fun i j => .int (i % j)) modD := by
  intro O δ τ σ H Q x y v w d e z F h1 h2 hz q
  cases d <;> cases e <;> simp only [modD] at hz <;> try contradiction
  split at hz <;> cases hz
  exact ⟨_, _, h1.int, h2.int, by assumption, q _ _ (out_fz F sub2 (.int _)) True.intro⟩
theorem rule_pow : Rule2 c (rI CPow fun i j => .int (i ^ j.toNat)) powD := by
  intro O δ τ σ H Q x y v w d e z F h1 h2 hz q
  cases d <;> cases e <;> simp only [powD] at hz <;> try contradiction
  split at hz <;> cases hz
  exact ⟨_, _, h1.int, h2.int, by assumption, q _ _ (out_fz F sub2 (.int _)) True.intro⟩
theorem rule_shl : Rule2 c (rI CPow fun i j => .int (i * 2 ^ j.toNat)) shlD := by
  intro O δ τ σ H Q x y v w d e z F h1 h2 hz q
  cases d <;> cases e <;> simp only [shlD] at hz <;> try contradiction
  split at hz <;> cases hz
  exact ⟨_, _, h1.int, h2.int, by assumption, q _ _ (out_fz F sub2 (.int _)) True.intro⟩
theorem rule_no {g : D → D → Option Vl} (h : ∀ a b, g a b = none) : Rule2 c (fun _ _ _ _ => False) g := by
  intro O δ τ σ H Q x y v w d e z F h1 h2 hz q
  rw [h] at hz; cases hz
theorem opr_no {f : Value → Value → Sem Value} : OpR X f (fun _ _ _ _ => False) := fun _ _ _ _ _ _ _ _ _ _ _ _ h => h.elim
theorem s_bin {op : Operator} (hK : X.K = c.k.K) (ha : PE X a (rdE c W fa)) (hb : PE X b (rdE c W fb)) : PE X (.BinOp a op b pos) (rdE c W (do2 fa fb (binD op))) := by
  cases op with
  | Add => exact s_op (op_add.or (op_add_str.or (op_cat.or (hK ▸ op_catA)))) rule_add ha hb
  | Sub => exact s_op op_sub rule_sub ha hb
  | Mult => exact s_op (op_mul.or op_rep) rule_mul ha hb
  | FloorDiv => exact s_op op_fdiv rule_div ha hb
  | Mod => exact s_op op_mod rule_mod ha hb
  | Pow => exact s_op op_pow rule_pow ha hb
  | LShift => exact s_op op_shl rule_shl ha hb
  | _ => exact s_op opr_no (rule_no fun _ _ => rfl) ha hb

/-! ## comparisons -/
def RuleB (c : Cst) (r : R2) (g : D → D → Option Bool) : Prop := ∀ (O : Addr → Prop) (H : Hp) (Q : VK) (x y : V) (d e : D) (z : Bool), Den c.k O H x d → Den c.k O H y e → g d e = some z → Q (.bl z) H → r x y H Q
theorem rule_bl {r : R2} {g : D → D → Option Bool} (h : RuleB c r g) : Rule2 c r (b2v g) := by
  intro O δ τ σ H Q x y v w d e z F h1 h2 hz q
  unfold b2v at hz
  cases hg : g d e with
  | none => rw [hg] at hz; cases hz
  | some b =>
    rw [hg] at hz; cases hz
    exact h O H Q x y d e b h1 h2 hg (q _ _ (out_fz F sub2 (.bl _)) True.intro)
def rOrd (p : Int → Int → Bool) : R2 := rI0 fun i j => .bl (p i j)
theorem rule_ord {p : Int → Int → Bool} : RuleB c (rI0 fun i j => .bl (p i j)) ((ordD p)) := fun O H Q x y d e z h1 h2 hz q => by
  cases d <;> cases e <;> simp only [ordD] at hz <;> try contradiction
  cases hz
  exact ⟨_, _, h1.int, h2.int, q⟩
theorem cmpb_of {d : D} (h : d.cmpb = true) : d.pure = true ∧ SeqAt.shaped d.py = true := by
  unfold D.cmpb at h
  rw [Bool.and_eq_true] at h
  exact h
theorem rule_eq : RuleB c (rEqD c.k.K) (eqD) := fun O H Q x y d e z h1 h2 hz q => by
  unfold eqD at hz
  split at hz <;> cases hz
  rename_i hh
  rw [Bool.and_eq_true] at hh
  obtain ⟨p1, s1⟩ := cmpb_of hh.1
  obtain ⟨p2, s2⟩ := cmpb_of hh.2
  exact ⟨_, _, h1.dp p1, h2.dp p2, s1, s2, q⟩
theorem rule_ne : RuleB c (rNeD c.k.K) (fun a b => (eqD a b).map (!·)) := fun O H Q x y d e z h1 h2 hz q => by
  have hz : (eqD d e).map (!·) = some z := hz
  unfold eqD at hz
  split at hz <;> cases hz
  rename_i hh
  rw [Bool.and_eq_true] at hh
  obtain ⟨p1, s1⟩ := cmpb_of hh.1
  obtain ⟨p2, s2⟩ := cmpb_of hh.2
  exact ⟨_, _, h1.dp p1, h2.dp p2, s1, s2, q⟩
theorem den_non {k : Kt} {O : Addr → Prop} {H : Hp} {x : V} {d : D} (h : Den k O H x d) : decide (x = .non) = isNonD d := by
  cases d with
  | non => rw [h.non]; rfl
  | bl b => rw [h.bl]; rfl
  | int b => rw [h.int]; rfl
  | str b => rw [h.str]; rfl
  | tup ds => obtain ⟨a, xs, rfl, _⟩ := h.tup; rfl
  | lst ds => obtain ⟨a, xs, rfl, _⟩ := h; rfl
  | ro ds => obtain ⟨a, xs, rfl, _⟩ := h.ro; rfl
  | obj c fs => obtain ⟨a, _, xs, rfl, _⟩ := h; rfl
  | tbl fs => cases h; rfl
theorem isD_cases {d e : D} {z : Bool} (h : isD d e = some z) : (e = .non ∧ z = isNonD d) ∨ ∃ a b, d = .bl a ∧ e = .bl b ∧ z = decide (a = b) := by
  cases e <;> cases d <;> simp only [isD] at h <;> first | contradiction | (cases h; first | exact .inl ⟨rfl, rfl⟩ | exact .inr ⟨_, _, rfl, rfl, rfl⟩)
theorem rule_is : RuleB c (fun x y H Q => (y = .non ∧ Q (.bl (decide (x = .non))) H) ∨ rIsB x y H Q) (isD) := fun O H Q x y d e z h1 h2 hz q => by
  rcases isD_cases hz with ⟨rfl, rfl⟩ | ⟨a, b, rfl, rfl, rfl⟩
  · exact .inl ⟨h2.non, by rw [den_non h1]; exact q⟩
  · exact .inr ⟨a, b, h1.bl, h2.bl, q⟩
theorem rule_isn : RuleB c (fun x y H Q => (y = .non ∧ Q (.bl (!decide (x = .non))) H) ∨ rNotB x y H Q) (fun a b => (isD a b).map (!·)) := fun O H Q x y d e z h1 h2 hz q => by
  have hz : (isD d e).map (!·) = some z := hz
  cases hi : isD d e with
  | none => rw [hi] at hz; cases hz
  | some b =>
    rw [hi] at hz
    cases hz
    rcases isD_cases hi with ⟨rfl, rfl⟩ | ⟨a, b, rfl, rfl, rfl⟩
    · exact .inl ⟨h2.non, by rw [den_non h1]; exact q⟩
    · exact .inr ⟨a, b, h1.bl, h2.bl, q⟩
theorem any_pys (d : D) : ∀ ys : List D, (D.pys ys).any (fun z => PyData.eqv z d.py) = ys.any fun z => z.eqv d
  | [] => by simp [D.pys]
  | y :: ys => by simp only [D.pys, List.any_cons, any_pys d ys]; rfl
theorem inD_cases {d e : D} {z : Bool} (h : inD d e = some z) : (∃ ys, (e = .lst ys ∨ e = .ro ys) ∧ d.cmpb = true ∧ (D.lst ys).cmpb = true ∧ z = ys.any fun z => z.eqv d) ∨ (∃ ys, e = .tup ys ∧ d.cmpb = true ∧ (D.tup ys).cmpb = true ∧ z = ys.any fun z => z.eqv d) ∨ ∃ s fs, d = .str s ∧ e = .tbl fs ∧ z = (fs.lookup s).isSome := by
  have one : ∀ {ys : List D}, (if d.cmpb && (D.lst ys).cmpb then some (ys.any fun z => z.eqv d) else none) = some z → d.cmpb = true ∧ (D.lst ys).cmpb = true ∧ z = ys.any fun z => z.eqv d := fun {ys} h => by
    split at h
    · rename_i hh
      rw [Bool.and_eq_true] at hh
      cases h
      exact ⟨hh.1, hh.2, rfl⟩
    · cases h
  cases e with
  | lst ys => exact .inl ⟨ys, .inl rfl, one (by simpa only [inD] using h)⟩
  | ro ys => exact .inl ⟨ys, .inr rfl, one (by simpa only [inD] using h)⟩
  | tup ys =>
    simp only [inD] at h
    split at h
    · rename_i hh
      rw [Bool.and_eq_true] at hh
      cases h
      exact .inr (.inl ⟨ys, rfl, hh.1, hh.2, rfl⟩)
    · cases h
  | tbl fs =>
    cases d <;> simp only [inD] at h <;> try contradiction
    cases h
    exact .inr (.inr ⟨_, _, rfl, rfl, rfl⟩)
  | _ => cases d <;> simp only [inD] at h <;> contradiction
theorem in_dp {k : Kt} {O : Addr → Prop} {H : Hp} {y : V} {e : D} {ys : List D} (h : Den k O H y e) (he : e = .lst ys ∨ e = .ro ys) (hc : (D.lst ys).cmpb = true) : Dp k.K H y (.list (D.pys ys)) := by
  have hp := (cmpb_of hc).1
  rcases he with rfl | rfl
  · have := h.dp hp; simpa only [D.py] using this
  · have := h.dp (by simpa only [D.pure] using hp); simpa only [D.py] using this
/-- in a written dict -/
def rInT (K : PySem.W.Frag) (w : World) (f : Bool → Bool) : R2 := fun x y H Q => ∃ d es n z r, KDict K w d es n ∧ x = .str z ∧ y = .ref d ∧ PySem.W.nsIn K d z = some r ∧ Q (.bl (f r.isSome)) H
theorem op_inT {X : Cx} : OpR X (compareOp .In) (rInT X.K X.w fun b => b) := fun pins s σ H x y v u Q I rx ry ⟨_, _, _, z, r, D, e1, e2, e3, q⟩ => op_in_kd D pins s σ H x y v u Q I rx ry ⟨z, r, e1, e2, e3, q⟩
theorem op_ninT {X : Cx} : OpR X (compareOp .NotIn) (rInT X.K X.w fun b => !b) := fun pins s σ H x y v u Q I rx ry ⟨_, _, _, z, r, D, e1, e2, e3, q⟩ => op_notIn_kd D pins s σ H x y v u Q I rx ry ⟨z, r, e1, e2, e3, q⟩
theorem in_tbl {K : PySem.W.Frag} {w : World} {f : Bool → Bool} {k : Kt} (hkd : ∀ a ps, k.kd a ps → KdF K w a ps) {O : Addr → Prop} {H : Hp} {Q : VK} {x y : V} {s : Str} {fs : List (Str × D)} (h1 : Den k O H x (.str s)) (h2 : Den k O H y (.tbl fs)) (q : Q (.bl (f (fs.lookup s).isSome)) H) : rInT K w f x y H Q := by
  cases h2 with
  | tbl h r =>
    obtain ⟨es, n, D, _, hz⟩ := hkd _ _ h
    cases e : fs.lookup s with
    | none =>
      rw [e] at q
      exact ⟨_, es, n, s, none, D, h1.str, rfl, (hz s).2 (r.lookN e), q⟩
    | some d =>
      rw [e] at q
      obtain ⟨v, e1, _⟩ := r.look e
      obtain ⟨u, e2, _⟩ := (hz s).1 v e1
      exact ⟨_, es, n, s, some u, D, h1.str, rfl, e2, q⟩
theorem in_tup {K : PySem.W.Frag} {f : Bool → Bool} {k : Kt} (hK : K = k.K) {O : Addr → Prop} {H : Hp} {Q : VK} {x y : V} {d : D} {ys : List D} (h1 : Den k O H x d) (h2 : Den k O H y (.tup ys)) (c1 : d.cmpb = true) (c2 : (D.tup ys).cmpb = true) (q : Q (.bl (f (ys.any fun z => z.eqv d))) H) : Zk.rInU K f x y H Q := by
  subst hK
  refine ⟨d.py, D.pys ys, h1.dp (cmpb_of c1).1, by have := h2.dp (cmpb_of c2).1; simpa only [D.py] using this, (cmpb_of c1).2, by simpa only [D.py] using (cmpb_of c2).2, ?_⟩
  rw [any_pys]; exact q
theorem rule_in {K : PySem.W.Frag} {w : World} (hK : K = c.k.K) (hkd : ∀ a ps, c.k.kd a ps → KdF K w a ps) : RuleB c (fun x y H Q => (rInD K x y H Q ∨ Zk.rInU K (fun b => b) x y H Q) ∨ rInT K w (fun b => b) x y H Q) (inD) := fun O H Q x y d e z h1 h2 hz q => by
  rcases inD_cases hz with ⟨ys, he, c1, c2, rfl⟩ | ⟨ys, rfl, c1, c2, rfl⟩ | ⟨s, fs, rfl, rfl, rfl⟩
  case inr.inr => exact .inr (in_tbl hkd h1 h2 q)
  case inr.inl => exact .inl (.inr (in_tup hK h1 h2 c1 c2 q))
  subst hK
  refine .inl (.inl ?_)
  refine ⟨d.py, D.pys ys, h1.dp (cmpb_of c1).1, in_dp h2 he c2, (cmpb_of c1).2, by simpa only [D.py] using (cmpb_of c2).2, ?_⟩
  rw [any_pys]; exact q
theorem rule_nin {K : PySem.W.Frag} {w : World} (hK : K = c.k.K) (hkd : ∀ a ps, c.k.kd a ps → KdF K w a ps) : RuleB c (fun x y H Q => (rNotInD K x y H Q ∨ Zk.rInU K (fun b => !b) x y H Q) ∨ rInT K w (fun b => !b) x y H Q) (fun a b => (inD a b).map (!·)) := fun O H Q x y d e z h1 h2 hz q => by
  have hz : (inD d e).map (!·) = some z := hz
  cases hi : inD d e with
  | none => rw [hi] at hz; cases hz
  | some b =>
    rw [hi] at hz
    cases hz
    rcases inD_cases hi with ⟨ys, he, c1, c2, rfl⟩ | ⟨ys, rfl, c1, c2, rfl⟩ | ⟨s, fs, rfl, rfl, rfl⟩
    case inr.inr => exact .inr (in_tbl (f := fun b => !b) hkd h1 h2 q)
    case inr.inl => exact .inl (.inr (in_tup (f := fun b => !b) hK h1 h2 c1 c2 q))
    subst hK
    refine .inl (.inl ?_)
    refine ⟨d.py, D.pys ys, h1.dp (cmpb_of c1).1, in_dp h2 he c2, (cmpb_of c1).2, by simpa only [D.py] using (cmpb_of c2).2, ?_⟩
    rw [any_pys]; exact q
/-- each comparison's rule -/
theorem cmp_ruleB {q : Bool} (G : Gd X c lv q) (op : CmpOp) : ∃ r, OpR X (compareOp op) r ∧ RuleB c r (cmpD op) := by
  have hu : X.A.units + 64 < cLine := by have := G.un; omega
  have hu1 : X.A.units + 65 < cLine := by have := G.un; omega
  have hK := G.K
  cases op with
  | Lt => exact ⟨_, op_lt, rule_ord⟩
  | LtE => exact ⟨_, op_le, rule_ord⟩
  | Gt => exact ⟨_, op_gt, rule_ord⟩
  | GtE => exact ⟨_, op_ge, rule_ord⟩
  | Eq => exact ⟨_, hK ▸ op_eqD hu, rule_eq⟩
  | NotEq => exact ⟨_, hK ▸ op_neD hu, rule_ne⟩
  | Is => exact ⟨_, op_isN.or op_isBl, rule_is⟩
  | IsNot => exact ⟨_, op_notN.or op_notBl, rule_isn⟩
  | In => exact ⟨_, ((op_inD hu1).or (Zk.op_inU hu1)).or op_inT, rule_in hK G.kd⟩
  | NotIn => exact ⟨_, ((op_notInD hu1).or (Zk.op_ninU hu1)).or op_ninT, rule_nin hK G.kd⟩
theorem cmp_rule {q : Bool} (G : Gd X c lv q) (op : CmpOp) : ∃ r, OpR X (compareOp op) r ∧ Rule2 c r (b2v (cmpD op)) := by
  obtain ⟨r, h1, h2⟩ := cmp_ruleB (c := c) G op
  exact ⟨r, h1, rule_bl h2⟩
theorem s_cmp {op : CmpOp} {q : Bool} (G : Gd X c lv q) (ha : PE X a (rdE c W fa)) (hb : PE X b (rdE c W fb)) (hm : behindInMarks op b = false) : PE X (.Compare a [op] [b] pos) (rdE c W (do2 fa fb (b2v (cmpD op)))) := by
  obtain ⟨r, h1, h2⟩ := cmp_rule G op
  exact peOf (pe_cmpR h1 ha hb hm) (s_two h2)
/-- as a test -/
def asT (f : En → R (Vl × En)) : En → R (Bool × En) := fun δ => (f δ).bind fun (v, δ1) => (R.ofO (dv δ1 v)).bind fun d => (R.ofO (truD d)).bind fun b => .ok (b, δ1)
theorem s_cmpT {op : CmpOp} {q : Bool} (G : Gd X c lv q) (ha : PE X a (rdE c W fa)) (hb : PE X b (rdE c W fb)) (hm : behindInMarks op b = false) : PT X (.Compare a [op] [b] pos) (rdT c W (asT (do2 fa fb (b2v (cmpD op))))) := by
  obtain ⟨r, h1, h2⟩ := cmp_rule G op
  refine ptOf (pt_cmpR h1 ha hb hm) ?_
  rintro σ H Q ⟨δ, τ, F, P⟩
  refine s_two h2 σ H _ ⟨δ, τ, F, ?_⟩
  obtain ⟨p1, p2, p3⟩ := bindE (P := fun r => PostT c W σ τ r Q) (show PostT c W σ τ ((do2 fa fb (b2v (cmpD op)) δ).bind _) Q from P)
  cases e : do2 fa fb (b2v (cmpD op)) δ with
  | no => exact p2 e
  | ex cl fs δ' => exact p1 _ _ _ e
  | ok p =>
    obtain ⟨v, δ1⟩ := p
    intro x H1 F1 o1
    obtain ⟨d, ed, h⟩ := bindO (P := fun r => PostT c W σ τ r Q) (p3 _ e) (fun z => z)
    obtain ⟨b, eb, h⟩ := bindO (P := fun r => PostT c W σ τ r Q) h (fun z => z)
    -- the value of a comparison is a bool
    have hv : ∃ z, v = .pl (.bl z) := by
      unfold do2 at e
      cases e1 : fa δ with
      | no => rw [e1] at e; cases e
      | ex _ _ _ => rw [e1] at e; cases e
      | ok p1 =>
        rw [e1] at e
        simp only [R.bind] at e
        cases e2 : fb p1.2 with
        | no => rw [e2] at e; cases e
        | ex _ _ _ => rw [e2] at e; cases e
        | ok p2 =>
          rw [e2] at e
          simp only at e
          cases e3 : dv p2.2 p1.1 with
          | none => rw [e3] at e; cases e
          | some x1 =>
            rw [e3] at e
            simp only [R.ofO] at e
            cases e4 : dv p2.2 p2.1 with
            | none => rw [e4] at e; cases e
            | some x2 =>
              rw [e4] at e
              simp only at e
              unfold b2v at e
              cases e5 : cmpD op x1 x2 with
              | none => rw [e5] at e; cases e
              | some z => rw [e5] at e; cases e; exact ⟨z, rfl⟩
    obtain ⟨z, rfl⟩ := hv
    cases ed
    cases eb
    obtain ⟨O, F1⟩ := F1
    have hx := (F1.den List.mem_cons_self o1 rfl).bl
    exact ⟨_, hx, h H1 ⟨O, F1.sub sub1⟩⟩
/-- a op b op' c -/
def chnF (op op' : CmpOp) (fa fb fc : En → R (Vl × En)) : En → R (Vl × En) := fun δ => (fa δ).bind fun (v, δ1) => (fb δ1).bind fun (w, δ2) =>
      (R.ofO (dv δ2 v)).bind fun x => (R.ofO (dv δ2 w)).bind fun y => (R.ofO (cmpD op x y)).bind fun z =>
        if z then (fc δ2).bind fun (u, δ3) => (R.ofO (dv δ3 w)).bind fun y => (R.ofO (dv δ3 u)).bind fun x' => (R.ofO (cmpD op' y x')).bind fun z' => .ok (.pl (.bl z'), δ3)
        else .ok (.pl (.bl false), δ2)
theorem chn_core {op op' : CmpOp} {fc : En → R (Vl × En)} {r r' : R2} (h1 : RuleB c r (cmpD op)) (h2 : RuleB c r' (cmpD op')) : ∀ σ H Q, rdE c W (chnF op op' fa fb fc) σ H Q → tChain r r' (rdE c W fa) (rdE c W fb) (rdE c W fc) σ H Q := by
  rintro σ H Q ⟨δ, τ, F, P⟩
  obtain ⟨p1, p2, p3⟩ := bindE (P := fun r => Post c W σ τ r Q) (show Post c W σ τ ((fa δ).bind _) Q from P)
  refine seqE F (fun cl fs δ' e => p1 cl fs δ' e) (fun e => p2 e) fun v δ1 e1 x H1 F1 o1 => ?_
  obtain ⟨q1, q2, q3⟩ := bindE (P := fun r => Post c W σ τ r Q) (p3 _ e1)
  refine seqE F1 (fun cl fs δ' e => ExK.weak (q1 cl fs δ' e) sub1) (fun e => q2 e) fun w δ2 e2 y H2 F2 o2 => ?_
  obtain ⟨d, ed, h⟩ := bindO (P := fun r => Post c W σ τ r Q) (q3 _ e2) (fun z => z)
  obtain ⟨e, ee, h⟩ := bindO (P := fun r => Post c W σ τ r Q) h (fun z => z)
  obtain ⟨z, ez, h⟩ := bindO (P := fun r => Post c W σ τ r Q) h (fun z => z)
  obtain ⟨O, F2⟩ := F2
  refine h1 O H2 _ x y d e z (F2.den (List.mem_cons_of_mem _ List.mem_cons_self) o1 ed) (F2.den List.mem_cons_self o2 ee) ez ⟨z, rfl, ?_⟩
  cases z with
  | false =>
    simp only [Bool.false_eq_true, if_false] at h ⊢
    exact h _ H2 (out_fz F2 sub2 (.bl _)) True.intro
  | true =>
    simp only [if_true] at h ⊢
    obtain ⟨r1, r2, r3⟩ := bindE (P := fun r => Post c W σ τ r Q) h
    refine seqE ⟨O, F2⟩ (fun cl fs δ' e => ExK.weak (r1 cl fs δ' e) sub2) (fun e => r2 e) fun u δ3 e3 x' H3 F3 o3 => ?_
    obtain ⟨d1, ed1, h⟩ := bindO (P := fun r => Post c W σ τ r Q) (r3 _ e3) (fun z => z)
    obtain ⟨e1', ee1, h⟩ := bindO (P := fun r => Post c W σ τ r Q) h (fun z => z)
    obtain ⟨z1, ez1, h⟩ := bindO (P := fun r => Post c W σ τ r Q) h (fun z => z)
    obtain ⟨O3, F3⟩ := F3
    exact h2 O3 H3 Q y x' d1 e1' z1 (F3.den (List.mem_cons_of_mem _ List.mem_cons_self) o2 ed1) (F3.den List.mem_cons_self o3 ee1) ez1 (h _ H3 (out_fz F3 (sub1.trans sub2) (.bl _)) True.intro)
theorem s_chn {op op' : CmpOp} {fc : En → R (Vl × En)} {cc : Expr} {q : Bool} (G : Gd X c lv q) (ha : PE X a (rdE c W fa)) (hb : PE X b (rdE c W fb)) (hc : PE X cc (rdE c W fc)) (hm : lastMarks [op, op'] [b, cc] = false) : PE X (.Compare a [op, op'] [b, cc] pos) (rdE c W (chnF op op' fa fb fc)) := by
  obtain ⟨r, h1, h2⟩ := cmp_ruleB (c := c) G op
  obtain ⟨r', h1', h2'⟩ := cmp_ruleB (c := c) G op'
  exact peOf (pe_chain h1 h1' ha hb hc hm) (chn_core h2 h2')
/-- what a value's run gives as a test -/
theorem asT_bl {f : En → R (Vl × En)} (hv : ∀ δ v δ1, f δ = .ok (v, δ1) → ∃ z, v = .pl (.bl z)) {δ : En} {τ : List Et} {σ : St} {Q : Bool → Hp → Prop} (P : PostT c W σ τ (asT f δ) Q) : Post c W σ τ (f δ) fun x H => ∃ k, x = .bl k ∧ Q k H := by
  obtain ⟨p1, p2, p3⟩ := bindE (P := fun r => PostT c W σ τ r Q) (show PostT c W σ τ ((f δ).bind _) Q from P)
  cases e : f δ with
  | no => exact p2 e
  | ex cl fs δ' => exact p1 _ _ _ e
  | ok p =>
    obtain ⟨v, δ1⟩ := p
    intro x H1 F1 o1
    obtain ⟨d, ed, h⟩ := bindO (P := fun r => PostT c W σ τ r Q) (p3 _ e) (fun z => z)
    obtain ⟨b, eb, h⟩ := bindO (P := fun r => PostT c W σ τ r Q) h (fun z => z)
    obtain ⟨z, rfl⟩ := hv δ v δ1 e
    cases ed
    cases eb
    obtain ⟨O, F1⟩ := F1
    exact ⟨_, (F1.den List.mem_cons_self o1 rfl).bl, h H1 ⟨O, F1.sub sub1⟩⟩
theorem bind_ok {α β : Type} {r : R α} {g : α → R β} {b : β} (h : r.bind g = .ok b) : ∃ a, r = .ok a ∧ g a = .ok b := by
  cases r with
  | ok a => exact ⟨a, rfl, h⟩
  | ex _ _ _ => cases h
  | no => cases h
theorem ofO_ok {α : Type} {r : Option α} {a : α} (h : R.ofO r = .ok a) : r = some a := by
  cases r with
  | none => cases h
  | some b => cases h; rfl
theorem chn_bl {op op' : CmpOp} {fc : En → R (Vl × En)} {δ δ1 : En} {v : Vl} (h : chnF op op' fa fb fc δ = .ok (v, δ1)) : ∃ z, v = .pl (.bl z) := by
  unfold chnF at h
  obtain ⟨_, _, h⟩ := bind_ok h
  obtain ⟨_, _, h⟩ := bind_ok h
  obtain ⟨_, _, h⟩ := bind_ok h
  obtain ⟨_, _, h⟩ := bind_ok h
  obtain ⟨z, _, h⟩ := bind_ok h
  cases z with
  | false => cases h; exact ⟨_, rfl⟩
  | true =>
    simp only [if_true] at h
    obtain ⟨_, _, h⟩ := bind_ok h
    obtain ⟨_, _, h⟩ := bind_ok h
    obtain ⟨_, _, h⟩ := bind_ok h
    obtain ⟨_, _, h⟩ := bind_ok h
    cases h
    exact ⟨_, rfl⟩
theorem s_chnT {op op' : CmpOp} {fc : En → R (Vl × En)} {cc : Expr} {q : Bool} (G : Gd X c lv q) (ha : PE X a (rdE c W fa)) (hb : PE X b (rdE c W fb)) (hc : PE X cc (rdE c W fc)) (hm : lastMarks [op, op'] [b, cc] = false) : PT X (.Compare a [op, op'] [b, cc] pos) (rdT c W (asT (chnF op op' fa fb fc))) := by
  obtain ⟨r, h1, h2⟩ := cmp_ruleB (c := c) G op
  obtain ⟨r', h1', h2'⟩ := cmp_ruleB (c := c) G op'
  refine ptOf (pt_chain h1 h1' ha hb hc hm) fun σ H Q hq => ?_
  obtain ⟨δ, τ, F, P⟩ := hq
  exact chn_core h2 h2' σ H _ ⟨δ, τ, F, asT_bl (f := chnF op op' fa fb fc) (fun _ _ _ e => chn_bl e) P⟩
end
end B
namespace B
open PySem PySem.Spec L2
open PyProof.Rows hiding St
section
variable {X : Cx} {c : Cst} {W : WX} {fa fb fc : En → R (Vl × En)} {a b cc e : Expr} {es : List Expr} {pos : Pos} {lv : Nat}

/-! ## constants, names -/
def kF (d : D) : En → R (Vl × En) := fun δ => .ok (.pl d, δ)
theorem s_const {v : V} {d : D} (h : PE X e (tC v)) (r : ∀ O H, Rep c.k O H v d) : PE X e (rdE c W (kF d)) := peOf h fun σ H Q ⟨δ, τ, ⟨O, F⟩, P⟩ => P v H ⟨O, F.addFz (r O H)⟩ True.intro
theorem s_int {i : Int} {j : Nat} : PE X (.Constant (.int i) j pos) (rdE c W (kF (.int i))) := s_const pe_int fun _ _ => .int i
theorem s_bl {i : Bool} {j : Nat} : PE X (.Constant (.bool i) j pos) (rdE c W (kF (.bl i))) := s_const pe_bl fun _ _ => .bl i
theorem s_str {i : Str} {j : Nat} : PE X (.Constant (.str i) j pos) (rdE c W (kF (.str i))) := s_const pe_str fun _ _ => .str i
theorem s_non {j : Nat} : PE X (.Constant .none j pos) (rdE c W (kF .non)) := s_const pe_non fun _ _ => .non
def varF (bd : List Nat) (i : Nat) : En → R (Vl × En) := fun δ => match gS δ i with
    | .un => .no
    | .fz d => .ok (.pl d, δ)
    | .ow xs => if i ∈ bd then .no else .ok (.pl (.lst xs), δ.set i (.fz (.lst xs)))
    | .ob c fs => if i ∈ bd then .no else .ok (.pl (.obj c fs), δ.set i (.fz (.obj c fs)))
    | .xc _ _ => .no
def pkF (i : Nat) : En → R (Vl × En) := fun δ => match gS δ i with
    | .un => .no
    | .fz d => .ok (.pl d, δ)
    | .xc _ _ => .no
    | _ => .ok (.al i, δ)
theorem FO.fzSlot {O : Addr → Prop} {δ : En} {τ : List Et} {σ : St} {H : Hp} (F : FO c O δ τ σ H) {i : Nat} {d : D} (h : gS δ i = .fz d) : ∃ v, σ[i]? = some (some v) ∧ Rep c.k O H v d := by
  obtain ⟨ov, e1, e2, m, ok⟩ := F.slot h (fun z => by cases z)
  cases ov with
  | none => exact ok.elim
  | some v => exact ⟨v, e1, ok⟩
theorem s_var {i : Nat} (h : PE X e (tVar i)) : PE X e (rdE c W (varF c.bd i)) := peOf h fun σ H Q ⟨δ, τ, ⟨O, F⟩, P⟩ => by
  simp only [varF] at P
  cases q : gS δ i with
  | un => rw [q] at P; exact P.elim
  | fz d =>
    rw [q] at P
    obtain ⟨v, e1, r⟩ := F.fzSlot q
    exact ⟨v, e1, P v H ⟨O, F.addFz r⟩ True.intro⟩
  | ow xs =>
    rw [q] at P
    simp only at P
    split at P
    · exact P.elim
    · rename_i hb
      obtain ⟨a, e1, F1⟩ := F.freezeS q hb
      obtain ⟨v, e2, r⟩ := F1.fzSlot (gS_set_same (gS_get q fun z => by cases z))
      rw [e1] at e2; cases e2
      exact ⟨_, e1, P _ H ⟨_, F1.addFz r⟩ True.intro⟩
  | ob cl fs =>
    rw [q] at P
    simp only at P
    split at P
    · exact P.elim
    · rename_i hb
      obtain ⟨a, e1, F1⟩ := F.freezeSO q hb
      obtain ⟨v, e2, r⟩ := F1.fzSlot (gS_set_same (gS_get q fun z => by cases z))
      rw [e1] at e2; cases e2
      exact ⟨_, e1, P _ H ⟨_, F1.addFz r⟩ True.intro⟩
  | xc cl fs => rw [q] at P; exact P.elim
theorem s_pk {i : Nat} (h : PE X e (tVar i)) : PE X e (rdE c W (pkF i)) := peOf h fun σ H Q ⟨δ, τ, ⟨O, F⟩, P⟩ => by
  simp only [pkF] at P
  cases q : gS δ i with
  | un => rw [q] at P; exact P.elim
  | fz d =>
    rw [q] at P
    obtain ⟨v, e1, r⟩ := F.fzSlot q
    exact ⟨v, e1, P v H ⟨O, F.addFz r⟩ True.intro⟩
  | ow xs =>
    rw [q] at P
    obtain ⟨ov, e1, e2, m, ok⟩ := F.slot q (fun z => by cases z)
    cases ov with
    | none => exact ok.elim
    | some v => exact ⟨v, e1, P v H ⟨O, F.addUn⟩ e1⟩
  | ob cl fs =>
    rw [q] at P
    obtain ⟨ov, e1, e2, m, ok⟩ := F.slot q (fun z => by cases z)
    cases ov with
    | none => exact ok.elim
    | some v => exact ⟨v, e1, P v H ⟨O, F.addUn⟩ e1⟩
  | xc cl fs => rw [q] at P; exact P.elim

/-! ## one value, then z -/
def do1 (fa : En → R (Vl × En)) (g : D → Option Vl) : En → R (Vl × En) := fun δ => (fa δ).bind fun (v, δ1) => (R.ofO (dv δ1 v)).bind fun x => (R.ofO (g x)).bind fun z => .ok (z, δ1)
theorem s_one {r : V → Hp → VK → Prop} {g : D → Option Vl} (hr : ∀ (O : Addr → Prop) (δ : En) (τ : List Et) (σ : St) (H : Hp) (Q : VK) (x : V) (v : Vl) (d : D) (z : Vl),
    FO c O δ (ent x v :: τ) σ H → Den c.k O H x d → g d = some z → (∀ u H', FS c δ (ent u z :: τ) σ H' → VOk σ u z → Q u H') → r x H Q) :
    ∀ σ H Q, rdE c W (do1 fa g) σ H Q → rdE c W fa σ H fun x H1 => r x H1 Q := by
  rintro σ H Q ⟨δ, τ, F, P⟩
  obtain ⟨p1, p2, p3⟩ := bindE (P := fun r => Post c W σ τ r Q) (show Post c W σ τ ((fa δ).bind _) Q from P)
  refine seqE F (fun cl fs δ' e => p1 cl fs δ' e) (fun e => p2 e) fun v δ1 e1 x H1 F1 o1 => ?_
  obtain ⟨d, ed, h⟩ := bindO (P := fun r => Post c W σ τ r Q) (p3 _ e1) (fun z => z)
  obtain ⟨z, ez, h⟩ := bindO (P := fun r => Post c W σ τ r Q) h (fun z => z)
  obtain ⟨O, F1⟩ := F1
  exact hr O δ1 τ σ H1 Q x v d z F1 (F1.den List.mem_cons_self o1 ed) ez h
theorem s_neg (ha : PE X a (rdE c W fa)) : PE X (.UnaryOp .USub a pos) (rdE c W (do1 fa negD)) := peOf (pe_un un_neg ha) (s_one fun O δ τ σ H Q x v d z F h hz q => by
  cases d <;> simp only [negD] at hz <;> try contradiction
  cases hz
  exact ⟨_, h.int, q _ _ (out_fz F sub1 (.int _)) True.intro⟩)
theorem RepL.isEmpty {k : Kt} {O : Addr → Prop} {H : Hp} {v : List V} {d : List D} (r : RepL k O H v d) : v.isEmpty = d.isEmpty := by cases r <;> rfl
theorem truV {k : Kt} {O : Addr → Prop} {H : Hp} {x : V} {d : D} {b : Bool} (h : Den k O H x d) (e : truD d = some b) : TruV k.K x H b := by
  cases d <;> simp only [truD] at e <;> try contradiction
  · cases e; rw [h.non]; rfl
  · cases e; rw [h.bl]; rfl
  · cases e; rw [h.int]; rfl
  · split at e <;> cases e
    rw [h.str]
    refine ⟨by assumption, ?_⟩
    rw [Bool.eq_iff_iff]; simp
  · obtain ⟨a, xs, rfl, ta, ra⟩ := h.tup
    cases e
    exact .inr (.inl ⟨xs, ta.sq, by rw [ra.isEmpty]⟩)
  · obtain ⟨a, xs, rfl, ta, ra⟩ := h
    cases e
    exact .inl ⟨xs, SqL.of ta, by rw [ra.isEmpty]⟩
theorem s_not (hK : X.K = c.k.K) (ha : PE X a (rdE c W fa)) : PE X (.UnaryOp .Not a pos) (rdE c W (do1 fa notD)) := peOf (pe_notT ha) (s_one fun O δ τ σ H Q x v d z F h hz q => by
  unfold notD at hz
  cases e : truD d with
  | none => rw [e] at hz; cases hz
  | some b =>
    rw [e] at hz; cases hz
    exact ⟨b, hK ▸ truV h e, q _ _ (out_fz F sub1 (.bl _)) True.intro⟩)
/-- and, or -/
def bopF (op : BoolOp) (fa fb : En → R (Vl × En)) : En → R (Vl × En) := fun δ => (fa δ).bind fun (v, δ1) => (R.ofO (dv δ1 v)).bind fun d => (R.ofO (truD d)).bind fun c => (match op with
      | .And => if c then fb δ1 else .ok (v, δ1)
      | .Or => if c then .ok (v, δ1) else fb δ1)
theorem s_bop {op : BoolOp} {rest : List Expr} (hK : X.K = c.k.K) (ha : PE X a (rdE c W fa)) (hb : PE X (.BoolOp op (b :: rest) pos) (rdE c W fb)) : PE X (.BoolOp op (a :: b :: rest) pos) (rdE c W (bopF op fa fb)) := by
  have key : ∀ σ H (Q : VK) (δ : En) (τ : List Et), FS c δ τ σ H → Post c W σ τ (bopF op fa fb δ) Q → rdE c W fa σ H fun x H1 => ∃ k, TruV X.K x H1 k ∧ (match op with
      | .And => if k = true then rdE c W fb σ H1 Q else Q x H1
      | .Or => if k = true then Q x H1 else rdE c W fb σ H1 Q) := by
    intro σ H Q δ τ F P
    obtain ⟨p1, p2, p3⟩ := bindE (P := fun r => Post c W σ τ r Q) (show Post c W σ τ ((fa δ).bind _) Q from P)
    refine seqE F (fun cl fs δ' e => p1 cl fs δ' e) (fun e => p2 e) fun v δ1 e1 x H1 F1 o1 => ?_
    obtain ⟨d, ed, h⟩ := bindO (P := fun r => Post c W σ τ r Q) (p3 _ e1) (fun z => z)
    obtain ⟨k, ek, h⟩ := bindO (P := fun r => Post c W σ τ r Q) h (fun z => z)
    obtain ⟨O, F1⟩ := F1
    refine ⟨k, hK ▸ truV (F1.den List.mem_cons_self o1 ed) ek, ?_⟩
    cases op <;> cases k <;> simp only [if_true, if_false, Bool.false_eq_true] at h ⊢
    · exact h x H1 ⟨O, F1⟩ o1
    · exact ⟨δ1, τ, ⟨O, F1.sub sub1⟩, h⟩
    · exact ⟨δ1, τ, ⟨O, F1.sub sub1⟩, h⟩
    · exact h x H1 ⟨O, F1⟩ o1
  cases op with
  | And => exact peOf (pe_andT ha hb) fun σ H Q ⟨δ, τ, F, P⟩ => key σ H Q δ τ F P
  | Or => exact peOf (pe_orT ha hb) fun σ H Q ⟨δ, τ, F, P⟩ => key σ H Q δ τ F P
/-! ## tests -/
variable {ta tb : En → R (Bool × En)}
theorem s_tst (hK : X.K = c.k.K) (ha : PE X a (rdE c W fa)) (he : ∀ whole, isTrue a X.env whole = (do let v ← whole; standAt a.pos; holding [v] (truthy v))) : PT X a (rdT c W (asT fa)) := ptOf (pt_truth ha he) fun σ H Q ⟨δ, τ, F, P⟩ => by
  obtain ⟨p1, p2, p3⟩ := bindE (P := fun r => PostT c W σ τ r Q) (show PostT c W σ τ ((fa δ).bind _) Q from P)
  refine seqE F (fun cl fs δ' e => p1 cl fs δ' e) (fun e => p2 e) fun v δ1 e1 x H1 F1 o1 => ?_
  obtain ⟨d, ed, h⟩ := bindO (P := fun r => PostT c W σ τ r Q) (p3 _ e1) (fun z => z)
  obtain ⟨k, ek, h⟩ := bindO (P := fun r => PostT c W σ τ r Q) h (fun z => z)
  obtain ⟨O, F1⟩ := F1
  exact ⟨k, hK ▸ truV (F1.den List.mem_cons_self o1 ed) ek, h H1 ⟨O, F1.sub sub1⟩⟩
def notF (ta : En → R (Bool × En)) : En → R (Bool × En) := fun δ => (ta δ).bind fun (b, δ1) => .ok (!b, δ1)
theorem s_notT (ha : PT X a (rdT c W ta)) : PT X (.UnaryOp .Not a pos) (rdT c W (notF ta)) := ptOf (pt_not ha) fun σ H Q ⟨δ, τ, F, P⟩ => by
  obtain ⟨p1, p2, p3⟩ := bindE (P := fun r => PostT c W σ τ r Q) (show PostT c W σ τ ((ta δ).bind _) Q from P)
  exact seqT F (fun cl fs δ' e => p1 cl fs δ' e) (fun e => p2 e) fun v δ1 e1 H1 F1 => p3 _ e1 H1 F1
def bopT (op : BoolOp) (ta tb : En → R (Bool × En)) : En → R (Bool × En) := fun δ => (ta δ).bind fun (c, δ1) => (match op with
      | .And => if c then tb δ1 else .ok (false, δ1)
      | .Or => if c then .ok (true, δ1) else tb δ1)
theorem pwOf {e : Expr} {t t' : TT} (h : PW X e t) (i : ∀ σ H Q, t' σ H Q → t σ H Q) : PW X e t' := ⟨fun w pins s σ H Q I q => h.run w pins s σ H Q I (i σ H Q q)⟩
theorem s_bopT {op : BoolOp} {rest : List Expr} (ha : PT X a (rdT c W ta)) (hb : PW X (.BoolOp op (b :: rest) pos) (rdT c W tb)) : PW X (.BoolOp op (a :: b :: rest) pos) (rdT c W (bopT op ta tb)) := by
  have key : ∀ σ H (Q : Bool → Hp → Prop) (δ : En) (τ : List Et), FS c δ τ σ H → PostT c W σ τ (bopT op ta tb δ) Q → rdT c W ta σ H fun k H1 => (match op with
      | .And => if k = true then rdT c W tb σ H1 Q else Q false H1
      | .Or => if k = true then Q true H1 else rdT c W tb σ H1 Q) := by
    intro σ H Q δ τ F P
    obtain ⟨p1, p2, p3⟩ := bindE (P := fun r => PostT c W σ τ r Q) (show PostT c W σ τ ((ta δ).bind _) Q from P)
    refine seqT F (fun cl fs δ' e => p1 cl fs δ' e) (fun e => p2 e) fun k δ1 e1 H1 F1 => ?_
    have h := p3 _ e1
    cases op <;> cases k <;> simp only [if_true, if_false, Bool.false_eq_true] at h ⊢
    · exact h H1 F1
    · exact ⟨δ1, τ, F1, h⟩
    · exact ⟨δ1, τ, F1, h⟩
    · exact h H1 F1
  cases op with
  | And => exact pwOf (pw_and ha hb) fun σ H Q ⟨δ, τ, F, P⟩ => key σ H Q δ τ F P
  | Or => exact pwOf (pw_or ha hb) fun σ H Q ⟨δ, τ, F, P⟩ => key σ H Q δ τ F P
theorem s_oneT {op : BoolOp} (ha : PT X a (rdT c W ta)) : PW X (.BoolOp op [a] pos) (rdT c W ta) := by
  cases op with
  | And => exact pw_and1 ha
  | Or => exact pw_or1 ha
def iteF' (ta : En → R (Bool × En)) (fa fb : En → R (Vl × En)) : En → R (Vl × En) := fun δ => (ta δ).bind fun (k, δ1) => if k then fa δ1 else fb δ1
theorem s_ite (ht : PT X cc (rdT c W ta)) (ha : PE X a (rdE c W fa)) (hb : PE X b (rdE c W fb)) : PE X (.IfExp cc a b pos) (rdE c W (iteF' ta fa fb)) := peOf (pe_ifExp ht ha hb) fun σ H Q ⟨δ, τ, F, P⟩ => by
  obtain ⟨p1, p2, p3⟩ := bindE (P := fun r => Post c W σ τ r Q) (show Post c W σ τ ((ta δ).bind _) Q from P)
  refine seqT F (fun cl fs δ' e => p1 cl fs δ' e) (fun e => p2 e) fun k δ1 e1 H1 F1 => ?_
  have h := p3 _ e1
  cases k <;> simp only [if_true, if_false, Bool.false_eq_true] at h ⊢
  · exact ⟨δ1, τ, F1, h⟩
  · exact ⟨δ1, τ, F1, h⟩
/-! ## arguments -/
def consF (fa : En → R (Vl × En)) (fr : En → R (List Vl × En)) : En → R (List Vl × En) := fun δ => (fa δ).bind fun (v, δ1) => (fr δ1).bind fun (vs, δ2) => .ok (v :: vs, δ2)
def nilF : En → R (List Vl × En) := fun δ => .ok ([], δ)
theorem paOf {es : List Expr} {t t' : TA} (h : PA X es t) (i : ∀ σ H Q, t' σ H Q → t σ H Q) : PA X es t' := ⟨fun p pins s σ H Q I q => h.run p pins s σ H Q I (i σ H Q q)⟩
theorem s_nil : PA X [] (rdA c W nilF) := paOf pa_nil fun σ H Q ⟨δ, τ, F, P⟩ => P [] H F True.intro
theorem s_cons {fr : En → R (List Vl × En)} (ha : PE X a (rdE c W fa)) (hr : PA X es (rdA c W fr)) (hs : starEach (a :: es) X.env = (false, eval a X.env) :: starEach es X.env) : PA X (a :: es) (rdA c W (consF fa fr)) := paOf (pa_cons ha hr hs) fun σ H Q ⟨δ, τ, F, P⟩ => by
  obtain ⟨p1, p2, p3⟩ := bindE (P := fun r => PostA c W σ τ r Q) (show PostA c W σ τ ((fa δ).bind _) Q from P)
  refine seqE F (fun cl fs δ' e => p1 cl fs δ' e) (fun e => p2 e) fun v δ1 e1 x H1 F1 o1 => ?_
  obtain ⟨q1, q2, q3⟩ := bindE (P := fun r => PostA c W σ τ r Q) (p3 _ e1)
  refine seqA F1 (fun cl fs δ' e => ExK.weak (q1 cl fs δ' e) sub1) (fun e => q2 e) fun vs δ2 e2 xs H2 F2 o2 => ?_
  obtain ⟨O, F2⟩ := F2
  refine q3 _ e2 (x :: xs) H2 ⟨O, F2.perm ?_⟩ ⟨o1, o2⟩
  show (ents xs vs ++ ent x v :: τ).Perm (ent x v :: (ents xs vs ++ τ))
  exact List.perm_middle
/-- the data of the values -/
def DenL (k : Kt) (O : Addr → Prop) (H : Hp) : List V → List D → Prop
  | [], [] => True
  | x :: xs, d :: ds => Den k O H x d ∧ DenL k O H xs ds
  | _, _ => False
theorem FO.denL {O : Addr → Prop} {δ : En} {τ : List Et} {σ : St} {H : Hp} : ∀ {xs : List V} {vs : List Vl} {ds : List D}, FO c O δ (ents xs vs ++ τ) σ H → VOks σ xs vs → dvs δ vs = some ds → DenL c.k O H xs ds := by
  intro xs
  induction xs generalizing τ with
  | nil =>
    intro vs ds F o h
    cases vs with
    | nil => cases h; exact True.intro
    | cons v vs => exact o.elim
  | cons x xs ih =>
    intro vs ds F o h
    cases vs with
    | nil => exact o.elim
    | cons v vs =>
      simp only [dvs] at h
      cases e1 : dv δ v with
      | none => rw [e1] at h; cases h
      | some d =>
        rw [e1] at h
        simp only [Option.bind] at h
        cases e2 : dvs δ vs with
        | none => rw [e2] at h; cases h
        | some dr =>
          rw [e2] at h; cases h
          have F' : FO c O δ (ents xs vs ++ (ent x v :: τ)) σ H := F.perm List.perm_middle.symm
          exact ⟨F.den (List.mem_append_left _ (by simp [ents])) o.1 e1, ih F' o.2 e2⟩
/-- arguments handed over for good: each is frozen -/
theorem FO.giveL {O : Addr → Prop} {δ : En} {τ : List Et} {σ : St} {H : Hp} : ∀ {xs : List V} {vs : List Vl} {ds : List D}, FO c O δ (ents xs vs ++ τ) σ H → VOks σ xs vs → cvs vs = some ds → ∃ O', FO c O' δ τ σ H ∧ RepL c.k O' H xs ds := by
  suffices h : ∀ (xs : List V) (vs : List Vl) (ds : List D) (O : Addr → Prop) (τ : List Et), FO c O δ (ents xs vs ++ τ) σ H → VOks σ xs vs → cvs vs = some ds →
      ∃ O', FO c O' δ (((xs.zip ds).map fun p => (some p.1, Sl.fz p.2)) ++ τ) σ H ∧ xs.length = ds.length by
    intro xs vs ds F o hc
    obtain ⟨O', F', hl⟩ := h xs vs ds O τ F o hc
    refine ⟨O', F'.sub (List.sublist_append_right _ _), ?_⟩
    have ok := F'.fr.ok
    clear F F' o hc h
    have ok2 : ∀ p ∈ xs.zip ds, Rep c.k O' H p.1 p.2 := fun p hp => ok (some p.1, Sl.fz p.2) (List.mem_append_left _ (List.mem_append_left _ (List.mem_map.mpr ⟨p, hp, rfl⟩)))
    clear ok
    induction xs generalizing ds with
    | nil => cases ds with | nil => exact .nil | cons _ _ => cases hl
    | cons x xs ih =>
      cases ds with
      | nil => cases hl
      | cons d ds => exact .cons (ok2 (x, d) (by simp)) (ih (ds := ds) (by simpa using hl) fun p hp => ok2 p (List.mem_cons_of_mem _ hp))
  intro xs
  induction xs with
  | nil =>
    intro vs ds O τ F o hc
    cases vs with
    | nil => cases hc; exact ⟨O, F, rfl⟩
    | cons v vs => exact o.elim
  | cons x xs ih =>
    intro vs ds O τ F o hc
    cases vs with
    | nil => exact o.elim
    | cons v vs =>
      simp only [cvs] at hc
      cases e1 : cv v with
      | none => rw [e1] at hc; cases hc
      | some d =>
        rw [e1] at hc
        simp only [Option.bind] at hc
        cases e2 : cvs vs with
        | none => rw [e2] at hc; cases hc
        | some dr =>
          rw [e2] at hc; cases hc
          have F0 : FO c O δ (ent x v :: (ents xs vs ++ τ)) σ H := F
          have F1 : ∃ O1, FO c O1 δ ((some x, .fz d) :: (ents xs vs ++ τ)) σ H := by
            cases v with
            | pl d' => cases e1; exact ⟨O, F0⟩
            | fr zs =>
              cases e1
              have ok := F0.fr.ok _ (List.mem_append_left _ List.mem_cons_self)
              cases x with
              | ref a => exact ⟨_, F0.freezeT (List.Perm.refl _)⟩
              | _ => exact ok.elim
            | al i => cases e1
          obtain ⟨O1, F1⟩ := F1
          obtain ⟨O2, F2, hl⟩ := ih vs dr O1 ((some x, .fz d) :: τ) (F1.perm List.perm_middle.symm) o.2 e2
          exact ⟨O2, F2.perm List.perm_middle, by simp [hl]⟩
end
end B
namespace B
open PySem PySem.Spec L2
open PyProof.Rows hiding St
section
variable {X : Cx} {c : Cst} {W : WX} {fa fb fc : En → R (Vl × En)} {fr : En → R (List Vl × En)} {a b cc e : Expr} {es : List Expr} {pos : Pos} {lv : Nat}

/-! ## displays -/
def tupF (fr : En → R (List Vl × En)) : En → R (Vl × En) := fun δ => (fr δ).bind fun (vs, δ1) => (R.ofO (cvs vs)).bind fun ds => if ds.length ≤ sizeLine then .ok (.pl (.tup ds), δ1) else .no
def lstF (fr : En → R (List Vl × En)) : En → R (Vl × En) := fun δ => (fr δ).bind fun (vs, δ1) => (R.ofO (cvs vs)).bind fun ds => if ds.length ≤ sizeLine then .ok (.fr ds, δ1) else .no
theorem s_tup {k : Nat} (h : PA X es (rdA c W fr)) : PE X (.Tuple es k pos) (rdE c W (tupF fr)) := peOf (pe_tup h) fun σ H Q ⟨δ, τ, F, P⟩ => by
  obtain ⟨p1, p2, p3⟩ := bindE (P := fun r => Post c W σ τ r Q) (show Post c W σ τ ((fr δ).bind _) Q from P)
  refine seqA F (fun cl fs δ' e => p1 cl fs δ' e) (fun e => p2 e) fun vs δ1 e1 xs H1 F1 o1 => ?_
  obtain ⟨ds, ed, h⟩ := bindO (P := fun r => Post c W σ τ r Q) (p3 _ e1) (fun z => z)
  obtain ⟨O, F1⟩ := F1
  obtain ⟨O', F2, r⟩ := F1.giveL o1 ed
  simp only at h
  split at h
  · rename_i hl
    exact ⟨by rw [r.length]; exact hl, fun p hp => h _ _ ⟨O', F2.newTup hp r⟩ True.intro⟩
  · exact h.elim
theorem s_lst (h : PA X es (rdA c W fr)) : PE X (.List es pos) (rdE c W (lstF fr)) := peOf (pe_lst h) fun σ H Q ⟨δ, τ, F, P⟩ => by
  obtain ⟨p1, p2, p3⟩ := bindE (P := fun r => Post c W σ τ r Q) (show Post c W σ τ ((fr δ).bind _) Q from P)
  refine seqA F (fun cl fs δ' e => p1 cl fs δ' e) (fun e => p2 e) fun vs δ1 e1 xs H1 F1 o1 => ?_
  obtain ⟨ds, ed, h⟩ := bindO (P := fun r => Post c W σ τ r Q) (p3 _ e1) (fun z => z)
  obtain ⟨O, F1⟩ := F1
  obtain ⟨O', F2, r⟩ := F1.giveL o1 ed
  simp only at h
  split at h
  · rename_i hl
    exact ⟨by rw [r.length]; exact hl, fun p hp => h _ _ ⟨_, F2.newLst hp r⟩ True.intro⟩
  · exact h.elim

/-! ## a[i] -/
theorem atI_rep {k : Kt} {O : Addr → Prop} {H : Hp} {xs : List V} {ds : List D} {i : Int} {d : D} (r : RepL k O H xs ds) (h : atI ds i = some d) : ∃ v, atI xs i = some v ∧ Rep k O H v d := by
  unfold atI at h ⊢
  rw [r.length]
  cases e : ixN ds.length i with
  | none => rw [e] at h; cases h
  | some j =>
    rw [e] at h
    exact r.get h
theorem rule_ix {K : PySem.W.Frag} {w : World} (hK : K = c.k.K) (hkd : ∀ a ps, c.k.kd a ps → KdF K w a ps) : Rule2 c (fun x y H Q => rIx K x y H Q ∨ rIxD K w x y H Q) ixV := by
  subst hK
  intro O δ τ σ H Q x y v w d e z F h1 h2 hz q
  unfold ixV at hz
  cases hi : ixD d e with
  | none => rw [hi] at hz; cases hz
  | some u =>
    rw [hi] at hz; cases hz
    cases d <;> cases e <;> simp only [ixD] at hi <;> try contradiction
    case tbl.str fs s =>
      cases h1 with
      | tbl h r =>
        obtain ⟨es, n, D, _, hz⟩ := hkd _ _ h
        obtain ⟨v, e1, rv⟩ := r.look hi
        obtain ⟨u0, e2, ru⟩ := (hz s).1 v e1
        exact .inr ⟨_, s, v, rfl, h2.str, ⟨es, n, u0, D.at_, D.lit, e2, ru⟩, q _ _ (out_fz F sub2 rv) True.intro⟩
    all_goals refine .inl ?_
    · split at hi
      · cases ha : atI (‹Str› : Str).cps.toList ‹Int› with
        | none => rw [ha] at hi; cases hi
        | some cp =>
          rw [ha] at hi; cases hi
          exact .inr (.inr ⟨_, _, cp, h1.str, h2.int, by assumption, ha, q _ _ (out_fz F sub2 (.str _)) True.intro⟩)
      · cases hi
    · obtain ⟨a, xs, rfl, ta, ra⟩ := h1.tup
      obtain ⟨v', e1, r⟩ := atI_rep ra hi
      exact .inr (.inl ⟨a, xs, _, v', rfl, h2.int, ta.sq, e1, q _ _ (out_fz F sub2 r) True.intro⟩)
    · obtain ⟨a, xs, rfl, ta, ra⟩ := h1
      obtain ⟨v', e1, r⟩ := atI_rep ra hi
      exact .inl ⟨a, xs, _, v', rfl, h2.int, SqL.of ta, e1, q _ _ (out_fz F sub2 r) True.intro⟩
    · obtain ⟨a, xs, rfl, ta, ra⟩ := h1.ro
      obtain ⟨v', e1, r⟩ := atI_rep ra hi
      exact .inl ⟨a, xs, _, v', rfl, h2.int, ta.sq, e1, q _ _ (out_fz F sub2 r) True.intro⟩
theorem s_ix (hK : X.K = c.k.K) (hkd : ∀ a ps, c.k.kd a ps → KdF X.K X.w a ps) (ha : PE X a (rdE c W fa)) (hb : PE X b (rdE c W fb)) (hs : PlainIx b) : PE X (.Subscript a b pos) (rdE c W (do2 fa fb ixV)) := peOf (pe_ix (ix_seq.or ix_kdict) ha hb hs) (s_two (rule_ix hK hkd))

/-! ## a[lo:hi] -/
def optF (fa : En → R (Vl × En)) : En → R (Option Int × En) := fun δ => (fa δ).bind fun (v, δ1) => match dv δ1 v with
    | some (.int i) => .ok (some i, δ1)
    | _ => .no
def noF : En → R (Option Int × En) := fun δ => .ok (none, δ)
theorem poOf {e : Option Expr} {t t' : TO} (h : PO X e t) (i : ∀ σ H Q, t' σ H Q → t σ H Q) : PO X e t' := ⟨fun pins s σ H Q I q => h.run pins s σ H Q I (i σ H Q q)⟩
theorem s_po0 : PO X none (rdO c W noF) := poOf po_none fun σ H Q ⟨δ, τ, F, P⟩ => P H F
theorem s_po1 (ha : PE X a (rdE c W fa)) : PO X (some a) (rdO c W (optF fa)) := poOf (po_some ha) fun σ H Q ⟨δ, τ, F, P⟩ => by
  obtain ⟨p1, p2, p3⟩ := bindE (P := fun r => PostO c W σ τ r Q) (show PostO c W σ τ ((fa δ).bind _) Q from P)
  refine seqE F (fun cl fs δ' e => p1 cl fs δ' e) (fun e => p2 e) fun v δ1 e1 x H1 F1 o1 => ?_
  have h := p3 _ e1
  simp only at h
  split at h
  · rename_i i ed
    obtain ⟨O, F1⟩ := F1
    exact ⟨i, (F1.den List.mem_cons_self o1 ed).int, h H1 ⟨O, F1.sub sub1⟩⟩
  · exact h.elim
def slF (fa : En → R (Vl × En)) (fl fh : En → R (Option Int × En)) : En → R (Vl × En) := fun δ => (fa δ).bind fun (v, δ1) => (fl δ1).bind fun (lo, δ2) => (fh δ2).bind fun (hi, δ3) => match dv δ3 v with
    | some (.lst xs) => .ok (.fr (cutD xs lo hi), δ3)
    | some (.ro xs) => .ok (.fr (cutD xs lo hi), δ3)
    | some (.tup xs) => .ok (.pl (.tup (cutD xs lo hi)), δ3)
    | _ => .no
theorem cut_rep {k : Kt} {O : Addr → Prop} {H : Hp} {xs : List V} {ds : List D} (r : RepL k O H xs ds) (lo hi : Option Int) : RepL k O H (cutV xs lo hi) (cutD ds lo hi) := by
  unfold cutV cutD
  rw [r.length]
  exact (r.drop _).take _
theorem cut_all {xs : List D} {lo hi : Option Int} (h : HT.sIx xs.length 0 lo = 0 ∧ HT.sIx xs.length xs.length hi = xs.length) : cutD xs lo hi = xs := by
  unfold cutD
  rw [h.1, h.2]
  simp
theorem s_sl {lo hi : Option Expr} {p2 : Pos} {fl fh : En → R (Option Int × En)} (hK : X.K = c.k.K) (ha : PE X a (rdE c W fa)) (hl : PO X lo (rdO c W fl)) (hh : PO X hi (rdO c W fh)) :
    PE X (.Subscript a (.Slice lo hi none p2) pos) (rdE c W (slF fa fl fh)) := peOf (pe_slice (sl_list.or sl_tupA) ha hl hh) fun σ H Q ⟨δ, τ, F, P⟩ => by
  obtain ⟨p1, p2, p3⟩ := bindE (P := fun r => Post c W σ τ r Q) (show Post c W σ τ ((fa δ).bind _) Q from P)
  refine seqE F (fun cl fs δ' e => p1 cl fs δ' e) (fun e => p2 e) fun v δ1 e1 x H1 F1 o1 => ?_
  obtain ⟨q1, q2, q3⟩ := bindE (P := fun r => Post c W σ τ r Q) (p3 _ e1)
  refine seqO F1 (fun cl fs δ' e => ExK.weak (q1 cl fs δ' e) sub1) (fun e => q2 e) fun lo δ2 e2 H2 F2 => ?_
  obtain ⟨r1, r2, r3⟩ := bindE (P := fun r => Post c W σ τ r Q) (q3 _ e2)
  refine seqO F2 (fun cl fs δ' e => ExK.weak (r1 cl fs δ' e) sub1) (fun e => r2 e) fun hi δ3 e3 H3 F3 => ?_
  have h := r3 _ e3
  obtain ⟨O, F3⟩ := F3
  simp only at h
  split at h
  · rename_i ds ed
    obtain ⟨p, xs, rfl, t, r⟩ := F3.den List.mem_cons_self o1 ed
    exact .inl ⟨p, xs, rfl, hK ▸ SqL.of t, fun l hl => h _ _ ⟨_, (F3.sub sub1).newLst hl (cut_rep r _ _)⟩ True.intro⟩
  · rename_i ds ed
    obtain ⟨p, xs, rfl, t, r⟩ := (F3.den List.mem_cons_self o1 ed).ro
    exact .inl ⟨p, xs, rfl, hK ▸ t.sq, fun l hl => h _ _ ⟨_, (F3.sub sub1).newLst hl (cut_rep r _ _)⟩ True.intro⟩
  · rename_i ds ed
    obtain ⟨p, xs, rfl, t, r⟩ := (F3.den List.mem_cons_self o1 ed).tup
    refine .inr ⟨p, xs, rfl, hK ▸ t.sq, fun hw => ?_, fun hw l hl => h _ _ ⟨_, (F3.sub sub1).newTup hl (cut_rep r _ _)⟩ True.intro⟩
    rw [r.length] at hw
    rw [cut_all hw] at h
    exact h _ _ (out_fz F3 sub1 (.tup t r)) True.intro
  · exact h.elim

/-! ## built-in functions -/
def callF (fr : En → R (List Vl × En)) (g : List D → Option Vl) : En → R (Vl × En) := fun δ => (fr δ).bind fun (vs, δ1) => (R.ofO (dvs δ1 vs)).bind fun ds => (R.ofO (g ds)).bind fun v => .ok (v, δ1)
/-- what a built-in's rule must give -/
def RuleN (c : Cst) (r : List V → Hp → VK → Prop) (g : List D → Option Vl) : Prop := ∀ (O : Addr → Prop) (δ : En) (τ' τ : List Et) (σ : St) (H : Hp) (Q : VK) (xs : List V) (ds : List D) (z : Vl),
  FO c O δ τ' σ H → τ.Sublist τ' → DenL c.k O H xs ds → g ds = some z → (∀ u H', FS c δ (ent u z :: τ) σ H' → VOk σ u z → Q u H') → r xs H Q
theorem s_many {r : List V → Hp → VK → Prop} {g : List D → Option Vl} (hr : RuleN c r g) : ∀ σ H Q, rdE c W (callF fr g) σ H Q → rdA c W fr σ H fun xs H1 => r xs H1 Q := by
  rintro σ H Q ⟨δ, τ, F, P⟩
  obtain ⟨p1, p2, p3⟩ := bindE (P := fun r => Post c W σ τ r Q) (show Post c W σ τ ((fr δ).bind _) Q from P)
  refine seqA F (fun cl fs δ' e => p1 cl fs δ' e) (fun e => p2 e) fun vs δ1 e1 xs H1 F1 o1 => ?_
  obtain ⟨ds, ed, h⟩ := bindO (P := fun r => Post c W σ τ r Q) (p3 _ e1) (fun z => z)
  obtain ⟨z, ez, h⟩ := bindO (P := fun r => Post c W σ τ r Q) h (fun z => z)
  obtain ⟨O, F1⟩ := F1
  exact hr O δ1 (ents xs vs ++ τ) τ σ H1 Q xs ds z F1 (List.sublist_append_right _ _) (F1.denL o1 ed) ez h
theorem DenL.one {k : Kt} {O : Addr → Prop} {H : Hp} {xs : List V} {d : D} (h : DenL k O H xs [d]) : ∃ x, xs = [x] ∧ Den k O H x d := by
  cases xs with
  | nil => exact h.elim
  | cons x xs =>
    cases xs with
    | nil => exact ⟨x, rfl, h.1⟩
    | cons _ _ => exact h.2.elim
theorem DenL.two {k : Kt} {O : Addr → Prop} {H : Hp} {xs : List V} {d e : D} (h : DenL k O H xs [d, e]) : ∃ x y, xs = [x, y] ∧ Den k O H x d ∧ Den k O H y e := by
  cases xs with
  | nil => exact h.elim
  | cons x xs =>
    obtain ⟨y, rfl, h2⟩ := DenL.one h.2
    exact ⟨x, y, rfl, h.1, h2⟩
theorem one_of {ds : List D} {g : List D → Option Vl} {z : Vl} (h : g ds = some z) (h0 : g [] = none) (h2 : ∀ a b r, g (a :: b :: r) = none) : ∃ d, ds = [d] := by
  cases ds with
  | nil => rw [h0] at h; cases h
  | cons d r =>
    cases r with
    | nil => exact ⟨d, rfl⟩
    | cons e r => rw [h2] at h; cases h
theorem lenV {k : Kt} {O : Addr → Prop} {H : Hp} {x : V} {d : D} {n : Nat} (h : Den k O H x d) (e : lenD d = some n) : LenV k.K x H n := by
  cases d <;> simp only [lenD] at e <;> try contradiction
  · split at e <;> cases e
    rw [h.str]
    exact ⟨by assumption, rfl⟩
  · obtain ⟨a, xs, rfl, ta, ra⟩ := h.tup
    cases e
    exact .inr ⟨xs, ta.sq, ra.length.symm⟩
  · obtain ⟨a, xs, rfl, ta, ra⟩ := h
    cases e
    exact .inl ⟨xs, SqL.of ta, ra.length.symm⟩
  · obtain ⟨a, xs, rfl, ta, ra⟩ := h.ro
    cases e
    exact .inl ⟨xs, ta.sq, ra.length.symm⟩
theorem bools_rep {k : Kt} {O : Addr → Prop} {H : Hp} : ∀ {xs : List V} {ds : List D} {bs : List Bool}, RepL k O H xs ds → boolsOf ds = some bs → xs = bs.map V.bl
  | _, _, _, .nil, e => by cases e; rfl
  | _, _, _, .cons a r, e => by
    cases a <;> simp only [boolsOf] at e <;> try contradiction
    cases h : boolsOf ‹List D› with
    | none => rw [h] at e; cases e
    | some br => rw [h] at e; cases e; rw [bools_rep r h]; rfl
theorem ints_rep {k : Kt} {O : Addr → Prop} {H : Hp} : ∀ {xs : List V} {ds : List D} {bs : List Int}, RepL k O H xs ds → intsOf ds = some bs → xs = bs.map V.int
  | _, _, _, .nil, e => by cases e; rfl
  | _, _, _, .cons a r, e => by
    cases a <;> simp only [intsOf] at e <;> try contradiction
    cases h : intsOf ‹List D› with
    | none => rw [h] at e; cases e
    | some br => rw [h] at e; cases e; rw [ints_rep r h]; rfl
/-- repr of data -/
theorem Reads.oneRef {h : Heap} {u : Value} {d : PyData} {as : List Addr} (r : Reads h u d as) : (∃ a, u = .ref a) ∨ (u = .none ∧ d = .none) ∨ (∃ b, u = .bool b ∧ d = .bool b) ∨ (∃ i t, u = .int i t ∧ d = .int i) ∨ ∃ x t, u = .str x t ∧ d = .str x := by
  cases r <;> first | exact .inl ⟨_, rfl⟩ | exact .inr (.inl ⟨rfl, rfl⟩) | exact .inr (.inr (.inl ⟨_, rfl, rfl⟩)) | exact .inr (.inr (.inr (.inl ⟨_, _, rfl, rfl⟩))) | exact .inr (.inr (.inr (.inr ⟨_, _, rfl, rfl⟩)))
theorem canLay_shaped {d : PyData} (h : SeqAt.shaped d = true) : d.canLay0 = true ∧ d.depth ≤ 64 := by
  have h' : (d.canLay0 && decide (d.depth ≤ 64)) = true := h
  rw [Bool.and_eq_true] at h'
  exact ⟨h'.1, of_decide_eq_true h'.2⟩
def rRepr (K : PySem.W.Frag) : List V → Hp → VK → Prop := fun xs H Q => ∃ x d, xs = [x] ∧ Dp K H x d ∧ SeqAt.shaped d = true ∧ d.showable = true ∧ d.shown.length ≤ sizeLine ∧ Q (.str d.shown) H
theorem call_reprD (hg : X.A.guards = some []) (hu : X.A.units + 100 < cLine) : CallR X (.builtin "repr") (rRepr X.K) := by
  intro pins s σ H xs us Q I r h
  obtain ⟨x, d, rfl, hd, hs, hsh, hz, q⟩ := h
  obtain ⟨u, rfl, ru⟩ := vals1 r
  obtain ⟨as, rd⟩ := Dp.reads I d x u hd ru
  obtain ⟨hc, hdep⟩ := canLay_shaped hs
  rcases Reads.oneRef rd with ⟨a, rfl⟩ | ⟨rfl, rfl⟩ | ⟨b, rfl, rfl⟩ | ⟨i, t, rfl, rfl⟩ | ⟨y, t, rfl, rfl⟩
  · exact PySem.repr_of_reads' rd hsh (PySem.PyData.noDict_hsm (PySem.PyData.hasDict_of_canLay d hc)) hg (by omega) (fun _ _ e => e) (fun h' u tk hk => ⟨.str _, H, I.kept (t' := tk) hk, ⟨_, rfl⟩, q⟩) hz
  · simp only [PyData.shown] at q
    exact PySem.P.repr_of_none ⟨.str _, H, I.tok _, ⟨_, rfl⟩, q⟩
  · simp only [PyData.shown] at q
    exact PySem.P.repr_of_bool ⟨.str _, H, I.tok _, ⟨_, rfl⟩, q⟩
  · simp only [PyData.shown] at q
    simp only [PyData.showable, decide_eq_true_eq] at hsh
    exact PySem.P.repr_of_int hsh ⟨.str _, H, I.tok _, ⟨_, rfl⟩, q⟩
  · simp only [PyData.shown] at q hz
    exact PySem.P.repr_of_str ⟨.str _, H, I.tok _, ⟨_, rfl⟩, q⟩ hz
end
end B
namespace B
open PySem PySem.Spec L2
open PyProof.Rows hiding St
section
variable {X : Cx} {c : Cst} {W : WX} {fa fb fc : En → R (Vl × En)} {fr : En → R (List Vl × En)} {a b cc e : Expr} {es : List Expr} {pos : Pos} {lv : Nat}

/-! ## each built-in -/
/-- one argument -/
theorem rule1 {r : List V → Hp → VK → Prop} {b : Bi} (hr : ∀ (O : Addr → Prop) (δ : En) (τ' τ : List Et) (σ : St) (H : Hp) (Q : VK) (x : V) (d : D) (z : Vl),
    FO c O δ τ' σ H → τ.Sublist τ' → Den c.k O H x d → biD b [d] = some z → (∀ u H', FS c δ (ent u z :: τ) σ H' → VOk σ u z → Q u H') → r [x] H Q)
    (h0 : biD b [] = none) (h2 : ∀ a e s, biD b (a :: e :: s) = none) : RuleN c r (biD b) := by
  intro O δ τ' τ σ H Q xs ds z F s h hz q
  obtain ⟨d, rfl⟩ := one_of hz h0 h2
  obtain ⟨x, rfl, hx⟩ := h.one
  exact hr O δ τ' τ σ H Q x d z F s hx hz q
theorem r_len : RuleN c (fun xs H Q => ∃ x n, xs = [x] ∧ LenV c.k.K x H n ∧ Q (.int n) H) (biD .len) := rule1 (fun O δ τ' τ σ H Q x d z F s h hz q => by
  simp only [biD] at hz
  cases e : lenD d with
  | none => rw [e] at hz; cases hz
  | some n => rw [e] at hz; cases hz; exact ⟨x, n, rfl, lenV h e, q _ _ (out_fz F s (.int _)) True.intro⟩) rfl fun a _ _ => by cases a <;> rfl
theorem r_abs : RuleN c (fun xs H Q => ∃ i, xs = [.int i] ∧ Q (.int (if i < 0 then -i else i)) H) (biD .abs) := rule1 (fun O δ τ' τ σ H Q x d z F s h hz q => by
  cases d <;> simp only [biD] at hz <;> try contradiction
  cases hz
  rw [h.int]
  exact ⟨_, rfl, q _ _ (out_fz F s (.int _)) True.intro⟩) rfl fun a _ _ => by cases a <;> rfl
theorem r_int : RuleN c (fun xs H Q => (∃ i, xs = [.int i] ∧ Q (.int i) H) ∨ ∃ k, xs = [.bl k] ∧ Q (.int (if k then 1 else 0)) H) (biD .int) := rule1 (fun O δ τ' τ σ H Q x d z F s h hz q => by
  cases d <;> simp only [biD] at hz <;> try contradiction
  · cases hz
    rw [h.bl]
    exact .inr ⟨_, rfl, q _ _ (out_fz F s (.int _)) True.intro⟩
  · cases hz
    rw [h.int]
    exact .inl ⟨_, rfl, q _ _ (out_fz F s (.int _)) True.intro⟩) rfl fun a _ _ => by cases a <;> rfl
theorem r_bool : RuleN c (fun xs H Q => (∃ i, xs = [.int i] ∧ Q (.bl (i != 0)) H) ∨ ∃ k, xs = [.bl k] ∧ Q (.bl k) H) (biD .bool) := rule1 (fun O δ τ' τ σ H Q x d z F s h hz q => by
  cases d <;> simp only [biD] at hz <;> try contradiction
  · cases hz
    rw [h.bl]
    exact .inr ⟨_, rfl, q _ _ (out_fz F s (.bl _)) True.intro⟩
  · cases hz
    rw [h.int]
    exact .inl ⟨_, rfl, q _ _ (out_fz F s (.bl _)) True.intro⟩) rfl fun a _ _ => by cases a <;> rfl
theorem r_repr : RuleN c (rRepr c.k.K) (biD .repr) := rule1 (fun O δ τ' τ σ H Q x d z F s h hz q => by
  simp only [biD] at hz
  split at hz <;> cases hz
  rename_i hc
  simp only [Bool.and_eq_true, decide_eq_true_eq] at hc
  exact ⟨x, d.py, rfl, h.dp hc.1.1.1, hc.1.1.2, hc.1.2, hc.2, q _ _ (out_fz F s (.str _)) True.intro⟩) rfl fun a _ _ => by cases a <;> rfl
theorem r_all : RuleN c (rAll c.k.K) (biD .all) := rule1 (fun O δ τ' τ σ H Q x d z F s h hz q => by
  cases d <;> simp only [biD] at hz <;> try contradiction
  cases e : boolsOf ‹List D› with
  | none => rw [e] at hz; cases hz
  | some bs =>
    rw [e] at hz; cases hz
    obtain ⟨a, xs, rfl, t, r⟩ := h
    rw [bools_rep r e] at t
    exact ⟨a, bs, rfl, SqL.of t, q _ _ (out_fz F s (.bl _)) True.intro⟩) rfl fun a _ _ => by cases a <;> rfl
theorem r_any : RuleN c (rAny c.k.K) (biD .any) := rule1 (fun O δ τ' τ σ H Q x d z F s h hz q => by
  cases d <;> simp only [biD] at hz <;> try contradiction
  cases e : boolsOf ‹List D› with
  | none => rw [e] at hz; cases hz
  | some bs =>
    rw [e] at hz; cases hz
    obtain ⟨a, xs, rfl, t, r⟩ := h
    rw [bools_rep r e] at t
    exact ⟨a, bs, rfl, SqL.of t, q _ _ (out_fz F s (.bl _)) True.intro⟩) rfl fun a _ _ => by cases a <;> rfl
theorem r_sum : RuleN c (Zn.rSum2 c.k.K) (biD .sum) := rule1 (fun O δ τ' τ σ H Q x d z F s h hz q => by
  cases d <;> simp only [biD] at hz <;> try contradiction
  all_goals
    cases e : intsOf ‹List D› with
    | none => rw [e] at hz; cases hz
    | some bs =>
      rw [e] at hz; cases hz
      first
        | (obtain ⟨a, xs, rfl, t, r⟩ := h
           rw [ints_rep r e] at t
           exact ⟨a, bs, rfl, .inl (SqL.of t), q _ _ (out_fz F s (.int _)) True.intro⟩)
        | (obtain ⟨a, xs, rfl, t, r⟩ := h.tup
           rw [ints_rep r e] at t
           exact ⟨a, bs, rfl, .inr t.sq, q _ _ (out_fz F s (.int _)) True.intro⟩)) rfl fun a _ _ => by cases a <;> rfl
theorem r_list : RuleN c (fun xs H Q => ∃ p ys, xs = [.ref p] ∧ (SqL c.k.K H p ys ∨ SqT c.k.K H p ys) ∧ ∀ l, H l = none → Q (.ref l) (upd H l (.lst ys))) (biD .list) := rule1 (fun O δ τ' τ σ H Q x d z F s h hz q => by
  cases d <;> simp only [biD] at hz <;> try contradiction
  all_goals cases hz
  · obtain ⟨a, xs, rfl, t, r⟩ := h.tup
    exact ⟨a, xs, rfl, .inr t.sq, fun l hl => q _ _ ⟨_, (F.sub s).newLst hl r⟩ True.intro⟩
  · obtain ⟨a, xs, rfl, t, r⟩ := h
    exact ⟨a, xs, rfl, .inl (SqL.of t), fun l hl => q _ _ ⟨_, (F.sub s).newLst hl r⟩ True.intro⟩
  · obtain ⟨a, xs, rfl, t, r⟩ := h.ro
    exact ⟨a, xs, rfl, .inl t.sq, fun l hl => q _ _ ⟨_, (F.sub s).newLst hl r⟩ True.intro⟩) rfl fun a _ _ => by cases a <;> rfl
theorem r_tuple : RuleN c (fun xs H Q => ∃ p ys, xs = [.ref p] ∧ ((SqL c.k.K H p ys ∧ ∀ l, H l = none → Q (.ref l) (upd H l (.tup ys))) ∨ (SqT c.k.K H p ys ∧ Q (.ref p) H))) (biD .tuple) := rule1 (fun O δ τ' τ σ H Q x d z F s h hz q => by
  cases d <;> simp only [biD] at hz <;> try contradiction
  all_goals cases hz
  · obtain ⟨a, xs, rfl, t, r⟩ := h.tup
    exact ⟨a, xs, rfl, .inr ⟨t.sq, q _ _ (out_fz F s (.tup t r)) True.intro⟩⟩
  · obtain ⟨a, xs, rfl, t, r⟩ := h
    exact ⟨a, xs, rfl, .inl ⟨SqL.of t, fun l hl => q _ _ ⟨_, (F.sub s).newTup hl r⟩ True.intro⟩⟩
  · obtain ⟨a, xs, rfl, t, r⟩ := h.ro
    exact ⟨a, xs, rfl, .inl ⟨t.sq, fun l hl => q _ _ ⟨_, (F.sub s).newTup hl r⟩ True.intro⟩⟩) rfl fun a _ _ => by cases a <;> rfl
theorem two_of {ds : List D} {g : List D → Option Vl} {z : Vl} (h : g ds = some z) (h0 : g [] = none) (h1 : ∀ a, g [a] = none) (h3 : ∀ a b e r, g (a :: b :: e :: r) = none) : ∃ d e, ds = [d, e] := by
  match ds with
  | [] => rw [h0] at h; cases h
  | [a] => rw [h1] at h; cases h
  | [a, b] => exact ⟨a, b, rfl⟩
  | a :: b :: e :: r => rw [h3] at h; cases h
theorem r_max : RuleN c (fun xs H Q => ∃ i j, xs = [.int i, .int j] ∧ Q (.int (if j > i then j else i)) H) (biD .max) := by
  intro O δ τ' τ σ H Q xs ds z F s h hz q
  obtain ⟨d, e, rfl⟩ := two_of hz rfl (fun a => by cases a <;> rfl) (fun a b e r => by cases a <;> cases b <;> rfl)
  obtain ⟨x, y, rfl, hx, hy⟩ := h.two
  cases d <;> cases e <;> simp only [biD] at hz <;> try contradiction
  cases hz
  rw [hx.int, hy.int]
  exact ⟨_, _, rfl, q _ _ (out_fz F s (.int _)) True.intro⟩
theorem r_min : RuleN c (fun xs H Q => ∃ i j, xs = [.int i, .int j] ∧ Q (.int (if j < i then j else i)) H) (biD .min) := by
  intro O δ τ' τ σ H Q xs ds z F s h hz q
  obtain ⟨d, e, rfl⟩ := two_of hz rfl (fun a => by cases a <;> rfl) (fun a b e r => by cases a <;> cases b <;> rfl)
  obtain ⟨x, y, rfl, hx, hy⟩ := h.two
  cases d <;> cases e <;> simp only [biD] at hz <;> try contradiction
  cases hz
  rw [hx.int, hy.int]
  exact ⟨_, _, rfl, q _ _ (out_fz F s (.int _)) True.intro⟩
/-- the built-in's name -/
def biName : Bi → Str
  | .len => "len" | .abs => "abs" | .int => "int" | .repr => "repr" | .all => "all" | .any => "any" | .list => "list" | .tuple => "tuple"
  | .sorted => "sorted" | .max => "max" | .min => "min" | .sum => "sum" | .str => "str" | .bool => "bool"
/-- built-ins that may stand in an except suite -/
def biHot : Bi → Bool
  | .len => true | .abs => true | .int => true | .bool => true | .repr => true | .list => true | .tuple => true
  | _ => false
structure Gg (X : Cx) (c : Cst) (lv : Nat) (q : Bool) : Prop extends Gd X c lv q where
  grd : X.A.guards = some []
theorem s_bi {x : Str} {p : Pos} {b : Bi} {q : Bool} (G : Gg X c lv q) (hq : q = true ∨ biHot b = true) (ha : PA X (e :: es) (rdA c W fr)) (hx : x = biName b) (hg : Gl X x) (hm : X.mg x = none)
    (he : starEach (e :: es) X.env = (false, eval e X.env) :: starEach es X.env) (hpl : (backTo pos (starEach es X.env)).any (·.1) = false) : PE X (.Call (.Name x p) (e :: es) [] pos) (rdE c W (callF fr (biD b))) := by
  have hK := G.K
  have hu : X.A.units + 100 < cLine := by have := G.un; omega
  subst hx
  cases b with
  | len => exact peOf (pe_callB call_len hg hm boot_len ha (by decide) (by decide) he hpl) (hK ▸ s_many r_len)
  | abs => exact peOf (pe_callB call_abs hg hm (by decide +kernel) ha (by decide) (by decide) he hpl) (s_many r_abs)
  | int => exact peOf (pe_callTy call_int1 hg hm boot_int ha (by decide) (by decide) he hpl) (s_many r_int)
  | bool => exact peOf (pe_callTy call_bool1 hg hm boot_bool ha (by decide) (by decide) he hpl) (s_many r_bool)
  | repr => exact peOf (pe_callB (call_reprD G.grd hu) hg hm boot_repr ha (by decide) (by decide) he hpl) (hK ▸ s_many r_repr)
  | all => have hc : X.calm = true := G.calm (hq.resolve_right (by decide)); exact peOf (pe_callB (cr_all hc) hg hm (by decide +kernel) ha (by decide) (by decide) he hpl) (hK ▸ s_many r_all)
  | any => have hc : X.calm = true := G.calm (hq.resolve_right (by decide)); exact peOf (pe_callB (cr_any hc) hg hm (by decide +kernel) ha (by decide) (by decide) he hpl) (hK ▸ s_many r_any)
  | sum => have hc : X.calm = true := G.calm (hq.resolve_right (by decide)); exact peOf (pe_callB (Zn.cr_sum2 hc) hg hm boot_sum ha (by decide) (by decide) he hpl) (hK ▸ s_many r_sum)
  | list => exact peOf (pe_callTy call_list_of hg hm boot_list ha (by decide) (by decide) he hpl) (hK ▸ s_many r_list)
  | tuple => exact peOf (pe_callTy call_tuple_of hg hm boot_tuple ha (by decide) (by decide) he hpl) (hK ▸ s_many r_tuple)
  | max => have hc : X.calm = true := G.calm (hq.resolve_right (by decide)); exact peOf (pe_callB (call_max2 hc) hg hm boot_max ha (by decide) (by decide) he hpl) (s_many r_max)
  | min => have hc : X.calm = true := G.calm (hq.resolve_right (by decide)); exact peOf (pe_callB (call_min2 hc) hg hm boot_min ha (by decide) (by decide) he hpl) (s_many r_min)
  | sorted =>
    refine peOf (pe_callB (r := fun _ _ _ => False) (id := "sorted") (fun _ _ _ _ _ _ _ _ _ h => h.elim) hg hm boot_sorted ha (by decide) (by decide) he hpl) (s_many (g := biD .sorted) ?_)
    intro O δ τ' τ σ H Q xs ds z F s h hz q
    simp [biD] at hz
  | str =>
    refine peOf (pe_callTy (r := fun _ _ _ => False) (T := "str") (fun _ _ _ _ _ _ _ _ _ h => h.elim) hg hm boot_str ha (by decide) (by decide) he hpl) (s_many (g := biD .str) ?_)
    intro O δ τ' τ σ H Q xs ds z F s h hz q
    simp [biD] at hz

/-! ## x.append(e) of an owned list -/
def appF (i : Nat) (fa : En → R (Vl × En)) : En → R (Vl × En) := fun δ => (match gS δ i with | .ow _ => fa δ | _ => .no).bind fun (v, δ1) => (R.ofO (cv v)).bind fun d => match gS δ1 i with
    | .ow xs => if xs.length < sizeLine then .ok (.pl .non, δ1.set i (.ow (xs ++ [d]))) else .no
    | _ => .no
theorem FO.give1 {O : Addr → Prop} {δ : En} {τ : List Et} {σ : St} {H : Hp} {x : V} {v : Vl} {d : D} (F : FO c O δ (ent x v :: τ) σ H) (h : cv v = some d) : ∃ O', FO c O' δ ((some x, .fz d) :: τ) σ H := by
  cases v with
  | pl d' => cases h; exact ⟨O, F⟩
  | fr zs =>
    cases h
    have ok := F.fr.ok _ (List.mem_append_left _ List.mem_cons_self)
    cases x with
    | ref a => exact ⟨_, F.freezeT (List.Perm.refl _)⟩
    | _ => exact ok.elim
  | al i => cases h
theorem FO.owSlot {O : Addr → Prop} {δ : En} {τ : List Et} {σ : St} {H : Hp} (F : FO c O δ τ σ H) {i : Nat} {ds : List D} (h : gS δ i = .ow ds) : ∃ a xs, σ[i]? = some (some (.ref a)) ∧ H a = some (.lst xs) ∧ RepL c.k O H xs ds := by
  obtain ⟨ov, e1, e2, m, ok⟩ := F.slot h (fun z => by cases z)
  cases ov with
  | none => exact ok.elim
  | some v =>
    cases v with
    | ref a => obtain ⟨_, xs, h2, h3⟩ := ok; exact ⟨a, xs, e1, h2, h3⟩
    | _ => exact ok.elim
theorem s_app {i : Nat} {o e : Expr} {apos : Pos} (hK : X.K = c.k.K) (ho : PE X o (tVar i)) (ha : PE X e (rdE c W fa)) (hs : starEach [e] X.env = (false, eval e X.env) :: starEach [] X.env)
    (hbase : attributeBase o "append" X.env (eval o X.env) = eval o X.env)
    (hfew : ((backTo pos (starEach [e] X.env)).all (fun x => !x.1) && (backToKw pos (keywordEach [] X.env)).all (fun x => x.1.isSome)
      && decide ([e].length + ([] : List Keyword).length + (if ([] : List Keyword).isEmpty then 0 else 1) < 30)) = true)
    (hline : (apos.endLine == pos.line) = true) : PE X (.Call (.Attribute o "append" apos) [e] [] pos) (rdE c W (appF i fa)) := by
  refine peOf (pe_bm PySem.F.plainAttrs_list PySem.F.slot_list_append PySem.F.type_list_append mt_append ho (pa_cons ha pa_nil hs) hbase hfew hline hs (by rfl)) ?_
  rintro σ H Q ⟨δ, τ, F, P⟩
  obtain ⟨p1, p2, p3⟩ := bindE (P := fun r => Post c W σ τ r Q) (show Post c W σ τ ((match gS δ i with | .ow _ => fa δ | _ => .no).bind _) Q from P)
  cases q : gS δ i with
  | ow xs0 =>
    rw [q] at p1 p2 p3
    obtain ⟨O, F⟩ := F
    obtain ⟨a, xs, e1, e2, r⟩ := F.owSlot q
    refine ⟨.ref a, e1, .inl ⟨rfl, xs, SqL.of e2⟩, ?_⟩
    refine seqE ⟨O, F⟩ (fun cl fs δ' e => p1 cl fs δ' e) (fun e => p2 e) fun v δ1 ev y H1 F1 o1 => ?_
    obtain ⟨d, ed, h⟩ := bindO (P := fun r => Post c W σ τ r Q) (p3 _ ev) (fun z => z)
    obtain ⟨O1, F1⟩ := F1
    obtain ⟨O2, F2⟩ := F1.give1 ed
    simp only at h
    split at h
    · rename_i zs hz
      split at h
      · rename_i hl
        obtain ⟨a', xs', e1', e2', r'⟩ := F2.owSlot hz
        rw [e1] at e1'; cases e1'
        have ry : Rep c.k O2 H1 y d := F2.fr.ok _ (List.mem_append_left _ List.mem_cons_self)
        refine ⟨a, xs', y, rfl, rfl, e2', by rw [r'.length]; exact hl, ?_⟩
        exact h _ _ ⟨O2, ((F2.sub sub1).writeS hz e1 (r'.append (.cons ry .nil))).addFz .non⟩ True.intro
      · exact h.elim
    · exact h.elim
  | un => exact (p2 (by rw [q])).elim
  | fz d => exact (p2 (by rw [q])).elim
  | ob cl fs => exact (p2 (by rw [q])).elim
  | xc cl fs => exact (p2 (by rw [q])).elim
end
end B
namespace B
open PySem PySem.Spec L2
open PyProof.Rows hiding St
section
variable {X : Cx} {c : Cst} {W : WX} {fa fb fc : En → R (Vl × En)} {fr : En → R (List Vl × En)} {a b cc e : Expr} {es : List Expr} {pos : Pos} {lv : Nat}
variable {O : Addr → Prop} {δ : En} {τ : List Et} {σ : St} {H : Hp}

/-! ## what is walked -/
/-- J yields the items, one after another, while the entries at en stand -/
def Wk (c : Cst) (J : L2.It) (en : List Et) (items : List D) : Prop := ∀ (O : Addr → Prop) (δ : En) (τ : List Et) (σ : St) (H : Hp), FO c O δ (en ++ τ) σ H →
  (∀ i d, items[i]? = some d → J.go i H ∧ ∀ x H', J.yld i H x H' → ∃ O', FO c O' δ ((some x, .fz d) :: (en ++ τ)) σ H') ∧ J.stop items.length H
def itF (k : It) (fr : En → R (List Vl × En)) : En → R (List D × En) := fun δ => (fr δ).bind fun (vs, δ1) => (R.ofO (cvs vs)).bind fun ds => (R.ofO (itD k ds)).bind fun items => .ok (items, δ1)
def PostI (c : Cst) (W : WX) (σ : St) (τ : List Et) (r : R (List D × En)) (R' : L2.It → Hp → Prop) : Prop := match r with
  | .ok (items, δ) => ∀ J H en, FS c δ (en ++ τ) σ H → Wk c J en items → R' J H
  | .ex cl fs δ => ExK c W σ τ cl fs δ
  | .no => False
def rdI (c : Cst) (W : WX) (f : En → R (List D × En)) : TI := fun σ H R' => ∃ δ τ, FS c δ τ σ H ∧ PostI c W σ τ (f δ) R'
theorem wk_lst {a : Addr} {ds : List D} : Wk c (Itl c.k.K a) [(some (.ref a), .fz (.lst ds))] ds := fun O δ τ σ H F => by
  have r := F.fr.ok _ (List.mem_append_left _ List.mem_cons_self)
  cases r with
  | lst n h r =>
    refine ⟨fun i d hd => ?_, ⟨_, SqL.of h, by rw [r.length]; exact Nat.le_refl _⟩⟩
    obtain ⟨u, e, ru⟩ := r.get hd
    refine ⟨⟨_, u, SqL.of h, e⟩, fun x H' ⟨e1, e2⟩ => ?_⟩
    subst e1
    have e3 := e2 _ (SqL.of h)
    rw [e] at e3; cases e3
    exact ⟨O, F.addFz ru⟩
theorem wk_ro {a : Addr} {ds : List D} : Wk c (Itl c.k.K a) [(some (.ref a), .fz (.ro ds))] ds := fun O δ τ σ H F => by
  have r := F.fr.ok _ (List.mem_append_left _ List.mem_cons_self)
  cases r with
  | ro h r =>
    refine ⟨fun i d hd => ?_, ⟨_, h.sq, by rw [r.length]; exact Nat.le_refl _⟩⟩
    obtain ⟨u, e, ru⟩ := r.get hd
    refine ⟨⟨_, u, h.sq, e⟩, fun x H' ⟨e1, e2⟩ => ?_⟩
    subst e1
    have e3 := e2 _ h.sq
    rw [e] at e3; cases e3
    exact ⟨O, F.addFz ru⟩
theorem wk_tup {a : Addr} {ds : List D} : Wk c (Itt c.k.K a) [(some (.ref a), .fz (.tup ds))] ds := fun O δ τ σ H F => by
  have r := F.fr.ok _ (List.mem_append_left _ List.mem_cons_self)
  cases r with
  | tup h r =>
    refine ⟨fun i d hd => ?_, ⟨_, h.sq, by rw [r.length]; exact Nat.le_refl _⟩⟩
    obtain ⟨u, e, ru⟩ := r.get hd
    refine ⟨⟨_, u, h.sq, e⟩, fun x H' ⟨e1, e2⟩ => ?_⟩
    subst e1
    have e3 := e2 _ h.sq
    rw [e] at e3; cases e3
    exact ⟨O, F.addFz ru⟩
theorem wk_tbl {a : Addr} {fs : List (Str × D)} : Wk c (Zk.Itw (fs.map (·.1))) [(some (.ref a), .fz (.tbl fs))] (fs.map fun p => .str p.1) := fun O δ τ σ H F => by
  refine ⟨fun i d hd => ?_, by show (fs.map (·.1)).length ≤ _; simp⟩
  rw [List.getElem?_map] at hd
  cases e : fs[i]? with
  | none => rw [e] at hd; cases hd
  | some p =>
    rw [e] at hd; cases hd
    obtain ⟨hi, _⟩ := List.getElem?_eq_some_iff.mp e
    refine ⟨by show i < (fs.map (·.1)).length; simpa using hi, fun x H' ⟨e1, z, e2, e3⟩ => ?_⟩
    rw [List.getElem?_map, e] at e2
    cases e2
    subst e1 e3
    exact ⟨O, F.addFz (.str _)⟩
theorem wk_rng {lo : Int} {n : Nat} : Wk c (Itr lo n) [] ((List.range n).map fun (i : Nat) => .int (lo + (i : Int))) := fun O δ τ σ H F => by
  refine ⟨fun i d hd => ?_, by show n ≤ _; simp⟩
  rw [List.getElem?_map] at hd
  cases e : (List.range n)[i]? with
  | none => rw [e] at hd; cases hd
  | some j =>
    rw [e] at hd; cases hd
    obtain ⟨hi, e'⟩ := List.getElem?_eq_some_iff.mp e
    simp at e' hi
    subst e'
    refine ⟨hi, fun x H' ⟨e1, e2⟩ => ?_⟩
    subst e1 e2
    exact ⟨O, F.addFz (.int _)⟩
theorem piOf {tg it : Expr} {t t' : TI} (h : PI X tg it t) (i : ∀ σ H Q, t' σ H Q → t σ H Q) : PI X tg it t' := ⟨fun pins s σ H Q I q => h.run pins s σ H Q I (i σ H Q q)⟩
/-- over a list or a tuple -/
theorem s_seq {tg : Expr} (hK : X.K = c.k.K) (hkd : ∀ a ps, c.k.kd a ps → KdF X.K X.w a ps) (ha : PE X a (rdE c W fa)) : PI X tg a (rdI c W (itF .seq (consF fa nilF))) := by
  have key : ∀ (σ : St) (H : Hp) (R' : L2.It → Hp → Prop), rdI c W (itF .seq (consF fa nilF)) σ H R' → iList X.K (rdE c W fa) σ H R' ∨ iTup X.K (rdE c W fa) σ H R' ∨ Zk.iKd X.K X.w (rdE c W fa) σ H R' := by
    rintro σ H R' ⟨δ, τ, F, P⟩
    unfold itF consF nilF at P
    unfold iList iTup
    cases e1 : fa δ with
    | no => rw [e1] at P; exact P.elim
    | ex cl fs δ' =>
      rw [e1] at P
      exact .inl (seqE F (fun cl' fs' δ'' e => by rw [e1] at e; cases e; exact P) (fun e => by rw [e1] at e; cases e) fun v δ1 e => by rw [e1] at e; cases e)
    | ok p =>
      obtain ⟨v, δ1⟩ := p
      rw [e1] at P
      simp only [R.bind, cvs] at P
      cases e2 : cv v with
      | none => rw [e2] at P; exact P.elim
      | some d =>
        rw [e2] at P
        simp only [Option.bind, Option.map, R.ofO, itD] at P
        have run : ∀ {T : V → Hp → Prop}, (∀ (x : V) (O : Addr → Prop) (H1 : Hp), FO c O δ1 ([(some x, .fz d)] ++ τ) σ H1 → T x H1) → rdE c W fa σ H T := fun {T} hT =>
          seqE F (fun cl' fs' δ'' e => by rw [e1] at e; cases e) (fun e => by rw [e1] at e; cases e) fun v' δ1' e x H1 F1 o1 => by
            rw [e1] at e; cases e
            obtain ⟨O, F1⟩ := F1
            obtain ⟨O', F2⟩ := F1.give1 e2
            exact hT x O' H1 F2
        cases d with
        | lst ds =>
          refine .inl (run fun x O H1 F1 => ?_)
          have r := F1.fr.ok _ (List.mem_append_left _ List.mem_cons_self)
          cases r with
          | lst n h r => exact ⟨_, rfl, ⟨_, SqL.of h⟩, hK ▸ P _ _ _ ⟨O, F1⟩ wk_lst⟩
        | ro ds =>
          refine .inl (run fun x O H1 F1 => ?_)
          have r := F1.fr.ok _ (List.mem_append_left _ List.mem_cons_self)
          cases r with
          | ro h r => exact ⟨_, rfl, ⟨_, hK ▸ h.sq⟩, hK ▸ P _ _ _ ⟨O, F1⟩ wk_ro⟩
        | tup ds =>
          refine .inr (.inl (run fun x O H1 F1 => ?_))
          have r := F1.fr.ok _ (List.mem_append_left _ List.mem_cons_self)
          cases r with
          | tup h r => exact ⟨_, rfl, ⟨_, hK ▸ h.sq⟩, hK ▸ P _ _ _ ⟨O, F1⟩ wk_tup⟩
        | tbl fs =>
          refine .inr (.inr (run fun x O H1 F1 => ?_))
          have r := F1.fr.ok _ (List.mem_append_left _ List.mem_cons_self)
          cases r with
          | tbl h r =>
            obtain ⟨es, n, D, kt, _⟩ := hkd _ _ h
            rw [r.keys] at kt
            exact ⟨_, es, n, _, rfl, D, kt, P _ _ _ ⟨O, F1⟩ wk_tbl⟩
        | _ => simp only [walkOf] at P; exact P.elim
  exact ⟨fun pins s σ H R' I q => (key σ H R' q).elim (fun z => (pi_list ha).run pins s σ H R' I z) fun z => z.elim (fun z => (pi_tup ha).run pins s σ H R' I z) fun z => (Zk.pi_kd ha).run pins s σ H R' I z⟩
/-- over a range -/
theorem itD1 {ds : List D} {items : List D} (h : itD .rng1 ds = some items) : ∃ j, ds = [.int j] ∧ (-(2 ^ 62) ≤ j ∧ j < 2 ^ 62) ∧ items = (List.range j.toNat).map fun (i : Nat) => .int (0 + (i : Int)) := by
  match ds, h with
  | [d], h =>
    cases d <;> simp only [itD] at h <;> try contradiction
    split at h <;> cases h
    exact ⟨_, rfl, by assumption, rfl⟩
  | [], h => cases h
  | d :: e :: r, h => cases d <;> cases h
theorem itD2 {ds : List D} {items : List D} (h : itD .rng2 ds = some items) : ∃ i j, ds = [.int i, .int j] ∧ (-(2 ^ 62) ≤ i ∧ i < 2 ^ 62 ∧ -(2 ^ 62) ≤ j ∧ j < 2 ^ 62) ∧ items = (List.range (j - i).toNat).map fun (n : Nat) => .int (i + (n : Int)) := by
  match ds, h with
  | [d, e], h =>
    cases d <;> cases e <;> simp only [itD] at h <;> try contradiction
    split at h <;> cases h
    exact ⟨_, _, rfl, by assumption, rfl⟩
  | [], h => cases h
  | [d], h => cases d <;> cases h
  | d :: e :: f :: r, h => cases d <;> cases e <;> cases h
theorem rng_core {k : It} {R' : L2.It → Hp → Prop} {T : List V → Hp → Prop} (h : rdI c W (itF k fr) σ H R') (hT : ∀ (xs : List V) (ds items : List D) (O : Addr → Prop) (δ : En) (τ : List Et) (H1 : Hp), FO c O δ τ σ H1 → RepL c.k O H1 xs ds → itD k ds = some items →
    (∀ J H en, FS c δ (en ++ τ) σ H → Wk c J en items → R' J H) → T xs H1) : rdA c W fr σ H T := by
  obtain ⟨δ, τ, F, P⟩ := h
  obtain ⟨p1, p2, p3⟩ := bindE (P := fun r => PostI c W σ τ r R') (show PostI c W σ τ ((fr δ).bind _) R' from P)
  refine seqA F (fun cl fs δ' e => p1 cl fs δ' e) (fun e => p2 e) fun vs δ1 e1 xs H1 F1 o1 => ?_
  obtain ⟨ds, ed, h⟩ := bindO (P := fun r => PostI c W σ τ r R') (p3 _ e1) (fun z => z)
  obtain ⟨items, ei, h⟩ := bindO (P := fun r => PostI c W σ τ r R') h (fun z => z)
  obtain ⟨O, F1⟩ := F1
  obtain ⟨O', F2, r⟩ := F1.giveL o1 ed
  exact hT xs ds items O' δ1 τ H1 F2 r ei h
theorem s_rng1 {tg e : Expr} {p : Pos} (hg : Gl X "range") (hm : X.mg "range" = none) (ha : PA X [e] (rdA c W fr)) (hs : starEach [e] X.env = [(false, eval e X.env)]) : PI X tg (.Call (.Name "range" p) [e] [] pos) (rdI c W (itF .rng1 fr)) := by
  refine piOf (pi_range1 hg hm ha hs) fun σ H R' h => rng_core h fun xs ds items O δ τ H1 F r ei k => ?_
  obtain ⟨j, rfl, hj, rfl⟩ := itD1 ei
  cases r with
  | cons r1 r2 =>
    cases r1
    cases r2
    exact ⟨j, rfl, hj.1, hj.2, k _ _ [] ⟨O, F⟩ wk_rng⟩
theorem s_rng2 {tg e e2 : Expr} {p : Pos} (hg : Gl X "range") (hm : X.mg "range" = none) (ha : PA X [e, e2] (rdA c W fr)) (hs : starEach [e, e2] X.env = [(false, eval e X.env), (false, eval e2 X.env)]) (hs2 : starEach [e2] X.env = [(false, eval e2 X.env)]) :
    PI X tg (.Call (.Name "range" p) [e, e2] [] pos) (rdI c W (itF .rng2 fr)) := by
  refine piOf (pi_range2 hg hm ha hs hs2) fun σ H R' h => rng_core h fun xs ds items O δ τ H1 F r ei k => ?_
  obtain ⟨i, j, rfl, hj, rfl⟩ := itD2 ei
  cases r with
  | cons r1 r2 =>
    cases r1
    cases r2 with
    | cons r3 r4 =>
      cases r3
      cases r4
      exact ⟨i, j, rfl, hj, k _ _ [] ⟨O, F⟩ wk_rng⟩

/-! ## over zip(*rows) -/
def fzl : List V → List D → List Et
  | x :: xs, d :: ds => (some x, .fz d) :: fzl xs ds
  | _, _ => []
theorem FO.addFzL : ∀ {xs : List V} {ds : List D} {τ : List Et}, FO c O δ τ σ H → RepL c.k O H xs ds → FO c O δ (fzl xs ds ++ τ) σ H
  | _, _, _, F, .nil => F
  | _, _, _, F, .cons r t => (F.addFzL t).addFz r
theorem FO.ofFzL : ∀ {xs : List V} {ds : List D} {τ : List Et}, xs.length = ds.length → FO c O δ (fzl xs ds ++ τ) σ H → RepL c.k O H xs ds
  | [], [], _, _, _ => .nil
  | x :: xs, d :: ds, τ, hl, F => .cons (F.fr.ok _ (List.mem_append_left _ (List.mem_append_left _ List.mem_cons_self))) (FO.ofFzL (by simpa using hl) (F.sub (List.sublist_cons_self _ _)))
def isTup : D → Bool
  | .tup _ => true
  | _ => false
def adrV : V → Addr
  | .ref a => a
  | _ => 0
def asOf : List V → List D → List (Addr × Bool)
  | x :: xs, d :: ds => (adrV x, isTup d) :: asOf xs ds
  | _, _ => []
theorem rows_rep {k : Kt} : ∀ {xs : List V} {ds : List D} {dss : List (List D)}, RepL k O H xs ds → rowsOf ds = some dss → xs = (asOf xs ds).map (fun p => V.ref p.1) ∧ (asOf xs ds).length = dss.length ∧ ∃ vss, Zn.All2 (Zn.SqA k.K H) (asOf xs ds) vss ∧ Zn.All2 (RepL k O H) vss dss
  | _, _, _, .nil, h => by cases h; exact ⟨rfl, rfl, [], .nil, .nil⟩
  | x :: xs, d :: ds, dss, .cons r t, h => by
    simp only [rowsOf] at h
    cases e1 : seqOf d with
    | none => rw [e1] at h; cases h
    | some ys =>
      rw [e1] at h
      cases e2 : rowsOf ds with
      | none => rw [e2] at h; cases h
      | some yss =>
        rw [e2] at h
        cases h
        obtain ⟨q1, q2, vss, q3, q4⟩ := rows_rep t e2
        cases r <;> simp only [seqOf] at e1 <;> try contradiction
        all_goals cases e1
        · rename_i a zs h' r
          exact ⟨congrArg (V.ref a :: ·) q1, congrArg (· + 1) q2, zs :: vss, .cons (show SqT k.K H a zs from h'.sq) q3, .cons r q4⟩
        · rename_i a zs n h' r
          exact ⟨congrArg (V.ref a :: ·) q1, congrArg (· + 1) q2, zs :: vss, .cons (show SqL k.K H a zs from SqL.of h') q3, .cons r q4⟩
        · rename_i a zs h' r
          exact ⟨congrArg (V.ref a :: ·) q1, congrArg (· + 1) q2, zs :: vss, .cons (show SqL k.K H a zs from h'.sq) q3, .cons r q4⟩
theorem leastL_le : ∀ {xss : List (List D)} {n : Nat}, leastL n xss ≤ n ∧ ∀ xs ∈ xss, leastL n xss ≤ xs.length
  | [], n => ⟨Nat.le_refl _, fun xs h => nomatch h⟩
  | ys :: r, n => by
    obtain ⟨a, b⟩ := leastL_le (xss := r) (n := min n ys.length)
    refine ⟨Nat.le_trans a (Nat.min_le_left _ _), fun xs h => ?_⟩
    rcases List.mem_cons.mp h with rfl | h
    · exact Nat.le_trans a (Nat.min_le_right _ _)
    · exact b xs h
theorem leastL_at : ∀ {xss : List (List D)} {n : Nat}, leastL n xss = n ∨ ∃ xs ∈ xss, xs.length = leastL n xss
  | [], n => .inl rfl
  | ys :: r, n => by
    rcases leastL_at (xss := r) (n := min n ys.length) with a | ⟨xs, h, e⟩
    · by_cases q : n ≤ ys.length
      · rw [Nat.min_eq_left q] at a
        exact .inl (by simp only [leastL]; rw [Nat.min_eq_left q]; exact a)
      · rw [Nat.min_eq_right (by omega)] at a
        exact .inr ⟨ys, List.mem_cons_self, by simp only [leastL]; rw [Nat.min_eq_right (by omega)]; exact a.symm⟩
    · exact .inr ⟨xs, List.mem_cons_of_mem _ h, e⟩
theorem row_rep {k : Kt} {i : Nat} : ∀ {vss : List (List V)} {dss : List (List D)}, Zn.All2 (RepL k O H) vss dss → (∀ ds ∈ dss, i < ds.length) → RepL k O H (vss.map fun xs => xs.getD i .non) (dss.map fun xs => xs.getD i .non)
  | _, _, .nil, _ => .nil
  | xs :: vss, ds :: dss, .cons r t, h => by
    have hi := h ds List.mem_cons_self
    obtain ⟨u, hu, ru⟩ := r.get (List.getElem?_eq_getElem hi)
    have e1 : ds.getD i .non = ds[i] := by rw [List.getD_eq_getElem?_getD, List.getElem?_eq_getElem hi]; rfl
    have e2 : xs.getD i .non = u := by rw [List.getD_eq_getElem?_getD, hu]; rfl
    refine .cons ?_ (row_rep t fun d hd => h d (List.mem_cons_of_mem _ hd))
    show Rep k O H (xs.getD i .non) (ds.getD i .non)
    rw [e1, e2]
    exact ru
theorem lens_rep {k : Kt} : ∀ {vss : List (List V)} {dss : List (List D)}, Zn.All2 (RepL k O H) vss dss → ∀ xs ∈ vss, ∃ ds ∈ dss, xs.length = ds.length := fun h xs hx => by
  obtain ⟨ds, hd, r⟩ := h.left xs hx
  exact ⟨ds, hd, r.length⟩
theorem wk_zst {xs : List V} {rs : List D} {d0 : List D} {dss : List (List D)} (hl : xs.length = rs.length) (hr : rowsOf rs = some (d0 :: dss)) :
    Wk c (Zn.Itn c.k.K (asOf xs rs)) (fzl xs rs) ((List.range (leastL d0.length (d0 :: dss))).map fun j => .tup ((d0 :: dss).map fun ys => ys.getD j .non)) := fun O δ τ σ H F => by
  have r := FO.ofFzL hl F
  obtain ⟨q1, q2, vss, q3, q4⟩ := rows_rep r hr
  refine ⟨fun i d hd => ?_, vss, q3, ?_⟩
  · rw [List.getElem?_map] at hd
    cases e : (List.range (leastL d0.length (d0 :: dss)))[i]? with
    | none => rw [e] at hd; cases hd
    | some j =>
      rw [e] at hd
      cases hd
      obtain ⟨hi, e'⟩ := List.getElem?_eq_some_iff.mp e
      simp only [List.getElem_range, List.length_range] at e' hi
      subst e'
      have hlt : ∀ ds ∈ d0 :: dss, i < ds.length := fun ds hd => Nat.lt_of_lt_of_le hi (leastL_le.2 ds hd)
      refine ⟨⟨vss, q3, fun ys hy => ?_⟩, fun x H' ⟨T, row, e1, e2, e3, e4⟩ => ?_⟩
      · obtain ⟨ds, h1, h2⟩ := lens_rep q4 ys hy
        rw [h2]; exact hlt ds h1
      · subst e1 e3
        rw [e4 vss q3]
        exact ⟨O, F.newTup e2 (row_rep q4 hlt)⟩
  · rw [List.length_map, List.length_range]
    have : ∃ ds ∈ d0 :: dss, ds.length ≤ leastL d0.length (d0 :: dss) := by
      rcases leastL_at (xss := d0 :: dss) (n := d0.length) with e | ⟨ds, h, e⟩
      · exact ⟨d0, List.mem_cons_self, Nat.le_of_eq e.symm⟩
      · exact ⟨ds, h, Nat.le_of_eq e⟩
    obtain ⟨ds, h1, h2⟩ := this
    obtain ⟨ys, h3, h4⟩ := q4.right ds h1
    exact ⟨ys, h3, by rw [h4.length]; exact h2⟩
theorem s_zst {tg e : Expr} {p sp_ : Pos} (hK : X.K = c.k.K) (hg : Gl X "zip") (hm : X.mg "zip" = none) (ha : PE X e (rdE c W fa)) : PI X tg (.Call (.Name "zip" p) [.Starred e sp_] [] pos) (rdI c W (itF .zst (consF fa nilF))) := by
  refine piOf (Zn.pi_zipS hg hm ha) fun σ H R' h => ?_
  obtain ⟨δ, τ, F, P⟩ := h
  unfold itF consF nilF at P
  unfold Zn.iZipS
  cases e1 : fa δ with
  | no => rw [e1] at P; exact P.elim
  | ex cl fs δ' =>
    rw [e1] at P
    exact seqE F (fun cl' fs' δ'' e => by rw [e1] at e; cases e; exact P) (fun e => by rw [e1] at e; cases e) fun v δ1 e => by rw [e1] at e; cases e
  | ok p =>
    obtain ⟨v, δ1⟩ := p
    rw [e1] at P
    simp only [R.bind, cvs] at P
    cases e2 : cv v with
    | none => rw [e2] at P; exact P.elim
    | some d =>
      rw [e2] at P
      simp only [Option.bind, Option.map, R.ofO, itD] at P
      cases e3 : seqOf d with
      | none => rw [e3] at P; exact P.elim
      | some rs =>
      rw [e3] at P
      cases e4 : rowsOf rs with
      | none => simp only [e4] at P; exact P.elim
      | some dss =>
      simp only [e4] at P
      by_cases h4 : dss.length ≤ 4
      case neg => rw [if_neg h4] at P; exact P.elim
      rw [if_pos h4] at P
      cases dss with
      | nil => exact P.elim
      | cons d0 dss =>
      refine seqE F (fun cl' fs' δ'' e => by rw [e1] at e; cases e) (fun e => by rw [e1] at e; cases e) fun v' δ1' e x H1 F1 o1 => ?_
      rw [e1] at e; cases e
      obtain ⟨O, F1⟩ := F1
      obtain ⟨O', F2⟩ := F1.give1 e2
      have r := F2.fr.ok _ (List.mem_append_left _ List.mem_cons_self)
      have fin : ∀ {a : Addr} {xs : List V}, (SqT X.K H1 a xs ∨ SqL X.K H1 a xs) → RepL c.k O' H1 xs rs → ∃ (a' : Addr) (as : List (Addr × Bool)) (xss : List (List V)), V.ref a = .ref a' ∧ (SqT X.K H1 a' (as.map fun p => V.ref p.1) ∨ SqL X.K H1 a' (as.map fun p => V.ref p.1)) ∧ as ≠ [] ∧ as.length ≤ Zn.most ∧ Zn.All2 (Zn.SqA X.K H1) as xss ∧ R' (Zn.Itn X.K as) H1 := fun {a xs} hs rl => by
        obtain ⟨q1, q2, vss, q3, q4⟩ := rows_rep rl e4
        refine ⟨a, asOf xs rs, vss, rfl, by rw [← q1]; exact hs, (fun z => by rw [z] at q2; cases q2), (by rw [q2]; exact h4), hK ▸ q3, ?_⟩
        rw [hK]
        exact P _ _ _ ⟨O', (F2.sub (List.sublist_cons_self _ _)).addFzL rl⟩ (wk_zst rl.length e4)
      cases r <;> simp only [seqOf] at e3 <;> try contradiction
      all_goals cases e3
      · rename_i h' r; exact fin (.inl (hK ▸ h'.sq)) r
      · rename_i n h' r; exact fin (.inr (hK ▸ SqL.of h')) r
      · rename_i h' r; exact fin (.inr (hK ▸ h'.sq)) r

/-! ## targets -/
def gNs : List Nat → TGs
  | [] => gNil
  | i :: r => gCons (gName i) (gNs r)
def gT (K : PySem.W.Frag) : Tg → TG
  | .nm i => gName i
  | .tp is => gTup K is.length (gNs is)
def tgs : Tg → List Nat
  | .nm i => [i]
  | .tp is => is
theorem wipe_set {i : Nat} {v : Option V} : ∀ {vs : List Nat} {σ : St}, i ∈ vs → wipe (σ.set i v) vs = wipe σ vs
  | [], σ, h => by cases h
  | j :: vs, σ, h => by
    show (wipe (σ.set i v) vs).set j none = (wipe σ vs).set j none
    by_cases hi : i ∈ vs
    · rw [wipe_set hi]
    · have e : i = j := by
        rcases List.mem_cons.mp h with e | e
        · exact e
        · exact absurd e hi
      subst e
      have key : ∀ (vs : List Nat) (σ : St), i ∉ vs → wipe (σ.set i v) vs = (wipe σ vs).set i v := by
        intro vs
        induction vs with
        | nil => intro σ _; rfl
        | cons k ks ih =>
          intro σ hn
          simp only [List.mem_cons, not_or] at hn
          show (wipe (σ.set i v) ks).set k none = ((wipe σ ks).set k none).set i v
          rw [ih σ hn.2, List.set_comm _ _ hn.1]
      rw [key vs σ hi, List.set_set]
theorem bindN_ok (hK : X.K = c.k.K) : ∀ {is : List Nat} {ds : List D} {xs : List V} {δ δ' : En} {σ : St} {τ : List Et} {Q : St → Hp → Prop}, FO c O δ τ σ H → RepL c.k O H xs ds → bindN c.bd is ds δ = some δ' →
    (∀ σ', FO c O δ' τ σ' H → (∀ vs, (∀ i ∈ is, i ∈ vs) → wipe σ' vs = wipe σ vs) → Q σ' H) → gNs is xs σ H Q := by
  intro is
  induction is with
  | nil =>
    intro ds xs δ δ' σ τ Q F r h q
    cases ds with
    | nil =>
      cases r
      cases h
      exact ⟨rfl, q σ F fun _ _ => rfl⟩
    | cons d ds => cases h
  | cons i is ih =>
    intro ds xs δ δ' σ τ Q F r h q
    cases ds with
    | nil => cases h
    | cons d ds =>
      cases r with
      | cons r1 r2 =>
        rename_i x xs
        simp only [bindN] at h
        split at h
        · cases h
        · rename_i hc
          simp only [not_or, Nat.not_le] at hc
          have F1 := (F.addFz r1).putS (List.Perm.refl _) (by rw [F.len]; exact hc.2) hc.1
          refine ⟨x, xs, rfl, ih F1 r2 h fun σ' F' w => q σ' F' fun vs hv => ?_⟩
          rw [w vs fun j hj => hv j (List.mem_cons_of_mem _ hj), wipe_set (hv i List.mem_cons_self)]
theorem bindT_ok (hK : X.K = c.k.K) {tg : Tg} {d : D} {x : V} {δ' : En} {Q : St → Hp → Prop} (F : FO c O δ ((some x, .fz d) :: τ) σ H) (h : bindT c.bd tg d δ = some δ')
    (q : ∀ σ', FO c O δ' τ σ' H → (∀ vs, (∀ i ∈ tgs tg, i ∈ vs) → wipe σ' vs = wipe σ vs) → Q σ' H) : gT X.K tg x σ H Q := by
  have r : Rep c.k O H x d := F.fr.ok _ (List.mem_append_left _ List.mem_cons_self)
  cases tg with
  | nm i =>
    have := bindN_ok (X := X) hK (is := [i]) (ds := [d]) (xs := [x]) (Q := Q) (F.sub sub1) (.cons r .nil) h q
    obtain ⟨v, vs, e, g⟩ := this
    cases e
    obtain ⟨_, g⟩ := g
    exact g
  | tp is =>
    cases d with
    | tup ds =>
      cases r with
      | tup t r =>
        have hl : ∀ {is : List Nat} {ds : List D} {δ δ' : En}, bindN c.bd is ds δ = some δ' → is.length = ds.length := by
          intro is
          induction is with
          | nil => intro ds δ δ' h; cases ds with | nil => rfl | cons _ _ => cases h
          | cons i is ih =>
            intro ds δ δ' h
            cases ds with
            | nil => cases h
            | cons d ds =>
              simp only [bindN] at h
              split at h
              · cases h
              · simp [ih h]
        exact ⟨_, _, rfl, hK ▸ t.sq, by rw [r.length, hl h], bindN_ok hK (F.sub sub1) r h q⟩
    | _ => simp only [bindT] at h; cases h
end
end B
namespace B
open PySem PySem.Spec L2
open PyProof.Rows hiding St
section
variable {X : Cx} {c : Cst} {W : WX} {fa fb fc : En → R (Vl × En)} {fr : En → R (List Vl × En)} {a b cc e : Expr} {es : List Expr} {pos : Pos} {lv : Nat}
variable {O : Addr → Prop} {δ : En} {τ : List Et} {σ : St} {H : Hp}

/-! ## a block's own slots -/
theorem FO.entry (F : FO c O δ τ σ H) {i : Nat} (hi : i < δ.length) : ∃ ov s, σ[i]? = some ov ∧ δ[i]? = some s := by
  have h2 : i < σ.length := by rw [F.len]; exact hi
  exact ⟨_, _, List.getElem?_eq_getElem h2, List.getElem?_eq_getElem hi⟩
/-- a slot is forgotten -/
theorem FO.drop1 (F : FO c O δ τ σ H) {i : Nat} (hb : i ∉ c.bd) : FO c O (δ.set i .un) τ (σ.set i none) H := by
  by_cases hi : i < δ.length
  · exact (F.addUn (v := none)).putS (List.Perm.refl _) (by rw [F.len]; exact hi) hb
  · rw [List.set_eq_of_length_le (Nat.le_of_not_lt hi), List.set_eq_of_length_le (by rw [F.len]; exact Nat.le_of_not_lt hi)]
    exact F
theorem FO.dropL (F : FO c O δ τ σ H) : ∀ {own : List Nat}, (∀ i ∈ own, i ∉ c.bd) → FO c O (wipeS δ own) τ (wipe σ own) H
  | [], _ => F
  | i :: is, h => (F.dropL fun j hj => h j (List.mem_cons_of_mem _ hj)).drop1 (h i List.mem_cons_self)
/-- what the own slots held, kept aside -/
def saved (δ : En) (σ : St) : List Nat → List Et
  | [] => []
  | i :: is => ((wipe σ is).getD i none, gS (wipeS δ is) i) :: saved δ σ is
theorem FO.keep1 (F : FO c O δ τ σ H) {i : Nat} (hb : i ∉ c.bd) : FO c O (δ.set i .un) ((σ.getD i none, gS δ i) :: τ) (σ.set i none) H := by
  by_cases hi : i < δ.length
  · obtain ⟨ov, s, e1, e2⟩ := F.entry hi
    have g1 : σ.getD i none = ov := by rw [List.getD_eq_getElem?_getD, e1]; rfl
    rw [g1, get_gS e2]
    obtain ⟨l1, l2, q1, q2, q3, q4⟩ := zip_split e1 e2
    refine ⟨?_, by simp [F.len], fun p hp => ?_⟩
    · have F1 := F.fr
      rw [q1] at F1
      rw [q3]
      have p1 : ((ov, s) :: (τ ++ (l1 ++ l2))).Perm (τ ++ (l1 ++ (ov, s) :: l2)) := (mid_perm τ l1 l2 _).symm
      have F2 : FR c O ((ov, s) :: (τ ++ (l1 ++ l2))) H := F1.perm p1.symm
      have F3 := F2.addUn (v := none)
      refine F3.perm ?_
      show ((none, Sl.un) :: (ov, s) :: (τ ++ (l1 ++ l2))).Perm (((ov, s) :: τ) ++ (l1 ++ (none, Sl.un) :: l2))
      exact (mid_perm ((ov, s) :: τ) l1 l2 _).symm
    · have ne : p.1 ≠ i := fun z => hb (z ▸ List.mem_map.mpr ⟨p, hp, rfl⟩)
      rw [gS_set_ne ne, List.getElem?_set_ne (Ne.symm ne)]
      exact F.bs p hp
  · have hi' := Nat.le_of_not_lt hi
    have g1 : σ.getD i none = none := by rw [List.getD_eq_getElem?_getD, List.getElem?_eq_none (by rw [F.len]; exact hi')]; rfl
    have g2 : gS δ i = .un := by unfold gS; rw [List.getD_eq_getElem?_getD, List.getElem?_eq_none hi']; rfl
    rw [g1, g2, List.set_eq_of_length_le hi', List.set_eq_of_length_le (by rw [F.len]; exact hi')]
    exact F.addUn
theorem FO.keepL (F : FO c O δ τ σ H) : ∀ {own : List Nat}, (∀ i ∈ own, i ∉ c.bd) → FO c O (wipeS δ own) (saved δ σ own ++ τ) (wipe σ own) H
  | [], _ => F
  | i :: is, h => (F.keepL fun j hj => h j (List.mem_cons_of_mem _ hj)).keep1 (h i List.mem_cons_self)
theorem FO.back (δ0 : En) (σ : St) : ∀ {own : List Nat} {δ : En} {τ : List Et} {O : Addr → Prop} {H : Hp}, FO c O δ (saved δ0 σ own ++ τ) (wipe σ own) H → (∀ i ∈ own, i ∉ c.bd) → FO c O (backS δ0 own δ) τ σ H
  | [], δ, τ, O, H, F, _ => F
  | i :: is, δ, τ, O, H, F, h => by
    show FO c O (backS δ0 is (δ.set i (gS (wipeS δ0 is) i))) τ σ H
    refine FO.back δ0 σ ?_ fun j hj => h j (List.mem_cons_of_mem _ hj)
    have F0 : FO c O δ (((wipe σ is).getD i none, gS (wipeS δ0 is) i) :: (saved δ0 σ is ++ τ)) ((wipe σ is).set i none) H := F
    by_cases hi : i < δ.length
    · have hσ : i < ((wipe σ is).set i none).length := by rw [F0.len]; exact hi
      have F1 := F0.putS (List.Perm.refl _) hσ (h i List.mem_cons_self)
      rw [List.set_set] at F1
      have hw : i < (wipe σ is).length := by simpa using hσ
      have e : (wipe σ is).set i ((wipe σ is).getD i none) = wipe σ is := by
        rw [List.getD_eq_getElem?_getD, List.getElem?_eq_getElem hw]
        simp
      rw [e] at F1
      exact F1
    · have hi' := Nat.le_of_not_lt hi
      have hσ : ((wipe σ is).set i none).length ≤ i := by rw [F0.len]; exact hi'
      have hw : (wipe σ is).length ≤ i := by simpa using hσ
      rw [List.set_eq_of_length_le hi']
      have F1 := F0.sub sub1
      rw [List.set_eq_of_length_le hw] at F1
      exact F1

theorem wipe_wipe {σ : St} : ∀ {own : List Nat}, wipe (wipe σ own) own = wipe σ own
  | [] => rfl
  | i :: is => by
    show wipe ((wipe σ is).set i none) (i :: is) = (wipe σ is).set i none
    rw [wipe_set List.mem_cons_self]
    show (wipe (wipe σ is) is).set i none = _
    rw [wipe_wipe]
/-! ## [elt for target in iter if test] -/
def lcF (bd own : List Nat) (tg : Tg) (fi : En → R (List D × En)) (ft : En → R (Bool × En)) (fe : En → R (Vl × En)) : En → R (Vl × En) := fun δ => (fi δ).bind fun (items, δ1) =>
      if own.all (fun i => plainS (gS δ1 i)) && own.all (fun i => !bd.contains i) then
        (lcLoop own (bindT bd tg) ft fe items [] (wipeS δ1 own)).calm.bind fun (zs, δ2) => .ok (.fr zs, backS δ1 own δ2)
      else .no
theorem calm_ok {α : Type} {r : R α} {P : R α → Prop} (h : P r.calm) (hn : ¬ P .no) : ∃ a, r = .ok a ∧ P (.ok a) := by
  cases r with
  | ok a => exact ⟨a, rfl, h⟩
  | ex _ _ _ => exact absurd h hn
  | no => exact absurd h hn
theorem s_lcR {own : List Nat} {tg : Tg} {fi : En → R (List D × En)} {ft : En → R (Bool × En)} {fe : En → R (Vl × En)} (hK : X.K = c.k.K) (htg : ∀ i ∈ tgs tg, i ∈ own) :
    ∀ σ H Q, rdE c W (lcF c.bd own tg fi ft fe) σ H Q → tLc (rdI c W fi) (gT X.K tg) (rdT c (fun _ _ _ _ => False) ft) (rdE c (fun _ _ _ _ => False) fe) own σ H Q := by
  rintro σ H Q ⟨δ, τ, F, P⟩
  obtain ⟨p1, p2, p3⟩ := bindE (P := fun r => Post c W σ τ r Q) (show Post c W σ τ ((fi δ).bind _) Q from P)
  refine ⟨δ, τ, F, ?_⟩
  cases e1 : fi δ with
  | no => exact p2 e1
  | ex cl fs δ' => exact p1 _ _ _ e1
  | ok p =>
    obtain ⟨items, δ1⟩ := p
    have h := p3 _ e1
    clear p1 p2 p3 P
    simp only at h
    split at h
    case isFalse => exact h.elim
    case isTrue hown =>
    rw [Bool.and_eq_true, List.all_eq_true, List.all_eq_true] at hown
    have hb : ∀ i ∈ own, i ∉ c.bd := fun i hi => by simpa using hown.2 i hi
    obtain ⟨p, er, h⟩ : ∃ p, lcLoop own (bindT c.bd tg) ft fe items [] (wipeS δ1 own) = .ok p ∧ Post c W σ τ (.ok (.fr p.1, backS δ1 own p.2)) Q := by
      cases er : lcLoop own (bindT c.bd tg) ft fe items [] (wipeS δ1 own) with
      | ok p => rw [er] at h; exact ⟨p, rfl, h⟩
      | ex _ _ _ => rw [er] at h; exact h.elim
      | no => rw [er] at h; exact h.elim
    obtain ⟨zs, δ2⟩ := p
    intro J H1 en F1 wk D hD
    obtain ⟨O1, F1⟩ := F1
    refine ⟨fun i m H => m = items.length - i ∧ i ≤ items.length ∧ ∃ O acc δ, FO c O δ (en ++ ((some (.ref D), .ow acc) :: (saved δ1 σ own ++ τ))) (wipe σ own) H ∧ lcLoop own (bindT c.bd tg) ft fe (items.drop i) acc δ = .ok (zs, δ2), ?_, ?_⟩
    · have F2 := F1.keepL hb
      have F3 := F2.newLst hD (xs := []) (ds := []) .nil
      refine ⟨_, rfl, Nat.zero_le _, _, [], wipeS δ1 own, F3.perm ?_, er⟩
      refine List.Perm.trans (List.Perm.cons _ ?_) List.perm_middle.symm
      rw [← List.append_assoc, ← List.append_assoc]
      exact List.perm_append_comm.append_right _
    · rintro i m H2 ⟨rfl, hi, O, acc, δ, F2, el⟩
      obtain ⟨w1, w2⟩ := wk O δ _ _ _ F2
      by_cases hlt : i < items.length
      · refine .inr ?_
        have ei : items[i]? = some items[i] := List.getElem?_eq_getElem hlt
        obtain ⟨go, yl⟩ := w1 i _ ei
        refine ⟨go, fun H => ∃ O acc δ, FO c O δ (en ++ ((some (.ref D), .ow acc) :: (saved δ1 σ own ++ τ))) (wipe σ own) H ∧ lcLoop own (bindT c.bd tg) ft fe (items.drop (i + 1)) acc δ = .ok (zs, δ2),
          fun H' nx => ⟨_, (by omega : items.length - (i + 1) < _), rfl, hlt, nx⟩, fun x H3 y => ?_⟩
        obtain ⟨O3, F3⟩ := yl x H3 y
        rw [List.drop_eq_getElem_cons hlt] at el
        simp only [lcLoop] at el
        cases eb : bindT c.bd tg items[i] δ with
        | none => rw [eb] at el; cases el
        | some δ3 =>
        rw [eb] at el
        simp only [R.ofO, R.bind] at el
        refine bindT_ok hK F3 eb fun σ3 F4 wz0 => ?_
        have wz : wipe σ3 own = wipe σ own := (wz0 own htg).trans wipe_wipe
        refine ⟨wz, ?_⟩
        refine ⟨δ3, _, ⟨O3, F4⟩, ?_⟩
        cases et : ft δ3 with
        | no => rw [et] at el; cases el
        | ex _ _ _ => rw [et] at el; cases el
        | ok pt =>
        obtain ⟨b, δ4⟩ := pt
        rw [et] at el
        simp only at el
        intro H4 F5
        cases b with
        | false =>
          simp only [Bool.false_eq_true, if_false] at el ⊢
          obtain ⟨O5, F5⟩ := F5
          refine ⟨O5, acc, _, ?_, el⟩
          have F6 := F5.dropL hb
          rw [wz] at F6
          exact F6
        | true =>
          simp only [if_true] at el ⊢
          refine ⟨δ4, _, F5, ?_⟩
          cases ee : fe δ4 with
          | no => rw [ee] at el; cases el
          | ex _ _ _ => rw [ee] at el; cases el
          | ok pe =>
          obtain ⟨v, δ5⟩ := pe
          rw [ee] at el
          simp only at el
          intro y H5 F6 oy
          obtain ⟨O6, F6⟩ := F6
          cases ec : cv v with
          | none => rw [ec] at el; cases el
          | some d =>
          rw [ec] at el
          simp only at el
          split at el
          case isFalse => cases el
          case isTrue hz =>
          obtain ⟨O7, F7⟩ := F6.give1 ec
          have F8 : FO c O7 δ5 ((some (.ref D), .ow acc) :: ((some y, .fz d) :: (en ++ (saved δ1 σ own ++ τ)))) σ3 H5 := F7.perm (by
            refine List.Perm.trans (List.Perm.cons _ List.perm_middle) ?_
            exact List.Perm.swap _ _ _)
          obtain ⟨hO, xs, hx, rx⟩ := F8.fr.ok _ (List.mem_append_left _ List.mem_cons_self)
          have ry : Rep c.k O7 H5 y d := F8.fr.ok _ (List.mem_append_left _ (List.mem_cons_of_mem _ List.mem_cons_self))
          refine ⟨xs, hx, by rw [rx.length]; exact hz, O7, acc ++ [d], _, ?_, el⟩
          have F9 : FO c O7 δ5 ((some (.ref D), .ow (acc ++ [d])) :: ((some y, .fz d) :: (en ++ (saved δ1 σ own ++ τ)))) σ3 (upd H5 D (.lst (xs ++ [y]))) := ⟨F8.fr.write rfl (rx.append (.cons ry .nil)), F8.len, F8.bs⟩
          have F10 := (F9.sub (List.Sublist.cons_cons _ (List.sublist_cons_self _ _))).perm List.perm_middle.symm
          have F11 := F10.dropL hb
          rw [wz] at F11
          exact F11
      · have e : i = items.length := by omega
        subst e
        refine .inl ⟨w2, ?_⟩
        rw [List.drop_length] at el
        simp only [lcLoop] at el
        cases el
        refine h (.ref D) H2 ⟨O, ?_⟩ True.intro
        have F5 : FO c O δ2 (saved δ1 σ own ++ ((some (.ref D), .ow zs) :: (en ++ τ))) (wipe σ own) H2 := F2.perm (by
          refine List.Perm.trans (List.perm_middle) ?_
          refine List.Perm.trans ?_ List.perm_middle.symm
          refine List.Perm.cons _ ?_
          rw [← List.append_assoc, ← List.append_assoc]
          exact List.perm_append_comm.append_right _)
        have F6 := FO.back δ1 σ F5 hb
        exact F6.sub (List.Sublist.cons_cons _ (List.sublist_append_right _ _))
end
end B
namespace B
open PySem PySem.Spec L2
open PyProof.Rows hiding St
section
variable {X : Cx} {c : Cst} {W : WX}
theorem wipe_some_out {σ : St} {i : Nat} : ∀ {vs : List Nat}, i ∉ vs → (wipe σ vs)[i]? = σ[i]?
  | [], _ => rfl
  | j :: vs, h => by
    show ((wipe σ vs).set j none)[i]? = _
    rw [List.getElem?_set_ne (fun e => h (by rw [e]; exact List.mem_cons_self))]
    exact wipe_some_out fun e => h (List.mem_cons_of_mem _ e)
/-- what is wiped within goes with the whole -/
theorem wipe_within {σ : St} {own : List Nat} : ∀ {vs : List Nat}, (∀ i ∈ vs, i ∈ own) → wipe (wipe σ vs) own = wipe σ own
  | [], _ => rfl
  | i :: is, h => by
    show wipe ((wipe σ is).set i none) own = _
    rw [wipe_set (h i List.mem_cons_self)]
    exact wipe_within fun j hj => h j (List.mem_cons_of_mem _ hj)
/-! ## [elt for target in iter if test for target1 in iter1 if test1] -/
def lc2F (bd own vs : List Nat) (tg tg1 : Tg) (fi : En → R (List D × En)) (ft : En → R (Bool × En)) (fi1 : En → R (List D × En)) (ft1 : En → R (Bool × En)) (fe : En → R (Vl × En)) : En → R (Vl × En) := fun δ => (fi δ).bind fun (items, δ1) =>
      if own.all (fun i => plainS (gS δ1 i)) && own.all (fun i => !bd.contains i) then
        (lcLoop2 own vs (bindT bd tg) ft fi1 (bindT bd tg1) ft1 fe items [] (wipeS δ1 own)).calm.bind fun (zs, δ2) => .ok (.fr zs, backS δ1 own δ2)
      else .no
theorem s_lc2R {own vs : List Nat} {tg tg1 : Tg} {fi fi1 : En → R (List D × En)} {ft ft1 : En → R (Bool × En)} {fe : En → R (Vl × En)} (hK : X.K = c.k.K) (htg : ∀ i ∈ tgs tg, i ∈ own) (htg1 : ∀ i ∈ tgs tg1, i ∈ vs) (hvs : ∀ i ∈ vs, i ∈ own) :
    ∀ σ H Q, rdE c W (lc2F c.bd own vs tg tg1 fi ft fi1 ft1 fe) σ H Q → tLc2 (rdI c W fi) (gT X.K tg) (rdT c (fun _ _ _ _ => False) ft) (rdI c (fun _ _ _ _ => False) fi1) (gT X.K tg1) (rdT c (fun _ _ _ _ => False) ft1) (rdE c (fun _ _ _ _ => False) fe) own vs σ H Q := by
  rintro σ H Q ⟨δ, τ, F, P⟩
  obtain ⟨p1, p2, p3⟩ := bindE (P := fun r => Post c W σ τ r Q) (show Post c W σ τ ((fi δ).bind _) Q from P)
  refine ⟨δ, τ, F, ?_⟩
  cases e1 : fi δ with
  | no => exact p2 e1
  | ex cl fs δ' => exact p1 _ _ _ e1
  | ok p =>
    obtain ⟨items, δ1⟩ := p
    have h := p3 _ e1
    clear p1 p2 p3 P
    simp only at h
    split at h
    case isFalse => exact h.elim
    case isTrue hown =>
    rw [Bool.and_eq_true, List.all_eq_true, List.all_eq_true] at hown
    have hb : ∀ i ∈ own, i ∉ c.bd := fun i hi => by simpa using hown.2 i hi
    have hb1 : ∀ i ∈ vs, i ∉ c.bd := fun i hi => hb i (hvs i hi)
    obtain ⟨p, er, h⟩ : ∃ p, lcLoop2 own vs (bindT c.bd tg) ft fi1 (bindT c.bd tg1) ft1 fe items [] (wipeS δ1 own) = .ok p ∧ Post c W σ τ (.ok (.fr p.1, backS δ1 own p.2)) Q := by
      cases er : lcLoop2 own vs (bindT c.bd tg) ft fi1 (bindT c.bd tg1) ft1 fe items [] (wipeS δ1 own) with
      | ok p => rw [er] at h; exact ⟨p, rfl, h⟩
      | ex _ _ _ => rw [er] at h; exact h.elim
      | no => rw [er] at h; exact h.elim
    obtain ⟨zs, δ2⟩ := p
    intro J H1 en F1 wk D hD
    obtain ⟨O1, F1⟩ := F1
    refine ⟨fun i m H => m = items.length - i ∧ i ≤ items.length ∧ ∃ O acc δ, FO c O δ (en ++ ((some (.ref D), .ow acc) :: (saved δ1 σ own ++ τ))) (wipe σ own) H ∧ lcLoop2 own vs (bindT c.bd tg) ft fi1 (bindT c.bd tg1) ft1 fe (items.drop i) acc δ = .ok (zs, δ2), ?_, ?_⟩
    · have F2 := F1.keepL hb
      have F3 := F2.newLst hD (xs := []) (ds := []) .nil
      refine ⟨_, rfl, Nat.zero_le _, _, [], wipeS δ1 own, F3.perm ?_, er⟩
      refine List.Perm.trans (List.Perm.cons _ ?_) List.perm_middle.symm
      rw [← List.append_assoc, ← List.append_assoc]
      exact List.perm_append_comm.append_right _
    · rintro i m H2 ⟨rfl, hi, O, acc, δ, F2, el⟩
      obtain ⟨w1, w2⟩ := wk O δ _ _ _ F2
      by_cases hlt : i < items.length
      · refine .inr ?_
        have ei : items[i]? = some items[i] := List.getElem?_eq_getElem hlt
        obtain ⟨go, yl⟩ := w1 i _ ei
        refine ⟨go, fun H => ∃ O acc δ, FO c O δ (en ++ ((some (.ref D), .ow acc) :: (saved δ1 σ own ++ τ))) (wipe σ own) H ∧ lcLoop2 own vs (bindT c.bd tg) ft fi1 (bindT c.bd tg1) ft1 fe (items.drop (i + 1)) acc δ = .ok (zs, δ2),
          fun H' nx => ⟨_, (by omega : items.length - (i + 1) < _), rfl, hlt, nx⟩, fun x H3 y => ?_⟩
        obtain ⟨O3, F3⟩ := yl x H3 y
        rw [List.drop_eq_getElem_cons hlt] at el
        simp only [lcLoop2] at el
        cases eb : bindT c.bd tg items[i] δ with
        | none => rw [eb] at el; cases el
        | some δ3 =>
        rw [eb] at el
        simp only [R.ofO, R.bind] at el
        refine bindT_ok hK F3 eb fun σ3 F4 wz0 => ?_
        have wz : wipe σ3 own = wipe σ own := (wz0 own htg).trans wipe_wipe
        refine ⟨wz, ?_⟩
        refine ⟨δ3, _, ⟨O3, F4⟩, ?_⟩
        cases et : ft δ3 with
        | no => rw [et] at el; cases el
        | ex _ _ _ => rw [et] at el; cases el
        | ok pt =>
        obtain ⟨b, δ4⟩ := pt
        rw [et] at el
        simp only at el
        intro H4 F5
        cases b with
        | false =>
          simp only [Bool.false_eq_true, if_false] at el ⊢
          obtain ⟨O5, F5⟩ := F5
          refine ⟨O5, acc, _, ?_, el⟩
          have F6 := F5.dropL hb
          rw [wz] at F6
          exact F6
        | true =>
          simp only [if_true] at el ⊢
          refine ⟨δ4, _, F5, ?_⟩
          cases ei1 : fi1 δ4 with
          | no => rw [ei1] at el; cases el
          | ex _ _ _ => rw [ei1] at el; cases el
          | ok pi =>
          obtain ⟨items1, δ5⟩ := pi
          rw [ei1] at el
          simp only at el
          cases ell : lcLoop vs (bindT c.bd tg1) ft1 fe items1 acc (wipeS δ5 vs) with
          | no => rw [ell] at el; cases el
          | ex _ _ _ => rw [ell] at el; cases el
          | ok pl =>
          obtain ⟨acc', δ6⟩ := pl
          rw [ell] at el
          simp only at el
          intro J1 H5 en1 F6 wk1
          obtain ⟨O6, F6⟩ := F6
          refine ⟨fun j k H => k = items1.length - j ∧ j ≤ items1.length ∧ ∃ O acc δ, FO c O δ (en1 ++ (en ++ ((some (.ref D), .ow acc) :: (saved δ1 σ own ++ τ)))) (wipe σ3 vs) H ∧ lcLoop vs (bindT c.bd tg1) ft1 fe (items1.drop j) acc δ = .ok (acc', δ6), ?_, ?_⟩
          · exact ⟨_, rfl, Nat.zero_le _, _, acc, wipeS δ5 vs, F6.dropL hb1, ell⟩
          · rintro j k H6 ⟨rfl, hj, O7, accj, δj, F7, elj⟩
            obtain ⟨v1, v2⟩ := wk1 O7 δj _ _ _ F7
            by_cases hlt1 : j < items1.length
            · refine .inr ?_
              have ej : items1[j]? = some items1[j] := List.getElem?_eq_getElem hlt1
              obtain ⟨go1, yl1⟩ := v1 j _ ej
              refine ⟨go1, fun H => ∃ O acc δ, FO c O δ (en1 ++ (en ++ ((some (.ref D), .ow acc) :: (saved δ1 σ own ++ τ)))) (wipe σ3 vs) H ∧ lcLoop vs (bindT c.bd tg1) ft1 fe (items1.drop (j + 1)) acc δ = .ok (acc', δ6),
                fun H' nx => ⟨_, (by omega : items1.length - (j + 1) < _), rfl, hlt1, nx⟩, fun x1 H7 y1 => ?_⟩
              obtain ⟨O8, F8⟩ := yl1 x1 H7 y1
              rw [List.drop_eq_getElem_cons hlt1] at elj
              simp only [lcLoop] at elj
              cases eb1 : bindT c.bd tg1 items1[j] δj with
              | none => rw [eb1] at elj; cases elj
              | some δ7 =>
              rw [eb1] at elj
              simp only [R.ofO, R.bind] at elj
              refine bindT_ok hK F8 eb1 fun σ4 F9 wz2 => ?_
              have wz1 : wipe σ4 vs = wipe σ3 vs := (wz2 vs htg1).trans wipe_wipe
              refine ⟨wz1, ?_⟩
              refine ⟨δ7, _, ⟨O8, F9⟩, ?_⟩
              cases et1 : ft1 δ7 with
              | no => rw [et1] at elj; cases elj
              | ex _ _ _ => rw [et1] at elj; cases elj
              | ok pt1 =>
              obtain ⟨b1, δ8⟩ := pt1
              rw [et1] at elj
              simp only at elj
              intro H8 F10
              cases b1 with
              | false =>
                simp only [Bool.false_eq_true, if_false] at elj ⊢
                obtain ⟨O10, F10⟩ := F10
                refine ⟨O10, accj, _, ?_, elj⟩
                have F11 := F10.dropL hb1
                rw [wz1] at F11
                exact F11
              | true =>
                simp only [if_true] at elj ⊢
                refine ⟨δ8, _, F10, ?_⟩
                cases ee : fe δ8 with
                | no => rw [ee] at elj; cases elj
                | ex _ _ _ => rw [ee] at elj; cases elj
                | ok pe =>
                obtain ⟨v, δ9⟩ := pe
                rw [ee] at elj
                simp only at elj
                intro y H9 F11 oy
                obtain ⟨O11, F11⟩ := F11
                cases ec : cv v with
                | none => rw [ec] at elj; cases elj
                | some d =>
                rw [ec] at elj
                simp only at elj
                split at elj
                case isFalse => cases elj
                case isTrue hz =>
                obtain ⟨O12, F12⟩ := F11.give1 ec
                have pm : ((some y, Sl.fz d) :: (en1 ++ (en ++ ((some (.ref D), .ow accj) :: (saved δ1 σ own ++ τ))))).Perm ((some (.ref D), .ow accj) :: ((some y, .fz d) :: (en1 ++ (en ++ (saved δ1 σ own ++ τ))))) := by
                  refine List.Perm.trans (List.Perm.cons _ (List.Perm.append_left _ List.perm_middle)) ?_
                  refine List.Perm.trans (List.Perm.cons _ List.perm_middle) ?_
                  exact List.Perm.swap _ _ _
                have F13 := F12.perm pm
                obtain ⟨hO, xs, hx, rx⟩ := F13.fr.ok _ (List.mem_append_left _ List.mem_cons_self)
                have ry : Rep c.k O12 H9 y d := F13.fr.ok _ (List.mem_append_left _ (List.mem_cons_of_mem _ List.mem_cons_self))
                refine ⟨xs, hx, by rw [rx.length]; exact hz, O12, accj ++ [d], _, ?_, elj⟩
                have F14 : FO c O12 δ9 ((some (.ref D), .ow (accj ++ [d])) :: ((some y, .fz d) :: (en1 ++ (en ++ (saved δ1 σ own ++ τ))))) σ4 (upd H9 D (.lst (xs ++ [y]))) := ⟨F13.fr.write rfl (rx.append (.cons ry .nil)), F13.len, F13.bs⟩
                have F15 := F14.sub (List.Sublist.cons_cons _ (List.sublist_cons_self _ _))
                have pm2 : ((some (V.ref D), Sl.ow (accj ++ [d])) :: (en1 ++ (en ++ (saved δ1 σ own ++ τ)))).Perm (en1 ++ (en ++ ((some (.ref D), .ow (accj ++ [d])) :: (saved δ1 σ own ++ τ)))) := by
                  refine List.Perm.trans List.perm_middle.symm ?_
                  exact List.Perm.append_left _ List.perm_middle.symm
                have F16 := (F15.perm pm2).dropL hb1
                rw [wz1] at F16
                exact F16
            · have e : j = items1.length := by omega
              subst e
              refine .inl ⟨v2, ?_⟩
              rw [List.drop_length] at elj
              simp only [lcLoop] at elj
              cases elj
              refine ⟨O7, _, _, ?_, el⟩
              have F8 := (F7.sub (List.sublist_append_right en1 _)).dropL hb
              rw [wipe_within hvs, wz] at F8
              exact F8
      · have e : i = items.length := by omega
        subst e
        refine .inl ⟨w2, ?_⟩
        rw [List.drop_length] at el
        simp only [lcLoop2] at el
        cases el
        refine h (.ref D) H2 ⟨O, ?_⟩ True.intro
        have F5 : FO c O δ2 (saved δ1 σ own ++ ((some (.ref D), .ow zs) :: (en ++ τ))) (wipe σ own) H2 := F2.perm (by
          refine List.Perm.trans (List.perm_middle) ?_
          refine List.Perm.trans ?_ List.perm_middle.symm
          refine List.Perm.cons _ ?_
          rw [← List.append_assoc, ← List.append_assoc]
          exact List.perm_append_comm.append_right _)
        have F6 := FO.back δ1 σ F5 hb
        exact F6.sub (List.Sublist.cons_cons _ (List.sublist_append_right _ _))
end
end B
namespace B
open PySem PySem.Spec L2
open PyProof.Rows hiding St

/-! ## slots lent to a callee -/
def eAt (σ : St) (δ : En) (i : Nat) : Et := (σ.getD i none, gS δ i)
theorem zip_range (σ : St) (δ : En) (h : σ.length = δ.length) : σ.zip δ = (List.range δ.length).map (eAt σ δ) := by
  apply List.ext_getElem
  · simp [h]
  · intro i h1 h2
    simp only [List.length_map, List.length_range] at h2
    have h3 : i < σ.length := by rw [h]; exact h2
    simp [eAt, gS, List.getD_eq_getElem?_getD, h2, h3]
theorem pull (n : Nat) (is : List Nat) (nd : is.Nodup) (hi : ∀ i ∈ is, i < n) : (List.range n).Perm (is ++ (List.range n).filter fun i => !(decide (i ∈ is))) := by
  have h1 := List.filter_append_perm (fun i => decide (i ∈ is)) (List.range n)
  have h2 : ((List.range n).filter fun i => decide (i ∈ is)).Perm is := by
    rw [List.perm_ext_iff_of_nodup (List.nodup_range.filter _) nd]
    intro a
    simp only [List.mem_filter, List.mem_range, decide_eq_true_eq]
    exact ⟨fun h => h.2, fun h => ⟨hi a h, h⟩⟩
  exact h1.symm.trans (h2.append_right _)
def setL : En → List Nat → List Sl → En
  | δ, [], _ => δ
  | δ, _ :: _, [] => δ
  | δ, i :: is, s :: ss => setL (δ.set i s) is ss
theorem setL_length : ∀ {is : List Nat} {ss : List Sl} {δ : En}, (setL δ is ss).length = δ.length
  | [], _, _ => by simp only [setL]
  | _ :: _, [], _ => by simp only [setL]
  | i :: is, s :: ss, δ => by
    show (setL (δ.set i s) is ss).length = _
    rw [setL_length, List.length_set]
theorem gS_setL_ne {j : Nat} : ∀ {is : List Nat} {ss : List Sl} {δ : En}, j ∉ is → gS (setL δ is ss) j = gS δ j
  | [], _, _, _ => by simp only [setL]
  | _ :: _, [], _, _ => by simp only [setL]
  | i :: is, s :: ss, δ, h => by
    simp only [List.mem_cons, not_or] at h
    show gS (setL (δ.set i s) is ss) j = _
    rw [gS_setL_ne h.2, gS_set_ne h.1]
theorem map_setL {σ : St} : ∀ {is : List Nat} {ss : List Sl} {δ : En}, is.Nodup → (∀ i ∈ is, i < δ.length) → ss.length = is.length → is.map (eAt σ (setL δ is ss)) = (is.map fun i => σ.getD i none).zip ss
  | [], [], _, _, _, _ => rfl
  | i :: is, s :: ss, δ, nd, hi, hl => by
    simp only [List.nodup_cons] at nd
    have e : gS (setL (δ.set i s) is ss) i = s := by
      rw [gS_setL_ne nd.1]
      have hi' := hi i List.mem_cons_self
      exact gS_set_same (List.getElem?_eq_getElem hi')
    show eAt σ (setL (δ.set i s) is ss) i :: is.map (eAt σ (setL (δ.set i s) is ss)) = _
    rw [map_setL nd.2 (fun j hj => by rw [List.length_set]; exact hi j (List.mem_cons_of_mem _ hj)) (by simpa using hl)]
    simp only [eAt, e, List.map_cons, List.zip_cons_cons]
theorem zip_pull {σ : St} {δ : En} (h : σ.length = δ.length) {is : List Nat} (nd : is.Nodup) (hi : ∀ i ∈ is, i < δ.length) : ∃ rest : List Et, (σ.zip δ).Perm (is.map (eAt σ δ) ++ rest) ∧
    ∀ ss, ss.length = is.length → (σ.zip (setL δ is ss)).Perm ((is.map fun i => σ.getD i none).zip ss ++ rest) := by
  refine ⟨((List.range δ.length).filter fun i => !(decide (i ∈ is))).map (eAt σ δ), ?_, fun ss hs => ?_⟩
  · rw [zip_range σ δ h, ← List.map_append]
    exact (pull _ is nd hi).map _
  · rw [zip_range σ _ (by rw [setL_length]; exact h), setL_length]
    have e : ((List.range δ.length).filter fun i => !(decide (i ∈ is))).map (eAt σ δ) = ((List.range δ.length).filter fun i => !(decide (i ∈ is))).map (eAt σ (setL δ is ss)) := by
      apply List.map_congr_left
      intro j hj
      have hj' : j ∉ is := by simpa using (List.mem_filter.mp hj).2
      unfold eAt
      rw [gS_setL_ne hj']
    rw [e, ← map_setL nd hi hs, ← List.map_append]
    exact (pull _ is nd hi).map _
/-- what comes back for the lent ones -/
def alS : List Vl → List Sl → List Sl
  | .al _ :: r, s :: ss => s :: alS r ss
  | _ :: r, _ :: ss => alS r ss
  | _, _ => []
theorem giveBack_eq : ∀ {vs : List Vl} {ss : List Sl} {δ : En}, ss.length = vs.length → giveBack δ vs ss = setL δ (als vs) (alS vs ss)
  | [], [], _, _ => rfl
  | .al i :: r, s :: ss, δ, h => by
    show giveBack (δ.set i s) r ss = setL (δ.set i s) (als r) (alS r ss)
    exact giveBack_eq (by simpa using h)
  | .pl d :: r, s :: ss, δ, h => by
    show giveBack δ r ss = setL δ (als r) (alS r ss)
    exact giveBack_eq (by simpa using h)
  | .fr d :: r, s :: ss, δ, h => by
    show giveBack δ r ss = setL δ (als r) (alS r ss)
    exact giveBack_eq (by simpa using h)
theorem alS_length : ∀ {vs : List Vl} {ss : List Sl}, ss.length = vs.length → (alS vs ss).length = (als vs).length
  | [], [], _ => rfl
  | .al i :: r, s :: ss, h => by simp only [alS, als, List.length_cons]; rw [alS_length (by simpa using h)]
  | .pl i :: r, s :: ss, h => by simp only [alS, als]; exact alS_length (by simpa using h)
  | .fr i :: r, s :: ss, h => by simp only [alS, als]; exact alS_length (by simpa using h)

/-! ## a def's promise -/
structure CallEnd (k : Kt) (O : Addr → Prop) (H : Hp) (vs : List V) (as : List Sl) (en : List Et) (ss : List Sl) (O' : Addr → Prop) (H' : Hp) : Prop where
  up : ∀ a, O a → O' a
  tr : ∀ a, O' a → ∃ u, H' a = some u
  nw : ∀ a, O' a → O a ∨ H a = none
  kp : ∀ a u, H a = some u → a ∉ ((vs.map some).zip as).flatMap oa → H' a = some u
  ok : ∀ e ∈ en ++ (vs.map some).zip ss, EtOk k O' H' e
  nd : ((en ++ (vs.map some).zip ss).flatMap oa).Nodup
  ow : ∀ a ∈ ((vs.map some).zip ss).flatMap oa, a ∈ ((vs.map some).zip as).flatMap oa
  ne : ∀ a ∈ en.flatMap oa, H a = none
  ln : ss.length = as.length
  pl : ∀ (j : Nat) s, as[j]? = some s → isOwn s → ∃ t, ss[j]? = some t ∧ isOwn t
def noAl : Vl → Prop
  | .al _ => False
  | _ => True
def spB (k : Kt) (g : List Sl → R (Vl × List Sl)) (np : Nat) : Sp := fun vs H Q E => ∃ (O : Addr → Prop) (as : List Sl), as.length = vs.length ∧ vs.length = np ∧ (∀ a, O a → ∃ u, H a = some u) ∧ (∀ e ∈ (vs.map some).zip as, EtOk k O H e) ∧
  (((vs.map some).zip as).flatMap oa).Nodup ∧ match g as with
  | .ok (v, ss) => noAl v ∧ ∀ x H' O', CallEnd k O H vs as [ent x v] ss O' H' → Q x H'
  | .ex cl fs ss => ∀ H' O' d fvs, CallEnd k O H vs as [] ss O' H' → H' d = some (.xd fvs) → RepF k O' H' fvs fs → ¬ O' d → E (.ref (k.ct cl)) (some d) H'
  | .no => False
/-- a def keeps its promise, where no repr is under way -/
structure FnG (P : Program) (w : World) (K : PySem.W.Frag) (mg : Str → Option Value) (base : Heap) (lv : Nat) (f : Addr) (fd : FuncData) (ps : List Str) (sp : Sp) : Prop where
  len : ∀ vs H Q E, sp vs H Q E → vs.length = ps.length
  run : ∀ (A : Around) (outer : List Env) (s : Shared) (H : Hp) (args : Args) (us : List Value) (vs : List V) (Q : VK) (E : XK),
    Room lv A → A.guards = some [] → Env0 P w K mg base A outer s H → BindsTo s fd args (ps.zip us) → Vals vs us → sp vs H Q E →
    codeAny (model P w) A (.call (.ref f) args) (CR (L2.CX P w) outer P w H s Q E) s
theorem FnG.mono {P : Program} {w : World} {K : PySem.W.Frag} {mg : Str → Option Value} {base : Heap} {j lv : Nat} {f : Addr} {fd : FuncData} {ps : List Str} {sp : Sp} (F : FnG P w K mg base j f fd ps sp) (h : j ≤ lv) : FnG P w K mg base lv f fd ps sp :=
  ⟨F.len, fun A outer s H args us vs Q E hr => F.run A outer s H args us vs Q E (hr.mono h)⟩

section
variable {X : Cx} {c : Cst} {W : WX} {fr : En → R (List Vl × En)} {e : Expr} {es : List Expr} {pos p : Pos} {lv j : Nat} {f : Addr} {fd : FuncData} {ps : List Str} {x : Str}
def fzE (x : V) : Vl → Et
  | .pl d => (some x, .fz d)
  | .fr ds => (some x, .fz (.lst ds))
  | .al _ => (none, .un)
def fzs : List V → List Vl → List Et
  | x :: xs, v :: vs => fzE x v :: fzs xs vs
  | _, _ => []
variable {O : Addr → Prop} {δ : En} {τ : List Et} {σ : St} {H : Hp}
theorem FO.fz1 {y : V} {v : Vl} (F : FO c O δ (ent y v :: τ) σ H) : ∃ O', FO c O' δ (fzE y v :: τ) σ H := by
  cases v with
  | pl d' => exact ⟨O, F⟩
  | fr zs =>
    have ok := F.fr.ok _ (List.mem_append_left _ List.mem_cons_self)
    cases y with
    | ref a => exact ⟨_, F.freezeT (List.Perm.refl _)⟩
    | _ => exact ok.elim
  | al i => exact ⟨O, F⟩
theorem FO.fzL : ∀ {xs : List V} {vs : List Vl} {O : Addr → Prop} {τ : List Et}, FO c O δ (ents xs vs ++ τ) σ H → ∃ O', FO c O' δ (fzs xs vs ++ τ) σ H
  | [], _, O, τ, F => ⟨O, by simpa [ents, fzs] using F⟩
  | _ :: _, [], O, τ, F => ⟨O, by simpa [ents, fzs] using F⟩
  | x :: xs, v :: vs, O, τ, F => by
    obtain ⟨O1, F1⟩ := FO.fz1 (show FO c O δ (ent x v :: (ents xs vs ++ τ)) σ H from F)
    obtain ⟨O2, F2⟩ := FO.fzL (F1.perm List.perm_middle.symm)
    exact ⟨O2, F2.perm List.perm_middle⟩
theorem VOks.len : ∀ {xs : List V} {vs : List Vl}, VOks σ xs vs → xs.length = vs.length
  | [], [], _ => rfl
  | _ :: _, _ :: _, h => by simp [VOks.len h.2]
theorem VOks.lt : ∀ {xs : List V} {vs : List Vl}, VOks σ xs vs → ∀ i ∈ als vs, i < σ.length
  | [], [], _, i, h => by cases h
  | x :: xs, .al j :: vs, o, i, h => by
    simp only [als, List.mem_cons] at h
    rcases h with rfl | h
    · exact (List.getElem?_eq_some_iff.mp o.1).1
    · exact VOks.lt o.2 i h
  | x :: xs, .pl _ :: vs, o, i, h => VOks.lt o.2 i h
  | x :: xs, .fr _ :: vs, o, i, h => VOks.lt o.2 i h
theorem oa_fz {x : Option V} {d : D} : oa (x, .fz d) = [] := by cases x with | none => rfl | some v => cases v <;> rfl
/-- the owners among the arguments are the lent slots -/
theorem own_args : ∀ {xs : List V} {vs : List Vl}, VOks σ xs vs → ((xs.map some).zip (vs.map (slA δ))).flatMap oa = ((als vs).map (eAt σ δ)).flatMap oa
  | [], [], _ => rfl
  | x :: xs, .al j :: vs, o => by
    have e : σ.getD j none = some x := by rw [List.getD_eq_getElem?_getD, show σ[j]? = some (some x) from o.1]; rfl
    simp only [List.map_cons, List.zip_cons_cons, List.flatMap_cons, als, own_args o.2, slA, eAt, e]
  | x :: xs, .pl _ :: vs, o => by simp only [List.map_cons, List.zip_cons_cons, List.flatMap_cons, als, own_args o.2, slA, oa_fz, List.nil_append]
  | x :: xs, .fr _ :: vs, o => by simp only [List.map_cons, List.zip_cons_cons, List.flatMap_cons, als, own_args o.2, slA, oa_fz, List.nil_append]
theorem mem_args : ∀ {xs : List V} {vs : List Vl}, VOks σ xs vs → ∀ e ∈ (xs.map some).zip (vs.map (slA δ)), e ∈ fzs xs vs ∨ ∃ i ∈ als vs, e = eAt σ δ i
  | [], [], _, e, h => by cases h
  | x :: xs, .al j :: vs, o, e, h => by
    simp only [List.map_cons, List.zip_cons_cons, List.mem_cons] at h
    rcases h with rfl | h
    · have e : σ.getD j none = some x := by rw [List.getD_eq_getElem?_getD, show σ[j]? = some (some x) from o.1]; rfl
      exact .inr ⟨j, by simp [als], by simp only [eAt, e, slA]⟩
    · rcases mem_args o.2 e h with q | ⟨i, q, r⟩
      · exact .inl (List.mem_cons_of_mem _ q)
      · exact .inr ⟨i, by simp only [als]; exact List.mem_cons_of_mem _ q, r⟩
  | x :: xs, .pl d :: vs, o, e, h => by
    simp only [List.map_cons, List.zip_cons_cons, List.mem_cons] at h
    rcases h with rfl | h
    · exact .inl (by simp [fzs, fzE, slA])
    · rcases mem_args o.2 e h with q | ⟨i, q, r⟩
      · exact .inl (List.mem_cons_of_mem _ q)
      · exact .inr ⟨i, q, r⟩
  | x :: xs, .fr d :: vs, o, e, h => by
    simp only [List.map_cons, List.zip_cons_cons, List.mem_cons] at h
    rcases h with rfl | h
    · exact .inl (by simp [fzs, fzE, slA])
    · rcases mem_args o.2 e h with q | ⟨i, q, r⟩
      · exact .inl (List.mem_cons_of_mem _ q)
      · exact .inr ⟨i, q, r⟩
theorem sub_back : ∀ {xs : List V} {vs : List Vl} {ss : List Sl}, VOks σ xs vs → (((als vs).map fun i => σ.getD i none).zip (alS vs ss)).Sublist ((xs.map some).zip ss)
  | [], [], _, _ => by simp [als, alS]
  | x :: xs, v :: vs, [], o => by cases v <;> simp [alS]
  | x :: xs, .al j :: vs, s :: ss, o => by
    have e : σ.getD j none = some x := by rw [List.getD_eq_getElem?_getD, show σ[j]? = some (some x) from o.1]; rfl
    simp only [als, alS, List.map_cons, List.zip_cons_cons, e]
    exact (sub_back o.2).cons_cons _
  | x :: xs, .pl _ :: vs, s :: ss, o => by
    simp only [als, alS, List.map_cons, List.zip_cons_cons]
    exact (sub_back o.2).cons _
  | x :: xs, .fr _ :: vs, s :: ss, o => by
    simp only [als, alS, List.map_cons, List.zip_cons_cons]
    exact (sub_back o.2).cons _
theorem mem_als : ∀ {vs : List Vl} {j i : Nat}, vs[j]? = some (.al i) → i ∈ als vs
  | [], _, _, e => by simp at e
  | v :: vs, 0, i, e => by simp at e; subst e; simp [als]
  | v :: vs, j + 1, i, e => by
    have h := mem_als (vs := vs) (j := j) (i := i) (by simpa using e)
    cases v <;> simp [als, h]
theorem own_back : ∀ {vs : List Vl} {ss : List Sl} {δ : En}, ss.length = vs.length → (als vs).Nodup → (∀ i ∈ als vs, i < δ.length) → (∀ (j : Nat) i, vs[j]? = some (.al i) → isOwn (gS δ i) → ∃ t, ss[j]? = some t ∧ isOwn t) →
    ∀ i ∈ als vs, isOwn (gS δ i) → isOwn (gS (setL δ (als vs) (alS vs ss)) i)
  | [], [], _, _, _, _, _, i, h, _ => by cases h
  | .pl _ :: vs, s :: ss, δ, hl, nd, hlt, k, i, h, o => own_back (vs := vs) (by simpa using hl) nd hlt (fun j i e q => k (j + 1) i (by simpa using e) q) i h o
  | .fr _ :: vs, s :: ss, δ, hl, nd, hlt, k, i, h, o => own_back (vs := vs) (by simpa using hl) nd hlt (fun j i e q => k (j + 1) i (by simpa using e) q) i h o
  | .al m :: vs, s :: ss, δ, hl, nd, hlt, k, i, h, o => by
    simp only [als, List.nodup_cons] at nd
    simp only [als, alS]
    show isOwn (gS (setL (δ.set m s) (als vs) (alS vs ss)) i)
    have hm := hlt m (by simp [als])
    by_cases e : i = m
    · subst e
      rw [gS_setL_ne nd.1, gS_set_same (List.getElem?_eq_getElem hm)]
      obtain ⟨t, e1, e2⟩ := k 0 i rfl o
      cases e1
      exact e2
    · have h' : i ∈ als vs := by
        simp only [als, List.mem_cons] at h
        exact h.resolve_left e
      refine own_back (vs := vs) (by simpa using hl) nd.2 (fun j hj => by rw [List.length_set]; exact hlt j (by simp [als, hj])) (fun j i' e1 q => k (j + 1) i' (by simpa using e1) ?_) i h' (by rw [gS_set_ne e]; exact o)
      have ne : i' ≠ m := fun z => nd.1 (z ▸ mem_als (by simpa using e1))
      rw [gS_set_ne ne] at q
      exact q
theorem eAt_ok (F : FO c O δ τ σ H) (i : Nat) : EtOk c.k O H (eAt σ δ i) := by
  by_cases hi : i < δ.length
  · obtain ⟨ov, s, e1, e2⟩ := F.entry hi
    have g1 : σ.getD i none = ov := by rw [List.getD_eq_getElem?_getD, e1]; rfl
    unfold eAt
    rw [g1, get_gS e2]
    exact F.fr.ok _ (List.mem_append_right _ (List.mem_of_getElem? (i := i) (by rw [List.getElem?_zip_eq_some]; exact ⟨e1, e2⟩)))
  · have g2 : gS δ i = .un := by unfold gS; rw [List.getD_eq_getElem?_getD, List.getElem?_eq_none (Nat.le_of_not_lt hi)]; rfl
    unfold eAt
    rw [g2]
    exact True.intro
/-- ahead of a call -/
structure Pre (k : Kt) (O : Addr → Prop) (H : Hp) (vs : List V) (as : List Sl) : Prop where
  ln : as.length = vs.length
  tr : ∀ a, O a → ∃ u, H a = some u
  ok : ∀ e ∈ (vs.map some).zip as, EtOk k O H e
  nd : (((vs.map some).zip as).flatMap oa).Nodup
theorem FO.pre {xs : List V} {vs : List Vl} (F : FO c O δ (fzs xs vs ++ τ) σ H) (o : VOks σ xs vs) (nd : (als vs).Nodup) : Pre c.k O H xs (vs.map (slA δ)) := by
  refine ⟨by rw [List.length_map]; exact o.len.symm, F.fr.tr, fun e he => ?_, ?_⟩
  · rcases mem_args o e he with h | ⟨i, _, rfl⟩
    · exact F.fr.ok e (List.mem_append_left _ (List.mem_append_left _ h))
    · exact eAt_ok F i
  · rw [own_args o]
    obtain ⟨rest, p1, _⟩ := zip_pull F.len nd (fun i hi => by rw [← F.len]; exact o.lt i hi)
    have q := (F.fr.perm (p1.append_left _)).nd
    rw [List.flatMap_append, List.flatMap_append, List.flatMap_append] at q
    exact (List.nodup_append.mp (List.nodup_append.mp q).2.1).1
/-- behind a call -/
theorem FO.after {xs : List V} {vs : List Vl} {en : List Et} {ss : List Sl} {O' : Addr → Prop} {H' : Hp} (F : FO c O δ (fzs xs vs ++ τ) σ H) (o : VOks σ xs vs) (nd : (als vs).Nodup)
    (E : CallEnd c.k O H xs (vs.map (slA δ)) en ss O' H') : FO c O' (giveBack δ vs ss) (en ++ τ) σ H' := by
  have hln : ss.length = vs.length := by rw [E.ln, List.length_map]
  have hlt : ∀ i ∈ als vs, i < δ.length := fun i hi => by rw [← F.len]; exact o.lt i hi
  obtain ⟨rest, p1, p2⟩ := zip_pull F.len nd hlt
  have p2 := p2 (alS vs ss) (alS_length hln)
  rw [giveBack_eq hln]
  -- the caller's entries: τ, the lent slots, the rest
  have F1 : FR c O (((als vs).map (eAt σ δ)) ++ (τ ++ rest)) H := by
    have q := (F.sub (List.sublist_append_right (fzs xs vs) τ)).fr.perm (p1.append_left τ)
    refine q.perm ?_
    rw [← List.append_assoc, ← List.append_assoc]
    exact List.perm_append_comm.append_right _
  have nd1 := F1.nd
  rw [List.flatMap_append, List.nodup_append] at nd1
  have own : ((xs.map some).zip (vs.map (slA δ))).flatMap oa = ((als vs).map (eAt σ δ)).flatMap oa := own_args o
  have kp : ∀ a u, H a = some u → a ∉ ((als vs).map (eAt σ δ)).flatMap oa → H' a = some u := fun a u e n => E.kp a u e (by rw [own]; exact n)
  have ownO : ∀ a ∈ ((als vs).map (eAt σ δ)).flatMap oa, O a := fun a ha => F1.own_O (by rw [List.flatMap_append]; exact List.mem_append_left _ ha)
  have stays : Stays O H O' H' := fun a n u e => ⟨fun z => (E.nw a z).elim n fun q => (by rw [e] at q; exact nomatch q), kp a u e fun z => n (ownO a z)⟩
  have sb : (((als vs).map fun i => σ.getD i none).zip (alS vs ss)).Sublist ((xs.map some).zip ss) := sub_back o
  have okT : ∀ e ∈ τ ++ rest, EtOk c.k O' H' e := fun e he => by
    refine (F1.ok e (List.mem_append_right _ he)).mono stays fun a ha => ?_
    have hO := oa_O (F1.ok e (List.mem_append_right _ he)) ha
    obtain ⟨u, hu⟩ := F1.tr a hO
    refine ⟨E.up a hO, ?_⟩
    rw [hu]
    exact kp a u hu fun z => nd1.2.2 a z a (List.mem_flatMap.mpr ⟨e, he, ha⟩) rfl
  have sb2 : (en ++ ((als vs).map fun i => σ.getD i none).zip (alS vs ss)).Sublist (en ++ (xs.map some).zip ss) := (List.Sublist.refl _).append sb
  have G : FR c O' ((en ++ ((als vs).map fun i => σ.getD i none).zip (alS vs ss)) ++ (τ ++ rest)) H' := by
    refine ⟨fun a h => E.up a (F1.o0 a h), fun a h => E.up a (F1.o1 a h), E.tr, fun e he => ?_, ?_, fun a ha => ?_, fun a u e n => ?_, fun a h => (E.nw a h).elim (F1.on a) fun q => .inr (F1.none_H0 q)⟩
    · rcases List.mem_append.mp he with h | h
      · exact E.ok e (sb2.mem h)
      · exact okT e h
    · rw [List.flatMap_append, List.nodup_append]
      refine ⟨E.nd.sublist (sub_oa sb2), nd1.2.1, fun a ha b hb e => ?_⟩
      subst e
      rw [List.flatMap_append] at ha
      rcases List.mem_append.mp ha with h | h
      · obtain ⟨u, hu⟩ := F1.tr a (F1.own_O (by rw [List.flatMap_append]; exact List.mem_append_right _ hb))
        rw [E.ne a h] at hu; cases hu
      · have := E.ow a ((sub_oa sb).mem h)
        rw [own] at this
        exact nd1.2.2 a this a hb rfl
    · rw [List.flatMap_append, List.flatMap_append] at ha
      rcases List.mem_append.mp ha with h | h
      · rcases List.mem_append.mp h with h | h
        · exact .inr (F1.none_H0 (E.ne a h))
        · have := E.ow a ((sub_oa sb).mem h)
          rw [own] at this
          exact F1.nw a (by rw [List.flatMap_append]; exact List.mem_append_left _ this)
      · exact F1.nw a (by rw [List.flatMap_append]; exact List.mem_append_right _ h)
    · refine kp a u (F1.pr a u e n) fun z => ?_
      rcases F1.nw a (by rw [List.flatMap_append]; exact List.mem_append_left _ z) with q | q
      · exact n q
      · rw [q] at e; cases e
  refine ⟨G.perm ?_, by rw [setL_length]; exact F.len, fun p hp => ?_⟩
  · rw [List.append_assoc, List.append_assoc]
    refine List.Perm.append_left en ?_
    refine List.Perm.trans ?_ (p2.append_left τ).symm
    rw [← List.append_assoc, ← List.append_assoc]
    exact List.perm_append_comm.append_right _
  · obtain ⟨b1, b2⟩ := F.bs p hp
    refine ⟨b1, ?_⟩
    by_cases hi : p.1 ∈ als vs
    · refine own_back hln nd hlt (fun j i e q => ?_) p.1 hi b2
      have e2 : (vs.map (slA δ))[j]? = some (gS δ i) := by rw [List.getElem?_map, e]; rfl
      exact E.pl j _ e2 q
    · rw [gS_setL_ne hi]
      exact b2
end
end B
namespace B
open PySem PySem.Spec L2
open PyProof.Rows hiding St
section
variable {X : Cx} {c : Cst} {W : WX} {fr : En → R (List Vl × En)} {e : Expr} {es : List Expr} {pos p : Pos} {lv j np : Nat} {f : Addr} {fd : FuncData} {ps : List Str} {x : Str} {g : List Sl → R (Vl × List Sl)}
def calF (g : List Sl → R (Vl × List Sl)) (fr : En → R (List Vl × En)) : En → R (Vl × En) := fun δ => (fr δ).bind fun (vs, δ1) =>
      if (als vs).Nodup then endC δ1 vs (g (vs.map (slA δ1))) else .no
/-- from what the caller wants to what the callee is asked -/
theorem cal_end {g : List Sl → R (Vl × List Sl)} (hnp : ∀ as, as.length ≠ np → g as = .no) (hna : ∀ as v ss, g as = .ok (v, ss) → noAl v) {O : Addr → Prop} {τ : List Et} {σ : St} {H1 : Hp} {δ1 : En} {xs : List V} {vs : List Vl} {Q : VK}
    (F1 : FO c O δ1 (ents xs vs ++ τ) σ H1) (o1 : VOks σ xs vs) (h : Post c W σ τ (if (als vs).Nodup then endC δ1 vs (g (vs.map (slA δ1))) else .no) Q) : spB c.k g np xs H1 Q (fun cls d H' => W cls d σ H') := by
  split at h
  case isFalse => exact h.elim
  case isTrue nd =>
  obtain ⟨O1, F2⟩ := F1.fzL
  have pre := F2.pre o1 nd
  have hl : xs.length = vs.length := o1.len
  refine ⟨O1, vs.map (slA δ1), pre.ln, ?_, pre.tr, pre.ok, pre.nd, ?_⟩
  · by_cases hn : (vs.map (slA δ1)).length = np
    · rw [hl, ← List.length_map (f := slA δ1)]; exact hn
    · rw [hnp _ hn] at h; exact h.elim
  · cases eg : g (vs.map (slA δ1)) with
    | no => rw [eg] at h; exact h.elim
    | ok p =>
      obtain ⟨v, ss⟩ := p
      rw [eg] at h
      refine ⟨hna _ _ _ eg, fun y H' O' E => h y H' ⟨O', F2.after o1 nd E⟩ ?_⟩
      have := hna _ _ _ eg
      cases v <;> first | exact True.intro | exact this.elim
    | ex cl fs ss =>
      rw [eg] at h
      exact fun H' O' d fvs E e1 r n => h H' d fvs O' (F2.after o1 nd E) e1 r n
/-- the callee's promise is asked -/
theorem cal_pre (hnp : ∀ as, as.length ≠ np → g as = .no) (hna : ∀ as v ss, g as = .ok (v, ss) → noAl v) : ∀ σ H Q, rdE c W (calF g fr) σ H Q → rdA c W fr σ H fun xs H1 => spB c.k g np xs H1 Q (fun cls d H' => W cls d σ H') := by
  rintro σ H Q ⟨δ, τ, F, P⟩
  obtain ⟨p1, p2, p3⟩ := bindE (P := fun r => Post c W σ τ r Q) (show Post c W σ τ ((fr δ).bind _) Q from P)
  refine seqA F (fun cl fs δ' e => p1 cl fs δ' e) (fun e => p2 e) fun vs δ1 e1 xs H1 F1 o1 => ?_
  obtain ⟨O, F1⟩ := F1
  exact cal_end hnp hna F1 o1 (p3 _ e1)
/-- f(e, ..) -/
theorem s_cal (G : Gg X c lv true) (tk : Takes X W) (hnp : ∀ as, as.length ≠ np → g as = .no) (hna : ∀ as v ss, g as = .ok (v, ss) → noAl v) (F : FnG X.prog X.w X.K X.mg X.base lv f fd ps (spB c.k g np)) (hg : Gl X x) (hm : X.mg x = some (.ref f))
    (hk : PySem.W.keepIn X.K (.ref f) = true) (hb : Binds X.K fd ps []) (ha : PA X (e :: es) (rdA c W fr)) (hdb : (x == ("__debug__" : Str)) = false)
    (he : starEach (e :: es) X.env = (false, eval e X.env) :: starEach es X.env) (hpl : (backTo pos (starEach es X.env)).any (·.1) = false) : PE X (.Call (.Name x p) (e :: es) [] pos) (rdE c W (calF g fr)) := by
  refine ⟨fun pins s σ H Q I h => ?_⟩
  have h := cal_pre hnp hna σ H Q h
  refine wpAny_Call_Name_kw (ld_glob I hg hm ?_ hdb)
  refine PySem.W.callWith_K (h₀ := X.base) I.ok.mod.kin hk (thn (ha.run pos pins s σ H _ I h) fun ws s1 ⟨zs, H1, I1, r1, sp⟩ => ⟨I1.kIn, ?_⟩) he hpl
  have n1 : ws.length = ps.length := r1.length.symm.trans (F.len _ _ _ _ sp)
  have b1 := hb s1 ws I1.kIn (by rw [List.append_nil]; exact n1)
  rw [List.append_nil] at b1
  refine wpAny_call (codeAny_mono (F.run X.A X.stack s1 H1 ⟨ws, []⟩ ws zs Q _ (G.room rfl) G.grd I1.env0 b1 r1 sp) fun res s2 hq => ?_)
  match res, hq with
  | .error er, hq => exact tk er s2 (XE.of_call I1 (fun _ _ _ z => z) hq)
  | .ok (.ret u), hq => exact I1.after hq
  | .ok .next, hq => exact hq.elim
  | .ok .brk, hq => exact hq.elim
  | .ok .cont, hq => exact hq.elim

/-- f() -/
theorem s_cal0 (G : Gg X c lv true) (tk : Takes X W) (hnp : ∀ as, as.length ≠ np → g as = .no) (hna : ∀ as v ss, g as = .ok (v, ss) → noAl v) (F : FnG X.prog X.w X.K X.mg X.base lv f fd ps (spB c.k g np)) (hg : Gl X x) (hm : X.mg x = some (.ref f))
    (hk : PySem.W.keepIn X.K (.ref f) = true) (hb : Binds X.K fd ps []) (hdb : (x == ("__debug__" : Str)) = false) : PE X (.Call (.Name x p) [] [] pos) (rdE c W (calF g nilF)) := by
  refine ⟨fun pins s σ H Q I h => ?_⟩
  obtain ⟨δ, τ, F0, P⟩ := cal_pre hnp hna σ H Q h
  have sp := P [] H F0 True.intro
  refine wpAny_Call_Name_kw (ld_glob I hg hm ?_ hdb)
  refine PySem.W.callWith_K0 (first := []) I.kIn hk ?_
  have n1 : ([] : List Value).length = ps.length := (F.len _ _ _ _ sp)
  have b1 := hb s [] I.kIn (by rw [List.append_nil]; exact n1)
  rw [List.append_nil] at b1
  refine wpAny_call (codeAny_mono (F.run X.A X.stack s H ⟨[], []⟩ [] [] Q _ (G.room rfl) G.grd I.env0 b1 .nil sp) fun res s2 hq => ?_)
  match res, hq with
  | .error er, hq => exact tk er s2 (XE.of_call I (fun _ _ _ z => z) hq)
  | .ok (.ret u), hq => exact I.after hq
  | .ok .next, hq => exact hq.elim
  | .ok .brk, hq => exact hq.elim
  | .ok .cont, hq => exact hq.elim

/-! ## f(e, .., k = v, ..) -/
/-- called with any first places by place, the others by keywords -/
def KwB (K : PySem.W.Frag) (fd : FuncData) (ps : List Str) : Prop := ∀ (s : Shared) (us ws : List Value), K.In s.heap → (us ++ ws).length = ps.length → BindsTo s fd ⟨us, (ps.drop us.length).zip ws⟩ (ps.zip (us ++ ws))
def apaF (fa fb : En → R (List Vl × En)) : En → R (List Vl × En) := fun δ => (fa δ).bind fun (vs, δ1) => (fb δ1).bind fun (ws, δ2) => .ok (vs ++ ws, δ2)
theorem ents_app : ∀ {xs zs : List V} {vs ws : List Vl}, xs.length = vs.length → ents (xs ++ zs) (vs ++ ws) = ents xs vs ++ ents zs ws
  | [], _, [], _, _ => rfl
  | x :: xs, zs, v :: vs, ws, h => by
    show ent x v :: ents (xs ++ zs) (vs ++ ws) = ent x v :: (ents xs vs ++ ents zs ws)
    rw [ents_app (by simpa using h)]
theorem voks_app {σ : St} : ∀ {xs zs : List V} {vs ws : List Vl}, VOks σ xs vs → VOks σ zs ws → VOks σ (xs ++ zs) (vs ++ ws)
  | [], _, [], _, _, h => h
  | x :: xs, zs, v :: vs, ws, h, h2 => ⟨h.1, voks_app h.2 h2⟩
theorem app_pre {fa fb : En → R (List Vl × En)} {n : Nat} {σ : St} {H : Hp} {T : List V → Hp → Prop} (hn : ∀ δ vs δ', fa δ = .ok (vs, δ') → vs.length = n) (h : rdA c W (apaF fa fb) σ H T) : rdA c W fa σ H fun xs H1 => xs.length = n ∧ rdA c W fb σ H1 fun zs H2 => T (xs ++ zs) H2 := by
  obtain ⟨δ, τ, F, P⟩ := h
  obtain ⟨p1, p2, p3⟩ := bindE (P := fun r => PostA c W σ τ r T) (show PostA c W σ τ ((fa δ).bind _) T from P)
  refine seqA F (fun cl fs δ' e => p1 cl fs δ' e) (fun e => p2 e) fun vs δ1 e1 xs H1 F1 o1 => ?_
  obtain ⟨q1, q2, q3⟩ := bindE (P := fun r => PostA c W σ τ r T) (p3 _ e1)
  refine ⟨o1.len.trans (hn _ _ _ e1), seqA F1 (fun cl fs δ' e => ?_) (fun e => q2 e) fun ws δ2 e2 zs H2 F2 o2 => ?_⟩
  · intro H' d fvs O F' e3 r n
    exact q1 cl fs δ' e H' d fvs O (F'.sub (List.sublist_append_right _ _)) e3 r n
  · have h2 := q3 _ e2
    obtain ⟨O, F2⟩ := F2
    refine h2 (xs ++ zs) H2 ⟨O, ?_⟩ (voks_app o1 o2)
    rw [ents_app o1.len]
    refine F2.perm ?_
    rw [← List.append_assoc]
    exact List.perm_append_comm.append_right _
theorem s_kal {fa fb : En → R (List Vl × En)} {kws : List Keyword} (G : Gg X c lv true) (tk : Takes X W) (hnp : ∀ as, as.length ≠ np → g as = .no) (hna : ∀ as v ss, g as = .ok (v, ss) → noAl v) (F : FnG X.prog X.w X.K X.mg X.base lv f fd ps (spB c.k g np)) (hg : Gl X x) (hm : X.mg x = some (.ref f))
    (hk : PySem.W.keepIn X.K (.ref f) = true) (hb : KwB X.K fd ps) (ha : PA X es (rdA c W fa)) (hkw : PK X kws (rdA c W fb)) (hdb : (x == ("__debug__" : Str)) = false)
    (hn : ∀ δ vs δ', fa δ = .ok (vs, δ') → vs.length = es.length) (hes : (es = [] ∧ fa = nilF) ∨ ∃ e r, es = e :: r ∧ starEach (e :: r) X.env = (false, eval e X.env) :: starEach r X.env) (hpl : (backTo pos (starEach es X.env)).any (·.1) = false)
    (hall : ∀ y ∈ kws, y.arg.isSome = true) (hnm : kws.map Keyword.arg = (ps.drop es.length).map some) :
    PE X (.Call (.Name x p) es kws pos) (rdE c W (calF g (apaF fa fb))) := by
  have k1 : ∀ kws : List Keyword, (backToKw pos (keywordEach kws X.env)).map (·.1) = kws.map Keyword.arg := by
    intro kws
    induction kws with
    | nil => rfl
    | cons y r ih => obtain ⟨n, v, q⟩ := y; exact congrArg (n :: ·) ih
  have hall' : (backToKw pos (keywordEach kws X.env)).all (·.1.isSome) = true := by
    rw [List.all_eq_true]
    intro y hy
    have : y.1 ∈ kws.map Keyword.arg := by rw [← k1]; exact List.mem_map.mpr ⟨y, hy, rfl⟩
    obtain ⟨z, hz, e⟩ := List.mem_map.mp this
    rw [← e]; exact hall z hz
  have hnone : (backToKw pos (keywordEach kws X.env)).any (·.1.isNone) = false := by
    rw [List.any_eq_false]
    intro y hy z
    have := List.all_eq_true.mp hall' y hy
    rw [Option.isNone_iff_eq_none] at z
    rw [z] at this
    cases this
  have hks : (backToKw pos (keywordEach kws X.env)).filterMap (·.1) = ps.drop es.length := by
    have : ∀ l : List (Option Str × Sem Value), l.filterMap (·.1) = (l.map (·.1)).filterMap id := fun l => by rw [List.filterMap_map]; rfl
    rw [this, k1, hnm, List.filterMap_map]
    exact List.filterMap_some
  refine ⟨fun pins s σ H Q I h => ?_⟩
  have h := app_pre hn (cal_pre hnp hna σ H Q h)
  refine wpAny_Call_Name_kw (ld_glob I hg hm ?_ hdb)
  have fin : ∀ {s2 : Shared} {H2 : Hp} {us ws : List Value} {xs zs : List V}, us.length = es.length → Inv X pins σ H2 s2 → Vals xs us → Vals zs ws → spB c.k g np (xs ++ zs) H2 Q (fun cls d H' => W cls d σ H') →
      wpAny (model X.prog X.w) X.A (call (.ref f) us ((ps.drop es.length).zip ws)) (EP X pins σ Q) X.xe s2 := fun {s2 H2 us ws xs zs} lu I2 r rz sp => by
    have r2 := r.append rz
    have n1 : (us ++ ws).length = ps.length := r2.length.symm.trans (F.len _ _ _ _ sp)
    have b1 := hb s2 us ws I2.kIn n1
    rw [lu] at b1
    refine wpAny_call (codeAny_mono (F.run X.A X.stack s2 H2 ⟨us, (ps.drop es.length).zip ws⟩ (us ++ ws) (xs ++ zs) Q _ (G.room rfl) G.grd I2.env0 b1 r2 sp) fun res s2 hq => ?_)
    match res, hq with
    | .error er, hq => exact tk er s2 (XE.of_call I2 (fun _ _ _ z => z) hq)
    | .ok (.ret u), hq => exact I2.after hq
    | .ok .next, hq => exact hq.elim
    | .ok .brk, hq => exact hq.elim
    | .ok .cont, hq => exact hq.elim
  rcases hes with ⟨rfl, rfl⟩ | ⟨e, r, rfl, he⟩
  · obtain ⟨δ, τ, F0, P⟩ := h
    obtain ⟨_, q1⟩ := P [] H F0 True.intro
    refine PySem.W.callWith_KW0 (h₀ := X.base) I.ok.mod.kin hk hall' ?_ (by rw [hpl, hnone]; rfl)
    refine thn (hkw.run pos pins s σ H _ I q1) fun ws s2 ⟨zs, H2, I2, rz, q2⟩ => ⟨I2.kIn, ?_⟩
    rw [hks]
    exact fin rfl I2 .nil rz q2
  · refine PySem.W.callWith_KW (h₀ := X.base) I.ok.mod.kin hk hall' (thn (ha.run pos pins s σ H _ I h) fun us s1 ⟨xs, H1, I1, r1, lx, q1⟩ => ?_) (by rw [hpl, hnone]; rfl) he
    refine thn (hkw.run pos pins s1 σ H1 _ I1 q1) fun ws s2 ⟨zs, H2, I2, rz, q2⟩ => ⟨I2.kIn, ?_⟩
    rw [hks]
    exact fin (r1.length.symm.trans lx) I2 r1 rz q2

/-! ## statements -/
variable {W' : WX} {τ : List Et} {σ : St} {H : Hp} {δ : En} {st : Stmt} {sts : List Stmt} {fa : En → R (Vl × En)} {ta : En → R (Bool × En)} {fs fs2 : En → R (Fl × En)}
def PostS (c : Cst) (W : WX) (τ : List Et) (r : R (Fl × En)) (D : Ends) : Prop := match r with
  | .ok (.nx, δ) => ∀ σ H, FS c δ τ σ H → D.nx σ H
  | .ok (.bk, δ) => ∀ σ H, FS c δ τ σ H → D.bk σ H
  | .ok (.ct, δ) => ∀ σ H, FS c δ τ σ H → D.ct σ H
  | .ok (.rt v, δ) => noAl v ∧ ∀ σ x H, FS c δ (ent x v :: τ) σ H → D.rt x H
  | .ex cl fs δ => ∀ σ, ExK c W σ τ cl fs δ
  | .no => False
def rdS (c : Cst) (W : WX) (f : En → R (Fl × En)) : TS := fun D σ H => ∃ δ τ, FS c δ τ σ H ∧ PostS c W τ (f δ) D
theorem psOf {t t' : TS} (h : PS X st t) (i : ∀ D σ H, t' D σ H → t D σ H) : PS X st t' := ⟨fun pins s σ H D I q => h.run pins s σ H D I (i D σ H q)⟩
theorem pssOf {t t' : TS} (h : PSs X sts t) (i : ∀ D σ H, t' D σ H → t D σ H) : PSs X sts t' := ⟨fun pins s σ H D I q => h.run pins s σ H D I (i D σ H q)⟩
def skipF : En → R (Fl × En) := fun δ => .ok (.nx, δ)
theorem s_skip : PSs X [] (rdS c W skipF) := pssOf pss_nil fun D σ H ⟨δ, τ, F, P⟩ => P σ H F
theorem s_pass : PS X (.Pass pos) (rdS c W skipF) := psOf ps_pass fun D σ H ⟨δ, τ, F, P⟩ => P σ H F
theorem s_doc {x : Str} {j : Nat} {pos' : Pos} : PS X (.Expr (.Constant (.str x) j pos) pos') (rdS c W skipF) := psOf ps_doc fun D σ H ⟨δ, τ, F, P⟩ => P σ H F
theorem s_brk : PS X (.Break pos) (rdS c W fun δ => .ok (.bk, δ)) := psOf ps_break fun D σ H ⟨δ, τ, F, P⟩ => P σ H F
theorem s_cnt : PS X (.Continue pos) (rdS c W fun δ => .ok (.ct, δ)) := psOf ps_continue fun D σ H ⟨δ, τ, F, P⟩ => P σ H F
def seqF (fs fs2 : En → R (Fl × En)) : En → R (Fl × En) := fun δ => match fs δ with
    | .ok (.nx, δ1) => fs2 δ1
    | r => r
theorem s_seq2 (h1 : PS X st (rdS c W fs)) (h2 : PSs X sts (rdS c W fs2)) : PSs X (st :: sts) (rdS c W (seqF fs fs2)) := pssOf (pss_cons h1 h2) fun D σ H ⟨δ, τ, F, P⟩ => by
  refine ⟨δ, τ, F, ?_⟩
  unfold seqF at P
  unfold PostS
  cases e : fs δ with
  | no => rw [e] at P; exact P
  | ex cl f' δ' => rw [e] at P; exact P
  | ok q =>
    obtain ⟨fl, δ1⟩ := q
    rw [e] at P
    cases fl with
    | nx => exact fun σ H F1 => ⟨δ1, τ, F1, P⟩
    | bk => exact P
    | ct => exact P
    | rt v => exact P
/-- x = e -/
def asgF (bd : List Nat) (i : Nat) (fa : En → R (Vl × En)) : En → R (Fl × En) := fun δ => (fa δ).bind fun (v, δ1) => (R.ofO (putS bd i v δ1)).bind fun δ2 => .ok (.nx, δ2)
theorem putS_ok {O : Addr → Prop} {y : V} {v : Vl} {i : Nat} {δ' : En} (F : FO c O δ (ent y v :: τ) σ H) (h : putS c.bd i v δ = some δ') : FO c O δ' τ (σ.set i (some y)) H := by
  unfold putS at h
  split at h
  · cases h
  · rename_i hc
    simp only [not_or, Nat.not_le] at hc
    cases v with
    | pl d => cases h; exact F.putS (List.Perm.refl _) (by rw [F.len]; exact hc.2) hc.1
    | fr ds => cases h; exact F.putS (List.Perm.refl _) (by rw [F.len]; exact hc.2) hc.1
    | al k => cases h
theorem s_asgR {i : Nat} : ∀ D σ H, rdS c W (asgF c.bd i fa) D σ H → tAsg (rdE c W fa) (gName i) D σ H := by
  rintro D σ H ⟨δ, τ, F, P⟩
  obtain ⟨p1, p2, p3⟩ := bindE (P := fun r => PostS c W τ r D) (show PostS c W τ ((fa δ).bind _) D from P)
  refine seqE F (fun cl fs δ' e => p1 cl fs δ' e σ) (fun e => p2 e) fun v δ1 e1 y H1 F1 o1 => ?_
  obtain ⟨δ2, ed, h⟩ := bindO (P := fun r => PostS c W τ r D) (p3 _ e1) (fun z => z)
  obtain ⟨O, F1⟩ := F1
  exact h _ _ ⟨O, putS_ok F1 ed⟩
/-- a, b = x, y -/
def parF (bd : List Nat) (i j : Nat) (fr : En → R (List Vl × En)) : En → R (Fl × En) := fun δ => (fr δ).bind fun (vs, δ1) => (match vs with
    | [v, w] => (R.ofO (putS bd i v δ1)).bind fun δ2 => (R.ofO (putS bd j w δ2)).bind fun δ3 => .ok (.nx, δ3)
    | _ => .no)
theorem s_parR {i j : Nat} : ∀ D σ H, rdS c W (parF c.bd i j fr) D σ H → tPar i j (rdA c W fr) D σ H := by
  rintro D σ H ⟨δ, τ, F, P⟩
  obtain ⟨p1, p2, p3⟩ := bindE (P := fun r => PostS c W τ r D) (show PostS c W τ ((fr δ).bind _) D from P)
  refine seqA F (fun cl fs δ' e => p1 cl fs δ' e σ) (fun e => p2 e) fun vs δ1 e1 xs H1 F1 o1 => ?_
  have h := p3 _ e1
  simp only at h
  split at h
  case h_2 => exact h.elim
  case h_1 v w =>
  obtain ⟨δ2, e2, h⟩ := bindO (P := fun r => PostS c W τ r D) h (fun z => z)
  obtain ⟨δ3, e3, h⟩ := bindO (P := fun r => PostS c W τ r D) h (fun z => z)
  obtain ⟨O, F1⟩ := F1
  match xs, o1, F1 with
  | [x, y], _, F1 => exact ⟨x, y, rfl, h _ _ ⟨O, putS_ok (putS_ok (show FO c O δ1 (ent x v :: (ent y w :: τ)) σ H1 from F1) e2) e3⟩⟩
/-- a, b = e -/
def unpF (bd : List Nat) (is : List Nat) (fa : En → R (Vl × En)) : En → R (Fl × En) := fun δ => (fa δ).bind fun (v, δ1) => (R.ofO (cv v)).bind fun d => (match d with
    | .tup xs => (R.ofO (bindN bd is xs δ1)).bind fun δ2 => .ok (.nx, δ2)
    | .lst xs => (R.ofO (bindN bd is xs δ1)).bind fun δ2 => .ok (.nx, δ2)
    | _ => .no)
/-- return e -/
def retF (fa : En → R (Vl × En)) : En → R (Fl × En) := fun δ => (fa δ).bind fun (v, δ1) => (R.ofO (slV v)).bind fun _ => .ok (.rt v, δ1)
theorem s_ret (ha : PE X e (rdE c W fa)) : PS X (.Return (some e) pos) (rdS c W (retF fa)) := psOf (ps_ret ha) fun D σ H ⟨δ, τ, F, P⟩ => by
  obtain ⟨p1, p2, p3⟩ := bindE (P := fun r => PostS c W τ r D) (show PostS c W τ ((fa δ).bind _) D from P)
  refine seqE F (fun cl fs δ' e => p1 cl fs δ' e σ) (fun e => p2 e) fun v δ1 e1 y H1 F1 o1 => ?_
  obtain ⟨sl, ed, h⟩ := bindO (P := fun r => PostS c W τ r D) (p3 _ e1) (fun z => z)
  exact h.2 σ y H1 F1
theorem s_retN : PS X (.Return none pos) (rdS c W fun δ => .ok (.rt (.pl .non), δ)) := psOf ps_retN fun D σ H ⟨δ, τ, ⟨O, F⟩, P⟩ => P.2 σ .non H ⟨O, F.addFz .non⟩
/-- e alone -/
def expF (fa : En → R (Vl × En)) : En → R (Fl × En) := fun δ => (fa δ).bind fun (_, δ1) => .ok (.nx, δ1)
theorem s_exp (ha : PE X e (rdE c W fa)) (hs : swapsWith e none pos.line X.env = pure false) : PS X (.Expr e pos) (rdS c W (expF fa)) := psOf (ps_expr ha hs) fun D σ H ⟨δ, τ, F, P⟩ => by
  obtain ⟨p1, p2, p3⟩ := bindE (P := fun r => PostS c W τ r D) (show PostS c W τ ((fa δ).bind _) D from P)
  refine seqE F (fun cl fs δ' e => p1 cl fs δ' e σ) (fun e => p2 e) fun v δ1 e1 y H1 F1 o1 => ?_
  obtain ⟨O, F1⟩ := F1
  exact p3 _ e1 σ H1 ⟨O, F1.sub sub1⟩
/-- if -/
def iffF (ta : En → R (Bool × En)) (fs fs2 : En → R (Fl × En)) : En → R (Fl × En) := fun δ => (ta δ).bind fun (k, δ1) => if k then fs δ1 else fs2 δ1
theorem s_iff {cc : Expr} {a b : List Stmt} (hc : PT X cc (rdT c W ta)) (ha : PSs X a (rdS c W fs)) (hb : PSs X b (rdS c W fs2)) : PS X (.If cc a b pos) (rdS c W (iffF ta fs fs2)) := psOf (ps_if hc ha hb) fun D σ H ⟨δ, τ, F, P⟩ => by
  obtain ⟨p1, p2, p3⟩ := bindE (P := fun r => PostS c W τ r D) (show PostS c W τ ((ta δ).bind _) D from P)
  refine seqT F (fun cl fs δ' e => p1 cl fs δ' e σ) (fun e => p2 e) fun k δ1 e1 H1 F1 => ?_
  have h := p3 _ e1
  cases k <;> simp only [if_true, if_false, Bool.false_eq_true] at h ⊢
  · exact ⟨δ1, τ, F1, h⟩
  · exact ⟨δ1, τ, F1, h⟩
/-- x[k] = e, x an owned list -/
def stiF (i : Nat) (fk fa : En → R (Vl × En)) : En → R (Fl × En) := fun δ => (fa δ).bind fun (v, δ1) => (R.ofO (cv v)).bind fun d => (match gS δ1 i with | .ow _ => fk δ1 | _ => .no).bind fun (w, δ2) => (match dv δ2 w, gS δ2 i with
    | some (.int j), .ow xs => (R.ofO (ixN xs.length j)).bind fun n => .ok (.nx, δ2.set i (.ow (xs.set n d)))
    | _, _ => .no)
theorem s_stiR {i : Nat} {fk : En → R (Vl × En)} : ∀ D σ H, rdS c W (stiF i fk fa) D σ H → tAsg (rdE c W fa) (gSub (tVar i) (rdE c W fk) rSetL) D σ H := by
  rintro D σ H ⟨δ, τ, F, P⟩
  obtain ⟨p1, p2, p3⟩ := bindE (P := fun r => PostS c W τ r D) (show PostS c W τ ((fa δ).bind _) D from P)
  refine seqE F (fun cl fs δ' e => p1 cl fs δ' e σ) (fun e => p2 e) fun v δ1 e1 y H1 F1 o1 => ?_
  obtain ⟨d, ed, h⟩ := bindO (P := fun r => PostS c W τ r D) (p3 _ e1) (fun z => z)
  obtain ⟨O, F1⟩ := F1
  obtain ⟨O1, F2⟩ := F1.give1 ed
  obtain ⟨q1, q2, q3⟩ := bindE (P := fun r => PostS c W τ r D) h
  obtain ⟨vi, hvi, hmt⟩ : ∃ v, σ[i]? = some (some v) ∧ (match gS δ1 i with | .ow _ => fk δ1 | _ => .no) = fk δ1 := by
    cases hg : gS δ1 i with
    | ow zs =>
      obtain ⟨a, ys, e3, _⟩ := F2.owSlot hg
      exact ⟨_, e3, rfl⟩
    | un => exact (q2 (by rw [hg])).elim
    | fz d => exact (q2 (by rw [hg])).elim
    | ob cl fs => exact (q2 (by rw [hg])).elim
    | xc cl fs => exact (q2 (by rw [hg])).elim
  rw [hmt] at q1 q2 q3
  refine ⟨vi, hvi, ?_⟩
  refine seqE ⟨O1, F2⟩ (fun cl fs δ' e => ExK.weak (q1 cl fs δ' e σ) sub1) (fun e => q2 e) fun w δ2 e2 z H2 F3 o2 => ?_
  have h := q3 _ e2
  simp only at h
  split at h
  case h_2 => exact h.elim
  case h_1 j xs edv hgs =>
  obtain ⟨n, en, h⟩ := bindO (P := fun r => PostS c W τ r D) h (fun z => z)
  obtain ⟨O3, F3⟩ := F3
  have hz := (F3.den List.mem_cons_self o2 edv).int
  obtain ⟨a, ys, e3, e4, r⟩ := F3.owSlot hgs
  rw [hvi] at e3; cases e3
  have ry : Rep c.k O3 H2 y d := F3.fr.ok _ (List.mem_append_left _ (List.mem_cons_of_mem _ List.mem_cons_self))
  exact ⟨a, ys, j, n, rfl, hz, e4, by rw [r.length]; exact en, h σ _ ⟨O3, (F3.sub sub2).writeS hgs hvi (r.set n ry)⟩⟩

/-! ## unpacking, loops -/
def gTupOrLst (K : PySem.W.Frag) (n : Nat) (t : TGs) : TG := fun v σ H Q => gTup K n t v σ H Q ∨ gLst K n t v σ H Q
theorem s_unpR {is : List Nat} (hK : X.K = c.k.K) : ∀ D σ H, rdS c W (unpF c.bd is fa) D σ H → tAsg (rdE c W fa) (gTup X.K is.length (gNs is)) D σ H ∨ tAsg (rdE c W fa) (gLst X.K is.length (gNs is)) D σ H := by
  rintro D σ H ⟨δ, τ, F, P⟩
  have hl : ∀ {is : List Nat} {ds : List B.D} {δ δ' : En}, bindN c.bd is ds δ = some δ' → is.length = ds.length := by
    intro is
    induction is with
    | nil => intro ds δ δ' h; cases ds with | nil => rfl | cons _ _ => cases h
    | cons i is ih =>
      intro ds δ δ' h
      cases ds with
      | nil => cases h
      | cons d ds =>
        simp only [bindN] at h
        split at h
        · cases h
        · simp [ih h]
  obtain ⟨p1, p2, p3⟩ := bindE (P := fun r => PostS c W τ r D) (show PostS c W τ ((fa δ).bind _) D from P)
  cases e1 : fa δ with
  | no => exact (p2 e1).elim
  | ex cl f' δ' => exact .inl (seqE F (fun cl' fs' δ'' e => by rw [e1] at e; cases e; exact p1 _ _ _ e1 σ) (fun e => by rw [e1] at e; cases e) fun v δ1 e => by rw [e1] at e; cases e)
  | ok q =>
    obtain ⟨v, δ1⟩ := q
    obtain ⟨d, ed, h⟩ := bindO (P := fun r => PostS c W τ r D) (p3 _ e1) (fun z => z)
    have run : ∀ {T : V → Hp → Prop}, (∀ (x : V) (O : Addr → Prop) (H1 : Hp), FO c O δ1 ((some x, .fz d) :: τ) σ H1 → T x H1) → rdE c W fa σ H T := fun {T} hT =>
      seqE F (fun cl' fs' δ'' e => by rw [e1] at e; cases e) (fun e => by rw [e1] at e; cases e) fun v' δ1' e x H1 F1 o1 => by
        rw [e1] at e; cases e
        obtain ⟨O, F1⟩ := F1
        obtain ⟨O', F2⟩ := F1.give1 ed
        exact hT x O' H1 F2
    cases d with
    | tup ds =>
      refine .inl (run fun x O H1 F1 => ?_)
      have r := F1.fr.ok _ (List.mem_append_left _ List.mem_cons_self)
      simp only at h
      obtain ⟨δ2, eb, h⟩ := bindO (P := fun r => PostS c W τ r D) h (fun z => z)
      cases r with
      | tup t r => exact ⟨_, _, rfl, hK ▸ t.sq, by rw [r.length, hl eb], bindN_ok hK (F1.sub sub1) r eb fun σ' F' _ => h σ' H1 ⟨O, F'⟩⟩
    | lst ds =>
      refine .inr (run fun x O H1 F1 => ?_)
      have r := F1.fr.ok _ (List.mem_append_left _ List.mem_cons_self)
      simp only at h
      obtain ⟨δ2, eb, h⟩ := bindO (P := fun r => PostS c W τ r D) h (fun z => z)
      cases r with
      | lst n t r => exact ⟨_, _, rfl, SqL.of t, by rw [r.length, hl eb], bindN_ok hK (F1.sub sub1) r eb fun σ' F' _ => h σ' H1 ⟨O, F'⟩⟩
    | _ => exact h.elim
def forF (bd : List Nat) (tg : Tg) (fi : En → R (List D × En)) (fs : En → R (Fl × En)) : En → R (Fl × En) := fun δ => (fi δ).bind fun (items, δ1) => loop (bindT bd tg) fs items δ1
theorem s_forR {tg : Tg} {fi : En → R (List D × En)} (hK : X.K = c.k.K) : ∀ D σ H, rdS c W (forF c.bd tg fi fs) D σ H → tFor (rdI c W fi) (gT X.K tg) (rdS c W fs) D σ H := by
  rintro D σ H ⟨δ, τ, F, P⟩
  obtain ⟨p1, p2, p3⟩ := bindE (P := fun r => PostS c W τ r D) (show PostS c W τ ((fi δ).bind _) D from P)
  refine ⟨δ, τ, F, ?_⟩
  cases e1 : fi δ with
  | no => exact p2 e1
  | ex cl fs δ' => exact p1 _ _ _ e1 σ
  | ok p =>
    obtain ⟨items, δ1⟩ := p
    have h : PostS c W τ (loop (bindT c.bd tg) fs items δ1) D := p3 _ e1
    clear p1 p2 p3 P
    intro J H1 en F1 wk
    refine ⟨fun i m σ H => m = items.length - i ∧ i ≤ items.length ∧ ∃ O δ, FO c O δ (en ++ τ) σ H ∧ PostS c W τ (loop (bindT c.bd tg) fs (items.drop i) δ) D, ?_, ?_⟩
    · obtain ⟨O1, F1⟩ := F1
      exact ⟨_, rfl, Nat.zero_le _, O1, δ1, F1, h⟩
    · rintro i m σ2 H2 ⟨rfl, hi, O, δ, F2, el⟩
      obtain ⟨w1, w2⟩ := wk O δ _ _ _ F2
      by_cases hlt : i < items.length
      · refine .inr ?_
        obtain ⟨go, yl⟩ := w1 i _ (List.getElem?_eq_getElem hlt)
        refine ⟨go, fun σ H => ∃ O δ, FO c O δ (en ++ τ) σ H ∧ PostS c W τ (loop (bindT c.bd tg) fs (items.drop (i + 1)) δ) D,
          fun σ' H' nx => ⟨_, (by omega : items.length - (i + 1) < _), rfl, hlt, nx⟩, fun x H3 y => ?_⟩
        obtain ⟨O3, F3⟩ := yl x H3 y
        rw [List.drop_eq_getElem_cons hlt] at el
        simp only [loop] at el
        cases eb : bindT c.bd tg items[i] δ with
        | none => rw [eb] at el; exact el.elim
        | some δ3 =>
        rw [eb] at el
        simp only [R.ofO, R.bind] at el
        refine bindT_ok hK F3 eb fun σ3 F4 wz => ?_
        refine ⟨δ3, _, ⟨O3, F4⟩, ?_⟩
        cases et : fs δ3 with
        | no => rw [et] at el; exact el.elim
        | ex cl f' δ' =>
          rw [et] at el
          exact fun σ => (el σ).weak (List.sublist_append_right _ _)
        | ok pt =>
        obtain ⟨fl, δ4⟩ := pt
        rw [et] at el
        cases fl with
        | nx => exact fun σ H ⟨O, F5⟩ => ⟨O, δ4, F5, el⟩
        | ct => exact fun σ H ⟨O, F5⟩ => ⟨O, δ4, F5, el⟩
        | bk => exact fun σ H ⟨O, F5⟩ => el σ H ⟨O, F5.sub (List.sublist_append_right _ _)⟩
        | rt v => exact ⟨el.1, fun σ x H ⟨O, F5⟩ => el.2 σ x H ⟨O, F5.sub ((List.sublist_append_right _ _).cons_cons _)⟩⟩
      · have e : i = items.length := by omega
        subst e
        rw [List.drop_length] at el
        simp only [loop] at el
        exact .inl ⟨w2, el σ2 H2 ⟨O, F2.sub (List.sublist_append_right _ _)⟩⟩
def whlF (ta : En → R (Bool × En)) (fs : En → R (Fl × En)) : En → R (Fl × En) := fun δ => whl ta fs 1000000 δ
theorem s_whlR : ∀ D σ H, rdS c W (whlF ta fs) D σ H → tWhile (rdT c W ta) (rdS c W fs) D σ H := by
  rintro D σ H ⟨δ, τ, F, P⟩
  refine ⟨fun n σ H => ∃ δ, FS c δ τ σ H ∧ PostS c W τ (whl ta fs n δ) D, ⟨_, δ, F, P⟩, ?_⟩
  rintro n σ2 H2 ⟨δ2, F2, el⟩
  cases n with
  | zero => exact el.elim
  | succ n =>
    simp only [whl] at el
    obtain ⟨p1, p2, p3⟩ := bindE (P := fun r => PostS c W τ r D) el
    refine seqT F2 (fun cl fs δ' e => p1 cl fs δ' e σ2) (fun e => p2 e) fun k δ3 e1 H3 F3 => ?_
    have h := p3 _ e1
    cases k with
    | false => simp only [Bool.false_eq_true, if_false] at h ⊢; exact h σ2 H3 F3
    | true =>
      simp only [if_true] at h ⊢
      refine ⟨fun σ H => ∃ δ, FS c δ τ σ H ∧ PostS c W τ (whl ta fs n δ) D, fun σ' H' nx => ⟨n, Nat.lt_succ_self n, nx⟩, δ3, τ, F3, ?_⟩
      cases et : fs δ3 with
      | no => rw [et] at h; exact h.elim
      | ex cl f' δ' => rw [et] at h; exact h
      | ok pt =>
      obtain ⟨fl, δ4⟩ := pt
      rw [et] at h
      cases fl with
      | nx => exact fun σ H F5 => ⟨δ4, F5, h⟩
      | ct => exact fun σ H F5 => ⟨δ4, F5, h⟩
      | bk => exact h
      | rt v => exact h
end
end B
namespace B
open PySem PySem.Spec L2
open PyProof.Rows hiding St

/-! ## isinstance -/
/-- what of the text a class of ours must have -/
structure ClsF (K : PySem.W.Frag) (C : Addr) : Prop where
  cl : Cls K C
  ha : PySem.W.findIn K (.ref C) "__class__" = some (some (.builtin "object.__class__"))
  hn : PySem.W.specialIn K (.builtin "object.__class__") "__get__" = some (some (.builtin "getset_descriptor.__get__"))
  htk : PySem.W.takesIn K (.builtin "object.__class__") = some true
  hm : PySem.W.mroIn K C (.type "object") = some true
def tyD (k : Kt) : D → Value
  | .non => .type "NoneType"
  | .bl _ => .type "bool"
  | .int _ => .type "int"
  | .str _ => .type "str"
  | .tup _ => .type "tuple"
  | .lst _ => .type "list"
  | .ro _ => .type "list"
  | .obj c _ => .ref (k.ct c)
  | .tbl _ => .type "dict"
def tyV (k : Kt) : Ty → V × Value
  | .int => (.ty "int", .type "int")
  | .bool => (.ty "bool", .type "bool")
  | .str => (.ty "str", .type "str")
  | .list => (.ty "list", .type "list")
  | .tuple => (.ty "tuple", .type "tuple")
  | .own c => (.ref (k.ct c), .ref (k.ct c))
  | .verr => (.ty "ValueError", .type "ValueError")
def tyName : Ty → Str
  | .int => "int" | .bool => "bool" | .str => "str" | .list => "list" | .tuple => "tuple" | .own _ => "" | .verr => "ValueError"
def tyRaw : Ty → String
  | .int => "int" | .bool => "bool" | .str => "str" | .list => "list" | .tuple => "tuple" | .own _ => "" | .verr => "ValueError"
def baseT : List String := ["NoneType", "bool", "int", "str", "tuple", "list"]
/-- the facts of isinstance -/
structure IsF (k : Kt) (nc nt : Nat) (sub : Nat → Nat → Bool) : Prop where
  cf : ∀ c, c < nc → ClsF k.K (k.ct c)
  kn : ∀ c, c < nt → ∀ t ∈ baseT, PySem.W.kitOne k.K (.type t) (.ref (k.ct c)) = some false
  kb : ∀ c, c < nc → ∀ t ∈ "ValueError" :: baseT, PySem.W.kitOne k.K (.ref (k.ct c)) (.type t) = some false
  ko : ∀ c, c < nc → ∀ c', c' < nt → PySem.W.kitOne k.K (.ref (k.ct c)) (.ref (k.ct c')) = some (sub c c')
def okTy (nt : Nat) : Ty → Bool
  | .own c => decide (c < nt)
  | _ => true
section
variable {k : Kt} {nc nt : Nat} {sub : Nat → Nat → Bool} {O : Addr → Prop} {H : Hp} {x : V} {d : D}
theorem den_ty (I : IsF k nc nt sub) (h : Den k O H x d) (hk : knwD nc d = true) : TyX k.K H x (tyD k d) := by
  cases d with
  | non => rw [h.non]; exact .base .non
  | bl b => rw [h.bl]; exact .base (.bl b)
  | int b => rw [h.int]; exact .base (.int b)
  | str b => rw [h.str]; exact .base (.str b)
  | tup ds =>
    obtain ⟨a, xs, rfl, t, _⟩ := h.tup
    rcases t with ⟨_, e⟩ | ⟨o, its, n, e1, e2, _⟩
    · exact .base (.tup e)
    · exact .kTuple e1 e2
  | lst ds => obtain ⟨a, xs, rfl, e, _⟩ := h; exact .base (.lst e)
  | ro ds =>
    obtain ⟨a, xs, rfl, t, _⟩ := h.ro
    rcases t with ⟨_, o, e⟩ | ⟨o, its, n, e1, e2, _⟩
    · exact .base (.frz e)
    · exact .kList e1 e2
  | obj c fs =>
    obtain ⟨a, dx, fvs, rfl, e, _⟩ := h
    have F := I.cf c (by simpa [knwD] using hk)
    exact .base (.ins e F.cl F.ha F.hn F.htk F.hm)
  | tbl fs => simp [knwD] at hk
theorem kit_baseB : ∀ a ∈ baseT, ∀ b ∈ ["int", "bool", "str", "list", "tuple", "ValueError"], kitB a b = some (a == b || (a == "bool" && b == "int")) := by decide +kernel
theorem kit_base {a b : String} (ha : a ∈ baseT) (hb : b ∈ ["int", "bool", "str", "list", "tuple", "ValueError"]) : PySem.W.kitOne k.K (.type a) (.type b) = some (a == b || (a == "bool" && b == "int")) := by
  exact kit_ty (kit_baseB a ha b hb)
theorem kit_one (I : IsF k nc nt sub) {t : Ty} (hk : knwD nc d = true) (ht : okTy nt t = true) : PySem.W.kitOne k.K (tyD k d) (tyV k t).2 = some (isT sub t d) := by
  cases d with
  | obj c fs =>
    have hc : c < nc := by simpa [knwD] using hk
    cases t with
    | own c' => exact I.ko c hc c' (by simpa [okTy] using ht)
    | _ => exact I.kb c hc _ (by simp [baseT])
  | tbl fs => simp [knwD] at hk
  | _ =>
    cases t with
    | own c' => exact I.kn c' (by simpa [okTy] using ht) _ (by simp [baseT])
    | _ => exact kit_base (by simp [baseT]) (by simp)
theorem kit_any (I : IsF k nc nt sub) (hk : knwD nc d = true) : ∀ {ts : List Ty}, (∀ t ∈ ts, okTy nt t = true) → PySem.W.kitAny k.K (tyD k d) (ts.map fun t => (tyV k t).2) = some (ts.any fun t => isT sub t d)
  | [], _ => kitAny_nil
  | t :: ts, h => by
    have h2 := kit_any I hk fun u hu => h u (List.mem_cons_of_mem _ hu)
    refine kitAny_cons (kit_one I hk (h t List.mem_cons_self)) (fun e => ?_) fun e => ?_
    · rw [h2, List.any_cons, e]; rfl
    · rw [List.any_cons, e]; rfl
theorem tyV_cls {t : Ty} : ClsV (tyV k t).1 (tyV k t).2 := by cases t <;> first | exact .ty _ | exact .own _
theorem tyV_all : ∀ {ts : List Ty}, Paired ClsV (ts.map fun t => (tyV k t).1) (ts.map fun t => (tyV k t).2)
  | [] => .nil
  | _ :: _ => .cons tyV_cls tyV_all
end
/-- something new that no entry tells of -/
theorem FR.junk {c : Cst} {O : Addr → Prop} {es : List Et} {H : Hp} (F : FR c O es H) {p : Addr} (hp : H p = none) (o : HO) : FR c O es (upd H p o) := by
  have s : Stays O H O (upd H p o) := stays_upd (.inl hp) fun _ _ h => h
  refine ⟨F.o0, F.o1, fun a h => ?_, fun e h => ?_, F.nd, F.nw, fun a u e n => ?_, F.on⟩
  · obtain ⟨u, e⟩ := F.tr a h
    exact ⟨u, by rw [upd_ne (ne_of_none e hp)]; exact e⟩
  · refine (F.ok e h).mono s fun a ha => ?_
    have q := oa_O (F.ok e h) ha
    exact ⟨q, upd_ne fun z => F.none_O hp (z ▸ q)⟩
  · have q := F.pr a u e n
    rw [upd_ne (ne_of_none q hp)]; exact q
theorem FO.junk {c : Cst} {O : Addr → Prop} {δ : En} {τ : List Et} {σ : St} {H : Hp} (F : FO c O δ τ σ H) {p : Addr} (hp : H p = none) (o : HO) : FO c O δ τ σ (upd H p o) := ⟨F.fr.junk hp o, F.len, F.bs⟩
section
variable {X : Cx} {c : Cst} {W : WX} {fa : En → R (Vl × En)} {e e1 : Expr} {es : List Expr} {pos p : Pos} {lv nc nt : Nat} {sub : Nat → Nat → Bool} {x : Str}
def isiF (nc : Nat) (sub : Nat → Nat → Bool) (ts : List Ty) (fa : En → R (Vl × En)) : En → R (Vl × En) := fun δ => (fa δ).bind fun (v, δ1) => (R.ofO (dv δ1 v)).bind fun d => (R.ofO (isiD nc sub ts d)).bind fun b => .ok (.pl (.bl b), δ1)
theorem isi_pre {ts : List Ty} {T : V → Hp → Prop} {σ : St} {H : Hp} {Q : VK} (h : rdE c W (isiF nc sub ts fa) σ H Q) (hT : ∀ (x : V) (O : Addr → Prop) (δ : En) (τ : List Et) (H1 : Hp) (d : D), FO c O δ τ σ H1 → Den c.k O H1 x d → knwD nc d = true →
    (∀ O' H', FO c O' δ τ σ H' → Q (.bl (ts.any fun t => isT sub t d)) H') → T x H1) : rdE c W fa σ H T := by
  obtain ⟨δ, τ, F, P⟩ := h
  obtain ⟨p1, p2, p3⟩ := bindE (P := fun r => Post c W σ τ r Q) (show Post c W σ τ ((fa δ).bind _) Q from P)
  refine seqE F (fun cl fs δ' e => p1 cl fs δ' e) (fun e => p2 e) fun v δ1 e1 y H1 F1 o1 => ?_
  obtain ⟨d, ed, h⟩ := bindO (P := fun r => Post c W σ τ r Q) (p3 _ e1) (fun z => z)
  obtain ⟨b, eb, h⟩ := bindO (P := fun r => Post c W σ τ r Q) h (fun z => z)
  obtain ⟨O, F1⟩ := F1
  unfold isiD at eb
  split at eb
  · rename_i hk
    cases eb
    refine hT y O δ1 τ H1 d (F1.sub sub1) (F1.den List.mem_cons_self o1 ed) hk fun O' H' F' => h _ H' ⟨O', F'.addFz (.bl _)⟩ True.intro
  · cases eb
theorem s_isi1 {t : Ty} (I : IsF c.k nc nt sub) (hK : X.K = c.k.K) (ht : okTy nt t = true) (ha : PE X e (rdE c W fa)) (hc : PE X e1 (tC (tyV c.k t).1)) (hg : Gl X "isinstance") (hm : X.mg "isinstance" = none)
    (h1 : starEach [e, e1] X.env = (false, eval e X.env) :: starEach [e1] X.env) (h2 : starEach [e1] X.env = (false, eval e1 X.env) :: starEach [] X.env) : PE X (.Call (.Name "isinstance" p) [e, e1] [] pos) (rdE c W (isiF nc sub [t] fa)) := by
  refine peOf (pe_callB call_isi hg hm (by decide +kernel) (pa_cons ha (pa_cons hc pa_nil h2) h1) (by decide) (by decide) h1 (by rw [h2]; rfl)) fun σ H Q h => ?_
  refine isi_pre h fun x O δ τ H1 d F dn hk q => ?_
  refine ⟨x, _, tyD c.k d, (tyV c.k t).2, isT sub t d, rfl, tyV_cls, hK ▸ den_ty I dn hk, hK ▸ kit_one I hk ht, ?_⟩
  have := q O H1 F
  simpa using this
theorem s_isiN {ts : List Ty} {j : Nat} {p2 : Pos} (I : IsF c.k nc nt sub) (hK : X.K = c.k.K) (ht : ∀ t ∈ ts, okTy nt t = true) (ha : PE X e (rdE c W fa)) (hc : PA X es (fun σ H Q => Q (ts.map fun t => (tyV c.k t).1) H)) (hl : ts.length ≤ sizeLine) (hg : Gl X "isinstance") (hm : X.mg "isinstance" = none)
    (h1 : starEach [e, .Tuple es j p2] X.env = (false, eval e X.env) :: starEach [.Tuple es j p2] X.env) : PE X (.Call (.Name "isinstance" p) [e, .Tuple es j p2] [] pos) (rdE c W (isiF nc sub ts fa)) := by
  refine peOf (pe_callB call_isiT hg hm (by decide +kernel) (pa_cons ha (pa_cons (pe_tup hc) pa_nil rfl) h1) (by decide) (by decide) h1 rfl) fun σ H Q h => ?_
  refine isi_pre h fun x O δ τ H1 d F dn hk q => ?_
  refine ⟨by rw [List.length_map]; exact hl, fun tp hp => ?_⟩
  have F' := F.junk hp (.tup (ts.map fun t => (tyV c.k t).1))
  have s : Stays O H1 O (upd H1 tp (.tup (ts.map fun t => (tyV c.k t).1))) := stays_upd (.inl hp) fun _ _ h => h
  have dn' : Den c.k O (upd H1 tp (.tup (ts.map fun t => (tyV c.k t).1))) x d := by
    cases d with
    | lst ds => obtain ⟨a, xs, rfl, e, r⟩ := dn; exact ⟨a, xs, rfl, by rw [upd_ne (ne_of_none e hp)]; exact e, r.mono s⟩
    | obj cc fs => obtain ⟨a, dx, xs, rfl, e, r⟩ := dn; exact ⟨a, dx, xs, rfl, by rw [upd_ne (ne_of_none e hp)]; exact e, r.mono s⟩
    | _ => exact Rep.mono s dn
  exact ⟨x, tp, _, tyD c.k d, _, _, rfl, upd_same, tyV_all, hK ▸ den_ty I dn' hk, hK ▸ kit_any I hk ht, q O _ F'⟩

/-! ## a field -/
theorem RepF.put {k : Kt} {O : Addr → Prop} {H : Hp} {f : Str} {u : V} {x : D} (rx : Rep k O H u x) : ∀ {v : List (Str × V)} {d : List (Str × D)}, RepF k O H v d → RepF k O H (putF f u v) (putD f x d)
  | _, _, .nil => .cons rx .nil
  | _, _, .cons (f := g) r t => by
    unfold putF putD
    by_cases h : g = f
    · rw [if_pos h, if_pos h]; exact .cons rx t
    · rw [if_neg h, if_neg h]; exact .cons r (t.put rx)
theorem RepF.len {k : Kt} {O : Addr → Prop} {H : Hp} : ∀ {v : List (Str × V)} {d : List (Str × D)}, RepF k O H v d → v.length = d.length
  | _, _, .nil => rfl
  | _, _, .cons _ t => by simp [t.len]
/-- fields of classes -/
def FlF (k : Kt) (o : Orc) : Prop := ∀ c f, c < o.nc → o.fl c f = true → Cls k.K (k.ct c) ∧ NoAttr k.K (k.ct c) f
theorem FO.addDen {O : Addr → Prop} {δ : En} {τ : List Et} {σ : St} {H : Hp} {v : V} {d : D} (F : FO c O δ τ σ H) (r : Rep c.k O H v d) : FO c O δ ((some v, .fz d) :: τ) σ H := F.addFz r
theorem s_fld {o : Orc} {f : Str} (I : FlF c.k o) (hK : X.K = c.k.K) (ha : PE X e (rdE c W fa)) (hb : attributeBase e f X.env (eval e X.env) = eval e X.env) : PE X (.Attribute e f pos) (rdE c W (do1 fa fun d => (fldD o f d).map .pl)) :=
  peOf (pe_fld ha hb) (s_one fun O δ τ σ H Q x v d z F h hz q => by
    cases d with
    | obj cl fs =>
      obtain ⟨a, dx, fvs, rfl, e, r⟩ := h
      obtain ⟨d', e1, rfl⟩ := Option.map_eq_some_iff.mp hz
      by_cases hc : cl < o.nc ∧ o.fl cl f = true
      · simp only [fldD, if_pos hc] at e1
        obtain ⟨k1, k2⟩ := I cl f hc.1 hc.2
        obtain ⟨u, e2, r2⟩ := r.look e1
        exact ⟨a, _, dx, fvs, u, rfl, e, hK ▸ k1, hK ▸ k2, e2, q u H ⟨O, (F.sub sub1).addFz r2⟩ True.intro⟩
      · simp only [fldD, if_neg hc] at e1
        cases e1
    | _ => cases hz)
end
end B
namespace B
open PySem PySem.Spec L2
open PyProof.Rows hiding St

/-! ## a new object -/
theorem FR.newOb {c : Cst} {O : Addr → Prop} {es : List Et} {H : Hp} (F : FR c O es H) {p dx : Addr} {cl : Nat} (hp : H p = none) :
    FR c (fun a => O a ∨ a = p) ((some (.ref p), .ob cl []) :: es) (upd H p (.ins (c.k.ct cl) dx [])) := by
  have s : Stays O H (fun a => O a ∨ a = p) (upd H p (.ins (c.k.ct cl) dx [])) := stays_upd (.inl hp) fun a n h => h.elim id fun z => absurd z n
  have no : ¬ O p := F.none_O hp
  refine ⟨fun a h => .inl (F.o0 a h), fun a h => .inl (F.o1 a h), fun a h => ?_, fun e h => ?_, ?_, fun a h => ?_, fun a u e n => ?_, fun a h => h.elim (F.on a) fun z => .inr (z ▸ F.none_H0 hp)⟩
  · rcases h with h | rfl
    · obtain ⟨u, e⟩ := F.tr a h
      exact ⟨u, by rw [upd_ne (ne_of_none e hp)]; exact e⟩
    · exact ⟨_, upd_same⟩
  · rcases List.mem_cons.mp h with z | h
    · rw [z]; exact ⟨.inr rfl, dx, [], upd_same, .nil⟩
    · refine (F.ok e h).mono s fun a ha => ?_
      have q := oa_O (F.ok e h) ha
      exact ⟨.inl q, upd_ne fun z => no (z ▸ q)⟩
  · simp only [List.flatMap_cons, oa, List.singleton_append, List.nodup_cons]
    exact ⟨fun h => no (F.own_O h), F.nd⟩
  · simp only [List.flatMap_cons, oa, List.singleton_append, List.mem_cons] at h
    rcases h with rfl | h
    · exact .inr (F.none_H0 hp)
    · exact F.nw a h
  · have q := F.pr a u e n
    rw [upd_ne (ne_of_none q hp)]; exact q
section
variable {c : Cst} {O : Addr → Prop} {δ : En} {τ : List Et} {σ : St} {H : Hp}
theorem FO.newOb (F : FO c O δ τ σ H) {p dx : Addr} {cl : Nat} (hp : H p = none) : FO c (fun a => O a ∨ a = p) δ ((some (.ref p), .ob cl []) :: τ) σ (upd H p (.ins (c.k.ct cl) dx [])) := ⟨F.fr.newOb hp, F.len, F.bs⟩
theorem FO.freezeTO (F : FO c O δ τ σ H) {τ' : List Et} {a : Addr} {cl : Nat} {fs : List (Str × D)} (h : τ.Perm ((some (.ref a), .ob cl fs) :: τ')) : FO c (fun b => O b ∧ b ≠ a) δ ((some (.ref a), .fz (.obj cl fs)) :: τ') σ H :=
  ⟨(F.perm h).fr.freezeO rfl (F.temp_nl h (by simp [oa])), F.len, F.bs⟩
/-- a slot more for a while -/
theorem zip_push (h : σ.length = δ.length) (ov : Option V) (s : Sl) : (σ ++ [ov]).zip (δ ++ [s]) = σ.zip δ ++ [(ov, s)] := by rw [List.zip_append h]; rfl
theorem gS_push {s : Sl} {i : Nat} (h : i < δ.length) : gS (δ ++ [s]) i = gS δ i := by
  unfold gS
  rw [List.getD_eq_getElem?_getD, List.getD_eq_getElem?_getD, List.getElem?_append_left h]
theorem push_perm (τ l : List Et) (e : Et) : ((e :: τ) ++ l).Perm (τ ++ (l ++ [e])) := by
  have h : (e :: (τ ++ l)).Perm ((τ ++ l) ++ [e]) := (List.perm_append_singleton e (τ ++ l)).symm
  rw [List.append_assoc] at h
  exact h
theorem FO.bs_lt (F : FO c O δ τ σ H) : ∀ p ∈ c.Bs, p.1 < σ.length := fun p hp => (List.getElem?_eq_some_iff.mp (F.bs p hp).1).1
theorem FO.pushS {ov : Option V} {s : Sl} (F : FO c O δ ((ov, s) :: τ) σ H) : FO c O (δ ++ [s]) τ (σ ++ [ov]) H := by
  refine ⟨?_, by simp [F.len], fun p hp => ?_⟩
  · rw [zip_push F.len]
    exact F.fr.perm (push_perm τ _ _)
  · have hl := F.bs_lt p hp
    obtain ⟨b1, b2⟩ := F.bs p hp
    exact ⟨by rw [List.getElem?_append_left hl]; exact b1, by rw [gS_push (by rw [← F.len]; exact hl)]; exact b2⟩
theorem FO.popS {ov : Option V} {s : Sl} (F : FO c O (δ ++ [s]) τ (σ ++ [ov]) H) (hb : ∀ p ∈ c.Bs, p.1 < σ.length) : FO c O δ ((ov, s) :: τ) σ H := by
  have hl : σ.length = δ.length := by have := F.len; simp at this; exact this
  refine ⟨?_, hl, fun p hp => ?_⟩
  · have q := F.fr
    rw [zip_push hl] at q
    exact q.perm (push_perm τ _ _).symm
  · obtain ⟨b1, b2⟩ := F.bs p hp
    rw [List.getElem?_append_left (hb p hp)] at b1
    rw [gS_push (by rw [← hl]; exact hb p hp)] at b2
    exact ⟨b1, b2⟩
theorem VOk.push {ov : Option V} {x : V} {v : Vl} (h : VOk σ x v) : VOk (σ ++ [ov]) x v := by
  cases v with
  | al i =>
    have h : σ[i]? = some (some x) := h
    show (σ ++ [ov])[i]? = some (some x)
    rw [List.getElem?_append_left (List.getElem?_eq_some_iff.mp h).1]
    exact h
  | _ => exact True.intro
theorem VOks.push {ov : Option V} : ∀ {xs : List V} {vs : List Vl}, VOks σ xs vs → VOks (σ ++ [ov]) xs vs
  | [], [], _ => True.intro
  | _ :: _, _ :: _, h => ⟨h.1.push, VOks.push h.2⟩
theorem slA_push {s : Sl} : ∀ {vs : List Vl}, (∀ i ∈ als vs, i < δ.length) → vs.map (slA (δ ++ [s])) = vs.map (slA δ)
  | [], _ => rfl
  | .al i :: r, h => by
    rw [List.map_cons, List.map_cons, slA_push (vs := r) fun j hj => h j (by simp [als, hj])]
    show gS (δ ++ [s]) i :: _ = gS δ i :: _
    rw [gS_push (h i (by simp [als]))]
  | .pl d :: r, h => by
    rw [List.map_cons, List.map_cons, slA_push (vs := r) fun j hj => h j (by simp [als, hj])]
    rfl
  | .fr d :: r, h => by
    rw [List.map_cons, List.map_cons, slA_push (vs := r) fun j hj => h j (by simp [als, hj])]
    rfl
theorem giveBack_push {s : Sl} : ∀ {vs : List Vl} {ss : List Sl} {δ : En}, (∀ i ∈ als vs, i < δ.length) → giveBack (δ ++ [s]) vs ss = giveBack δ vs ss ++ [s]
  | [], _, _, _ => by simp only [giveBack]
  | .al i :: r, [], _, _ => by simp only [giveBack]
  | .pl i :: r, [], _, _ => by simp only [giveBack]
  | .fr i :: r, [], _, _ => by simp only [giveBack]
  | .al i :: r, t :: ss, δ, h => by
    show giveBack ((δ ++ [s]).set i t) r ss = giveBack (δ.set i t) r ss ++ [s]
    have e : (δ ++ [s]).set i t = δ.set i t ++ [s] := List.set_append_left i t (h i (by simp [als]))
    rw [e]
    exact giveBack_push fun j hj => by rw [List.length_set]; exact h j (by simp [als, hj])
  | .pl _ :: r, t :: ss, δ, h => giveBack_push (vs := r) fun j hj => h j (by simp [als, hj])
  | .fr _ :: r, t :: ss, δ, h => giveBack_push (vs := r) fun j hj => h j (by simp [als, hj])
end
section
variable {X : Cx} {c : Cst} {W : WX} {fa : En → R (Vl × En)} {fr : En → R (List Vl × En)} {e e1 : Expr} {es : List Expr} {pos p apos : Pos} {lv np j : Nat} {x : Str} {g : List Sl → R (Vl × List Sl)} {f : Addr} {fd : FuncData} {ps : List Str}
def makF (cl : Nat) (g : List Sl → R (Vl × List Sl)) (fr : En → R (List Vl × En)) : En → R (Vl × En) := fun δ => (fr δ).bind fun (vs, δ1) =>
      if (als vs).Nodup then endM cl δ1 vs (g (.ob cl [] :: vs.map (slA δ1))) else .no
theorem mak_end {cl : Nat} (hnp : ∀ as, as.length ≠ np → g as = .no) (hna : ∀ as v ss, g as = .ok (v, ss) → noAl v) {O : Addr → Prop} {τ : List Et} {σ : St} {H1 : Hp} {δ1 : En} {xs : List V} {vs : List Vl} {Q : VK}
    (F1 : FO c O δ1 (ents xs vs ++ τ) σ H1) (o1 : VOks σ xs vs) (h : Post c W σ τ (if (als vs).Nodup then endM cl δ1 vs (g (.ob cl [] :: vs.map (slA δ1))) else .no) Q) {y dx : Addr} (hy : H1 y = none) (hdx : H1 dx = none) (hne : dx ≠ y) :
    spB c.k g np (.ref y :: xs) (upd (upd H1 dx (.own y)) y (.ins (c.k.ct cl) dx [])) (fun v H2 => v = .non ∧ Q (.ref y) H2) (fun cls d H' => W cls d σ H') := by
  split at h
  case isFalse => exact h.elim
  case isTrue nd =>
  obtain ⟨O1, F2⟩ := F1.fzL
  have F3 := ((F2.junk hdx (.own y)).newOb (dx := dx) (cl := cl) (by rw [upd_ne (Ne.symm hne)]; exact hy)).pushS
  have hb := F2.bs_lt
  have hlt : ∀ i ∈ als vs, i < δ1.length := fun i hi => by rw [← F2.len]; exact o1.lt i hi
  have F4 : FO c (fun a => O1 a ∨ a = y) (δ1 ++ [.ob cl []]) (fzs (.ref y :: xs) (.al δ1.length :: vs) ++ τ) (σ ++ [some (.ref y)]) (upd (upd H1 dx (.own y)) y (.ins (c.k.ct cl) dx [])) := F3.addUn (v := none)
  have o4 : VOks (σ ++ [some (.ref y)]) (.ref y :: xs) (.al δ1.length :: vs) := by
    refine ⟨?_, o1.push⟩
    show (σ ++ [some (V.ref y)])[δ1.length]? = some (some (.ref y))
    rw [← F2.len]
    simp
  have nd4 : (als (.al δ1.length :: vs)).Nodup := by
    simp only [als, List.nodup_cons]
    exact ⟨fun z => Nat.lt_irrefl _ (hlt _ z), nd⟩
  have em : (Vl.al δ1.length :: vs).map (slA (δ1 ++ [.ob cl []])) = .ob cl [] :: vs.map (slA δ1) := by
    rw [List.map_cons, slA_push hlt]
    have : slA (δ1 ++ [Sl.ob cl []]) (.al δ1.length) = .ob cl [] := by
      show gS (δ1 ++ [Sl.ob cl []]) δ1.length = _
      unfold gS
      rw [List.getD_eq_getElem?_getD]
      simp
    rw [this]
  have pre := F4.pre o4 nd4
  rw [em] at pre
  have hl : xs.length = vs.length := o1.len
  have back : ∀ {en : List Et} {s0 : Sl} {ss : List Sl} {O' : Addr → Prop} {H' : Hp}, CallEnd c.k (fun a => O1 a ∨ a = y) (upd (upd H1 dx (.own y)) y (.ins (c.k.ct cl) dx [])) (.ref y :: xs) (.ob cl [] :: vs.map (slA δ1)) en (s0 :: ss) O' H' → FO c O' (giveBack δ1 vs ss) ((some (.ref y), s0) :: (en ++ τ)) σ H' := fun {en s0 ss O' H'} E => by
    rw [← em] at E
    have A := F4.after o4 nd4 E
    have eg : giveBack (δ1 ++ [.ob cl []]) (.al δ1.length :: vs) (s0 :: ss) = giveBack δ1 vs ss ++ [s0] := by
      show giveBack ((δ1 ++ [Sl.ob cl []]).set δ1.length s0) vs ss = _
      have : (δ1 ++ [Sl.ob cl []]).set δ1.length s0 = δ1 ++ [s0] := by
        rw [List.set_append_right _ _ (Nat.le_refl _)]
        simp
      rw [this]
      exact giveBack_push hlt
    rw [eg] at A
    exact A.popS hb
  refine ⟨_, .ob cl [] :: vs.map (slA δ1), pre.ln, ?_, pre.tr, pre.ok, pre.nd, ?_⟩
  · by_cases hn : (Sl.ob cl [] :: vs.map (slA δ1)).length = np
    · rw [← hn]; simp [hl]
    · rw [hnp _ hn] at h; exact h.elim
  · cases eg : g (.ob cl [] :: vs.map (slA δ1)) with
    | no => rw [eg] at h; exact h.elim
    | ok p =>
      obtain ⟨v, ss⟩ := p
      rw [eg] at h
      refine ⟨hna _ _ _ eg, fun z H' O' E => ?_⟩
      unfold endM at h
      split at h
      · rename_i cl' fs ss heq
        injection heq with heq
        injection heq with h1 h2
        subst h1 h2
        split at h
        · rename_i hc
          subst hc
          have A := back E
          have zn : z = .non := (A.fr.ok (some z, .fz .non) (List.mem_append_left _ (List.mem_cons_of_mem _ (List.mem_append_left _ (by simp [ent]))))).notNon
          have B := A.freezeTO (List.Perm.refl _)
          exact ⟨zn, h _ H' ⟨_, B.sub ((List.sublist_append_right _ _).cons_cons _)⟩ True.intro⟩
        · exact h.elim
      · rename_i heq; cases heq
      · exact h.elim
    | ex cl' fs ss =>
      rw [eg] at h
      cases ss with
      | nil => exact h.elim
      | cons s0 ss => exact fun H' O' d fvs E e1 r n => h H' d fvs O' ((back E).sub (List.sublist_cons_self _ _)) e1 r n
/-- C(e, ..) -/
theorem s_mak {cl : Nat} (G : Gg X c lv true) (tk : Takes X W) (hnp : ∀ as, as.length ≠ np → g as = .no) (hna : ∀ as v ss, g as = .ok (v, ss) → noAl v) (M : Mk X.K (c.k.ct cl) f) (F : FnG X.prog X.w X.K X.mg X.base j f fd ps (spB c.k g np)) (hj : (∀ as, g as = .no) ∨ j + 1 ≤ lv)
    (hg : Gl X x) (hm : X.mg x = some (.ref (c.k.ct cl))) (hb : Binds X.K fd ps []) (ha : PA X (e :: es) (rdA c W fr)) (hdb : (x == ("__debug__" : Str)) = false)
    (he : starEach (e :: es) X.env = (false, eval e X.env) :: starEach es X.env) (hpl : (backTo pos (starEach es X.env)).any (·.1) = false) : PE X (.Call (.Name x p) (e :: es) [] pos) (rdE c W (makF cl g fr)) := by
  refine ⟨fun pins s σ H Q I ⟨δ, τ, F0, P⟩ => ?_⟩
  obtain ⟨p1, p2, p3⟩ := bindE (P := fun r => Post c W σ τ r Q) (show Post c W σ τ ((fr δ).bind _) Q from P)
  have h : rdA c W fr σ H fun vs H1 => ∀ y dx, H1 y = none → H1 dx = none → dx ≠ y → spB c.k g np (.ref y :: vs) (upd (upd H1 dx (.own y)) y (.ins (c.k.ct cl) dx [])) (fun v H2 => v = .non ∧ Q (.ref y) H2) (fun cls d H' => W cls d σ H') := by
    refine seqA F0 (fun cl fs δ' e => p1 cl fs δ' e) (fun e => p2 e) fun vs δ1 e1 xs H1 F1 o1 y dx hy hdx hne => ?_
    obtain ⟨O, F1⟩ := F1
    exact mak_end hnp hna F1 o1 (p3 _ e1) hy hdx hne
  refine wpAny_Call_Name_kw (ld_glob I hg hm ?_ hdb)
  refine PySem.W.callWith_K (h₀ := X.base) I.ok.mod.kin M.kp (thn (ha.run pos pins s σ H _ I h) fun us s1 ⟨vs, H1, I1, r1, sp⟩ => ⟨I1.kIn, ?_⟩) he hpl
  have hq := sp (s1.heap.objs.size + 1) s1.heap.objs.size (I1.hok.fresh (Nat.le_succ _)) (I1.hok.fresh (Nat.le_refl _)) (Nat.ne_of_lt (Nat.lt_succ_self _))
  have I2 := Inv.made (C := c.k.ct cl) I1
  have r2 : Vals (V.ref (s1.heap.objs.size + 1) :: vs) (Value.ref (s1.heap.objs.size + 1) :: us) := .cons rfl r1
  have hl : (Value.ref (s1.heap.objs.size + 1) :: us ++ []).length = ps.length := by
    have e := r2.length
    rw [F.len _ _ _ _ hq] at e
    rw [List.append_nil]
    exact e.symm
  have b1 := hb { s1 with heap := (s1.heap.push PySem.W.emptyDict).push (PySem.W.instObj (c.k.ct cl) s1.heap.objs.size) } (Value.ref (s1.heap.objs.size + 1) :: us) I2.kIn hl
  rw [List.append_nil] at b1
  have room : Room (j + 1) X.A := hj.elim (fun hno => by
    obtain ⟨_, _, _, _, _, _, _, z⟩ := hq
    rw [hno] at z
    exact z.elim) fun hj => (G.room rfl).mono hj
  refine wpAny_call (make_map (f := f) I1.kIn M.makes M.init (beq_iff_eq.mp M.fn) (codeAny_mono (F.run _ X.stack _ _ ⟨Value.ref (s1.heap.objs.size + 1) :: us, []⟩ (Value.ref (s1.heap.objs.size + 1) :: us) _ _ _ (room.make (c.k.ct cl) us []) (by
    exact G.grd) (I2.env0.make (c.k.ct cl) us []) b1 r2 hq) fun res s2 hq' => ?_))
  match res, hq' with
  | .error er, hq' => exact tk er s2 (XE.of_call I2 (fun _ _ _ z => z) hq')
  | .ok (.ret u), hq' =>
    obtain ⟨v, H', I3, rv, ev, q3⟩ := I2.after hq'
    subst ev
    exact ⟨rv, ⟨V.ref (s1.heap.objs.size + 1), H', I3, rfl, q3⟩⟩
  | .ok .next, hq' => exact hq'.elim
  | .ok .brk, hq' => exact hq'.elim
  | .ok .cont, hq' => exact hq'.elim
end
end B
namespace B
open PySem PySem.Spec L2
open PyProof.Rows hiding St
section
variable {X : Cx} {c : Cst} {W : WX} {fa : En → R (Vl × En)} {fr : En → R (List Vl × En)} {e e1 ob : Expr} {es : List Expr} {pos p apos : Pos} {lv np j : Nat} {x : Str}
/-! ## a method of ours -/
def MtOk (P : Program) (w : World) (K : PySem.W.Frag) (mg : Str → Option Value) (base : Heap) (k : Kt) (lv : Nat) (o : Orc) : Prop := ∀ c m f, c < o.nc → o.mt c m = some f →
  ∃ fa fd ps np, Cls K (k.ct c) ∧ Meth K (k.ct c) m fa ∧ Binds K fd ps [] ∧ FnG P w K mg base lv fa fd ps (spB k (o.cl f) np) ∧ (∀ as, as.length ≠ np → o.cl f as = .no) ∧ (∀ as v ss, o.cl f as = .ok (v, ss) → noAl v)
def mtF (o : Orc) (m : Str) (fa : En → R (Vl × En)) (fr : En → R (List Vl × En)) : En → R (Vl × En) := fun δ => (fa δ).bind fun (v, δ1) => (R.ofO (mtd o m (dv δ1 v))).bind fun f => (fr δ1).bind fun (vs, δ2) =>
      if (als (v :: vs)).Nodup then endC δ2 (v :: vs) (o.cl f ((v :: vs).map (slA δ2))) else .no
theorem s_mt {o : Orc} {m : Str} (G : Gg X c lv true) (tk : Takes X W) (I0 : MtOk X.prog X.w X.K X.mg X.base c.k lv o) (ho : PE X ob (rdE c W fa)) (ha : PA X es (rdA c W fr)) (hb : attributeBase ob m X.env (eval ob X.env) = eval ob X.env)
    (hst : ∀ e es', es = e :: es' → starEach (e :: es') X.env = (false, eval e X.env) :: starEach es' X.env ∧ (backTo pos (starEach es' X.env)).any (·.1) = false) (hns : (backTo pos (starEach es X.env)).any (·.1) = false) (hnil : es = [] → fr = nilF) (hl : es.length < 29) (hline : (apos.endLine == pos.line) = true) :
    PE X (.Call (.Attribute ob m apos) es [] pos) (rdE c W (mtF o m fa fr)) := by
  refine ⟨fun pins s σ H Q I ⟨δ, τ, F0, P⟩ => ?_⟩
  obtain ⟨p1, p2, p3⟩ := bindE (P := fun r => Post c W σ τ r Q) (show Post c W σ τ ((fa δ).bind _) Q from P)
  have hform : methodCallForm (es.length + ([] : List Keyword).length) (backTo pos (starEach es X.env)) (backToKw pos (keywordEach [] X.env)) = true := by
    unfold methodCallForm
    have h1 : (backTo pos (starEach es X.env)).all (fun x => !x.1) = true := by
      rw [List.all_eq_true]
      intro q hq
      have := List.any_eq_false.mp hns q hq
      simpa using this
    rw [h1]
    show (true && true && decide (es.length + 0 + 0 < 30)) = true
    simp only [Bool.true_and, decide_eq_true_eq]
    omega
  have hpos : methodCallPos true ob X.env apos pos = pure pos := by unfold methodCallPos; simp [hline]
  -- the object, its class, the method
  have h0 : rdE c W fa σ H fun u H1 => ∃ (a : Addr) (cl f : Nat) (dx : Addr) (fvs : List (Str × V)), u = .ref a ∧ H1 a = some (.ins (c.k.ct cl) dx fvs) ∧ cl < o.nc ∧ o.mt cl m = some f ∧ fvs.lookup m = none ∧
      rdA c W fr σ H1 fun vs H2 => ∀ np, (∀ as, as.length ≠ np → o.cl f as = .no) → (∀ as v ss, o.cl f as = .ok (v, ss) → noAl v) → spB c.k (o.cl f) np (u :: vs) H2 Q (fun cls d H' => W cls d σ H') := by
    refine seqE F0 (fun cl fs δ' e => p1 cl fs δ' e) (fun e => p2 e) fun v δ1 e1 u H1 F1 o1 => ?_
    obtain ⟨f, ef, h⟩ := bindO (P := fun r => Post c W σ τ r Q) (p3 _ e1) (fun z => z)
    obtain ⟨O, F1⟩ := F1
    cases ed : dv δ1 v with
    | none => rw [ed] at ef; cases ef
    | some d =>
    rw [ed] at ef
    cases d with
    | obj cl fs =>
      unfold mtd at ef
      simp only at ef
      split at ef
      case isFalse => cases ef
      case isTrue hc =>
      obtain ⟨a, dx, fvs, rfl, ea, rr⟩ := F1.den List.mem_cons_self o1 ed
      refine ⟨a, cl, f, dx, fvs, rfl, ea, hc.1, ef, rr.lookN (by simpa using hc.2), ?_⟩
      obtain ⟨q1, q2, q3⟩ := bindE (P := fun r => Post c W σ τ r Q) h
      refine seqA ⟨O, F1⟩ (fun cl fs δ' e => ExK.weak (q1 cl fs δ' e) sub1) (fun e => q2 e) fun vs δ2 e2 xs H2 F2 o2 np hnp hna => ?_
      obtain ⟨O2, F2⟩ := F2
      have F3 : FO c O2 δ2 (ents (.ref a :: xs) (v :: vs) ++ τ) σ H2 := F2.perm List.perm_middle
      exact cal_end hnp hna F3 ⟨o1, o2⟩ (q3 _ e2)
    | _ => cases ef
  rw [arm_eval_Call, hb]
  refine wpAny_bind (thn (ho.run pins s σ H _ I h0) fun u s1 ⟨y, H1, I1, r1, a, cl, f, dx, fvs, ey, ea, hc, hmt, hlk, hA⟩ => ?_)
  subst ey
  obtain rfl : u = Value.ref a := r1
  obtain ⟨fA, fd, ps, np, kC, kM, kb, F, k1, k2⟩ := I0 cl m f hc hmt
  refine wpAny_bind (wpAny_standAt ?_)
  unfold methodCall
  rw [hform]
  refine wpAny_bind (wpAny_holding (getmeth_ok I1 ea kC kM hlk ?_))
  refine wpAny_bind (wpAny_of_eq hpos ?_)
  have fin : ∀ (us : List Value) (vs : List V) (H2 : Hp) (s2 : Shared), Inv X pins σ H2 s2 → Vals vs us → spB c.k (o.cl f) np (.ref a :: vs) H2 Q (fun cls d H' => W cls d σ H') → wpAny (model X.prog X.w) X.A (call (.ref fA) (.ref a :: us)) (EP X pins σ Q) X.xe s2 := fun us vs H2 s2 I2 r2 sp => by
    have rr : Vals (V.ref a :: vs) (Value.ref a :: us) := .cons rfl r2
    have n1 : (Value.ref a :: us ++ []).length = ps.length := by rw [List.append_nil]; exact rr.length.symm.trans (F.len _ _ _ _ sp)
    have b1 := kb s2 (.ref a :: us) I2.kIn n1
    rw [List.append_nil] at b1
    refine wpAny_call (codeAny_mono (F.run X.A X.stack s2 H2 ⟨.ref a :: us, []⟩ (.ref a :: us) (.ref a :: vs) Q _ (G.room rfl) G.grd I2.env0 b1 rr sp) fun res s3 hq => ?_)
    match res, hq with
    | .error er, hq => exact tk er s3 (XE.of_call I2 (fun _ _ _ z => z) hq)
    | .ok (.ret u), hq => exact I2.after hq
    | .ok .next, hq => exact hq.elim
    | .ok .brk, hq => exact hq.elim
    | .ok .cont, hq => exact hq.elim
  cases es with
  | nil =>
    refine PySem.W.callWith_K0 (first := [.ref a]) I1.kIn kM.kp ?_
    rw [hnil rfl] at hA
    obtain ⟨δ', τ', F', P'⟩ := hA
    exact fin [] [] H1 s1 I1 .nil (P' [] H1 F' True.intro np k1 k2)
  | cons e es =>
    obtain ⟨hs, hpl⟩ := hst e es rfl
    refine PySem.W.callWith_K (first := [.ref a]) (h₀ := X.base) I1.ok.mod.kin kM.kp (thn (ha.run pos pins s1 σ H1 _ I1 hA) fun us s2 ⟨vs, H2, I2, r2, q2⟩ => ⟨I2.kIn, ?_⟩) hs hpl
    exact fin us vs H2 s2 I2 r2 (q2 np k1 k2)
/-! ## a field is set -/
def stfF (o : Orc) (i : Nat) (f : Str) (fa : En → R (Vl × En)) : En → R (Fl × En) := fun δ => (fa δ).bind fun (v, δ1) => (R.ofO (cv v)).bind fun d => (match gS δ1 i with
    | .ob c fs => if c < o.nc ∧ o.fl c f = true ∧ fs.length < 1000 then .ok (.nx, δ1.set i (.ob c (putD f d fs))) else .no
    | _ => .no)
end
section
variable {c : Cst} {O : Addr → Prop} {es es' : List Et} {H : Hp}
/-- an owned object is written -/
theorem FR.writeO (F : FR c O es H) {a dx : Addr} {cl : Nat} {fs fs' : List (Str × D)} {xs' : List (Str × V)} (he : es = (some (.ref a), .ob cl fs) :: es') (r : RepF c.k O H xs' fs') :
    FR c O ((some (.ref a), .ob cl fs') :: es') (upd H a (.ins (c.k.ct cl) dx xs')) := by
  subst he
  obtain ⟨h1, _, xs, h2, h3⟩ := F.ok _ List.mem_cons_self
  have s : Stays O H O (upd H a (.ins (c.k.ct cl) dx xs')) := stays_upd (.inr h1) fun _ _ h => h
  have nd := F.nd
  simp only [List.flatMap_cons, oa, List.singleton_append, List.nodup_cons] at nd
  refine ⟨F.o0, F.o1, fun b h => ?_, fun e h => ?_, by simpa [oa] using F.nd, fun b h => F.nw b (by simpa [oa] using h), fun b u e n => ?_, F.on⟩
  · by_cases z : b = a
    · exact ⟨_, by rw [z]; exact upd_same⟩
    · obtain ⟨u, e⟩ := F.tr b h
      exact ⟨u, by rw [upd_ne z]; exact e⟩
  · rcases List.mem_cons.mp h with z | h'
    · rw [z]; exact ⟨h1, dx, _, upd_same, r.mono s⟩
    · refine (F.ok e (List.mem_cons_of_mem _ h')).mono s fun b hb => ⟨oa_O (F.ok e (List.mem_cons_of_mem _ h')) hb, upd_ne fun z => nd.1 ?_⟩
      exact List.mem_flatMap.mpr ⟨e, h', z ▸ hb⟩
  · have ne : b ≠ a := fun z => by
      rcases F.nw a (by simp [oa]) with q | q
      · exact n (by rw [z]; exact q)
      · rw [z, q] at e; cases e
    rw [upd_ne ne]; exact F.pr b u e n
variable {δ : En} {τ : List Et} {σ : St}
theorem FO.writeSO (F : FO c O δ τ σ H) {i cl : Nat} {fs fs' : List (Str × D)} {a dx : Addr} {xs' : List (Str × V)} (h : gS δ i = .ob cl fs) (e : σ[i]? = some (some (.ref a))) (r : RepF c.k O H xs' fs') : FO c O (δ.set i (.ob cl fs')) τ σ (upd H a (.ins (c.k.ct cl) dx xs')) := by
  have e2 := gS_get h (fun z => by cases z)
  obtain ⟨l1, l2, q1, q2, q3, q4⟩ := zip_split e e2
  have F1 : FR c O ((some (V.ref a), Sl.ob cl fs) :: (τ ++ (l1 ++ l2))) H := F.fr.perm (by rw [q1]; exact mid_perm τ l1 l2 _)
  refine ⟨?_, by rw [List.length_set]; exact F.len, fun p hp => ?_⟩
  · rw [q2]
    exact (F1.writeO rfl r).perm (mid_perm τ l1 l2 _).symm
  · by_cases ne : p.1 = i
    · rw [ne, gS_set_same e2]
      have := F.bs p hp
      rw [ne] at this
      exact ⟨this.1, True.intro⟩
    · rw [gS_set_ne ne]
      exact F.bs p hp
theorem FO.obSlot (F : FO c O δ τ σ H) {i cl : Nat} {fs : List (Str × D)} (h : gS δ i = .ob cl fs) : ∃ a dx xs, σ[i]? = some (some (.ref a)) ∧ H a = some (.ins (c.k.ct cl) dx xs) ∧ RepF c.k O H xs fs := by
  obtain ⟨ov, e1, e2, m, o⟩ := F.slot h (fun z => by cases z)
  cases ov with
  | none => exact o.elim
  | some v =>
    cases v with
    | ref a => obtain ⟨_, dx, xs, h2, h3⟩ := o; exact ⟨a, dx, xs, e1, h2, h3⟩
    | _ => exact o.elim
end
section
variable {X : Cx} {c : Cst} {W : WX} {fa : En → R (Vl × En)} {e ob : Expr} {pos pos' : Pos}
theorem s_stf {o : Orc} {i : Nat} {f : Str} (I : FlF c.k o) (hK : X.K = c.k.K) (ho : PE X ob (tVar i)) (ha : PE X e (rdE c W fa)) (hs : swapsWith e (some (.Attribute ob f pos')) pos.line X.env = pure false) : PS X (.Assign [.Attribute ob f pos'] e pos) (rdS c W (stfF o i f fa)) := by
  refine psOf (ps_fld ho ha hs) ?_
  rintro D σ H ⟨δ, τ, F, P⟩
  obtain ⟨p1, p2, p3⟩ := bindE (P := fun r => PostS c W τ r D) (show PostS c W τ ((fa δ).bind _) D from P)
  refine seqE F (fun cl fs δ' e => p1 cl fs δ' e σ) (fun e => p2 e) fun v δ1 e1 y H1 F1 o1 => ?_
  obtain ⟨d, ed, h⟩ := bindO (P := fun r => PostS c W τ r D) (p3 _ e1) (fun z => z)
  obtain ⟨O, F1⟩ := F1
  obtain ⟨O1, F2⟩ := F1.give1 ed
  simp only at h
  split at h
  case h_2 => exact h.elim
  case h_1 cl fs hg =>
  split at h
  case isFalse => exact h.elim
  case isTrue hc =>
  obtain ⟨a, dx, xs, e3, e4, r⟩ := F2.obSlot hg
  obtain ⟨k1, k2⟩ := I cl f hc.1 hc.2.1
  have ry : Rep c.k O1 H1 y d := F2.fr.ok _ (List.mem_append_left _ List.mem_cons_self)
  exact ⟨.ref a, e3, a, _, dx, xs, rfl, e4, hK ▸ k1, hK ▸ k2, by rw [r.len]; exact hc.2.2, h σ _ ⟨O1, (F2.sub sub1).writeSO hg e3 (r.put ry)⟩⟩
end

/-! ## methods of built-in kinds -/
section
variable {X : Cx} {c : Cst} {W : WX} {fa : En → R (Vl × En)} {fr : En → R (List Vl × En)} {e ob : Expr} {es : List Expr} {pos apos : Pos} {lv : Nat}
def bmF (m : Bm) (fa : En → R (Vl × En)) (fr : En → R (List Vl × En)) : En → R (Vl × En) := fun δ => (fa δ).bind fun (v, δ1) => (R.ofO (dv δ1 v)).bind fun x0 => if bmT m x0 then (fr δ1).bind fun (vs, δ2) => (R.ofO (dv δ2 v)).bind fun x => (R.ofO (dvs δ2 vs)).bind fun ds => (R.ofO (bmD m x ds)).bind fun z => .ok (z, δ2) else .no
def RuleM (c : Cst) (r : V → List V → Hp → VK → Prop) (m : Bm) : Prop := ∀ (O : Addr → Prop) (δ : En) (τ' τ : List Et) (σ : St) (H : Hp) (Q : VK) (y : V) (xs : List V) (d : D) (ds : List D) (z : Vl),
  FO c O δ τ' σ H → τ.Sublist τ' → Den c.k O H y d → DenL c.k O H xs ds → bmD m d ds = some z → (∀ u H', FS c δ (ent u z :: τ) σ H' → VOk σ u z → Q u H') → r y xs H Q
theorem bm_pre {K : PySem.W.Frag} {T : String} {r : V → List V → Hp → VK → Prop} {m : Bm} (hT : ∀ (x0 : D) (y : V) (O : Addr → Prop) (H : Hp), bmT m x0 = true → Den c.k O H y x0 → L2.tyV K T y H) (hr : RuleM c r m) : ∀ σ H Q, rdE c W (bmF m fa fr) σ H Q → tBM K T r (rdE c W fa) (rdA c W fr) σ H Q := by
  rintro σ H Q ⟨δ, τ, F, P⟩
  obtain ⟨p1, p2, p3⟩ := bindE (P := fun r => Post c W σ τ r Q) (show Post c W σ τ ((fa δ).bind _) Q from P)
  refine seqE F (fun cl fs δ' e => p1 cl fs δ' e) (fun e => p2 e) fun v δ1 e1 y H1 F1 o1 => ?_
  obtain ⟨x0, e0, h⟩ := bindO (P := fun r => Post c W σ τ r Q) (p3 _ e1) (fun z => z)
  simp only at h
  split at h
  case isFalse => exact h.elim
  case isTrue ht =>
  obtain ⟨O1, F1⟩ := F1
  refine ⟨hT x0 y O1 H1 ht (F1.den List.mem_cons_self o1 e0), ?_⟩
  obtain ⟨q1, q2, q3⟩ := bindE (P := fun r => Post c W σ τ r Q) h
  refine seqA ⟨O1, F1⟩ (fun cl fs δ' e => ExK.weak (q1 cl fs δ' e) sub1) (fun e => q2 e) fun vs δ2 e2 xs H2 F2 o2 => ?_
  obtain ⟨d, ed, h⟩ := bindO (P := fun r => Post c W σ τ r Q) (q3 _ e2) (fun z => z)
  obtain ⟨ds, eds, h⟩ := bindO (P := fun r => Post c W σ τ r Q) h (fun z => z)
  obtain ⟨z, ez, h⟩ := bindO (P := fun r => Post c W σ τ r Q) h (fun z => z)
  obtain ⟨O2, F2⟩ := F2
  exact hr O2 δ2 _ τ σ H2 Q y xs d ds z F2 ((List.sublist_cons_self _ _).trans (List.sublist_append_right _ _)) (F2.den (List.mem_append_right _ List.mem_cons_self) o1 ed) (F2.denL o2 eds) ez h
theorem find_pys (d : D) : ∀ {ys : List D} {n : Nat}, (ys.findIdx? fun z => z.eqv d) = some n → ∃ z, (D.pys ys)[n]? = some z ∧ PyData.eqv z d.py = true ∧ ∀ (m : Nat) (z' : PyData), m < n → (D.pys ys)[m]? = some z' → PyData.eqv z' d.py = false
  | [], n, h => by simp at h
  | y :: ys, n, h => by
    rw [List.findIdx?_cons] at h
    cases e : y.eqv d with
    | true =>
      rw [e] at h
      cases h
      exact ⟨y.py, rfl, e, fun m z' hm => absurd hm (Nat.not_lt_zero _)⟩
    | false =>
      rw [e] at h
      obtain ⟨n', e', rfl⟩ := Option.map_eq_some_iff.mp (by simpa using h)
      obtain ⟨z, k1, k2, k3⟩ := find_pys d e'
      refine ⟨z, by simpa [D.pys] using k1, k2, fun m z' hm hz => ?_⟩
      cases m with
      | zero => simp only [D.pys, List.getElem?_cons_zero] at hz; cases hz; exact e
      | succ m => exact k3 m z' (by omega) (by simpa [D.pys] using hz)
theorem rule_index {K : PySem.W.Frag} (hK : K = c.k.K) : RuleM c (rIndexD K) .index := fun O δ τ' τ σ H Q y xs d ds z F s hy hx hz q => by
  subst hK
  have one : ∀ {ys : List D} {a : D}, (d = .lst ys ∨ d = .ro ys) → ds = [a] → (if a.cmpb && (D.lst ys).cmpb then (ys.findIdx? fun z => z.eqv a).map fun (n : Nat) => Vl.pl (.int (n : Int)) else none) = some z → rIndexD c.k.K y xs H Q := fun {ys a} hd ha h => by
    subst ha
    split at h
    case isFalse => cases h
    case isTrue hh =>
    rw [Bool.and_eq_true] at hh
    obtain ⟨n, en, rfl⟩ := Option.map_eq_some_iff.mp h
    obtain ⟨p1, s1⟩ := cmpb_of hh.1
    obtain ⟨p2, s2⟩ := cmpb_of hh.2
    obtain ⟨x, rfl, hx1⟩ := hx.one
    obtain ⟨zz, k1, k2, k3⟩ := find_pys a en
    have dp := in_dp hy hd hh.2
    have : ∃ p, y = .ref p := by
      rcases hd with rfl | rfl
      · obtain ⟨p, _, e, _⟩ := hy; exact ⟨p, e⟩
      · obtain ⟨p, _, e, _⟩ := hy.ro; exact ⟨p, e⟩
    obtain ⟨p, rfl⟩ := this
    exact ⟨p, x, a.py, D.pys ys, n, zz, rfl, rfl, dp, hx1.dp p1, by simpa only [D.py] using s2, s1, k1, k2, k3, q _ _ (out_fz F s (.int _)) True.intro⟩
  cases d with
  | lst ys =>
    cases ds with
    | nil => simp [bmD] at hz
    | cons a r =>
      cases r with
      | nil => exact one (ys := ys) (a := a) (.inl rfl) rfl (by simpa only [bmD] using hz)
      | cons _ _ => simp [bmD] at hz
  | ro ys =>
    cases ds with
    | nil => simp [bmD] at hz
    | cons a r =>
      cases r with
      | nil => exact one (ys := ys) (a := a) (.inr rfl) rfl (by simpa only [bmD] using hz)
      | cons _ _ => simp [bmD] at hz
  | _ => simp [bmD] at hz
theorem strs_rep {k : Kt} {O : Addr → Prop} {H : Hp} : ∀ {xs : List V} {ds : List D} {bs : List Str}, RepL k O H xs ds → strsOf ds = some bs → xs = bs.map V.str
  | _, _, _, .nil, e => by cases e; rfl
  | _, _, _, .cons a r, e => by
    cases a <;> simp only [strsOf] at e <;> try contradiction
    cases h : strsOf ‹List D› with
    | none => rw [h] at e; cases e
    | some br => rw [h] at e; cases e; rw [strs_rep r h]; rfl
theorem rule_join {K : PySem.W.Frag} (hK : K = c.k.K) : RuleM c (fun x xs H Q => ∃ a p, ∃ ys : List Str, x = .str a ∧ xs = [.ref p] ∧ (SqL K H p (ys.map V.str) ∨ SqT K H p (ys.map V.str)) ∧ (ys.map (·.length)).sum + ys.length * a.length ≤ 16777216 ∧ Q (.str (Txt.join a ys)) H) .join := fun O δ τ' τ σ H Q y xs d ds z F s hy hx hz q => by
  subst hK
  cases d with
  | str t =>
    cases ds with
    | nil => simp [bmD] at hz
    | cons a r =>
      cases r with
      | cons _ _ => simp [bmD] at hz
      | nil =>
        obtain ⟨x, rfl, hx1⟩ := hx.one
        rw [hy.str]
        have fin : ∀ {ys : List D} {p : Addr} {us : List V}, RepL c.k O H us ys → (SqL c.k.K H p us ∨ SqT c.k.K H p us) → x = .ref p → ((strsOf ys).bind fun ss => if (ss.map (·.length)).sum + ss.length * t.length ≤ 16777216 then some (Vl.pl (.str (Txt.join t ss))) else none) = some z →
            ∃ a p, ∃ ys : List Str, V.str t = .str a ∧ [x] = [.ref p] ∧ (SqL c.k.K H p (ys.map V.str) ∨ SqT c.k.K H p (ys.map V.str)) ∧ (ys.map (·.length)).sum + ys.length * a.length ≤ 16777216 ∧ Q (.str (Txt.join a ys)) H := fun {ys p us} r sq ex h => by
          obtain ⟨ss, e1, h⟩ := Option.bind_eq_some_iff.mp h
          split at h
          case isFalse => cases h
          case isTrue hh =>
          cases h
          rw [strs_rep r e1] at sq
          exact ⟨t, p, ss, rfl, by rw [ex], sq, hh, q _ _ (out_fz F s (.str _)) True.intro⟩
        cases a with
        | lst ys => obtain ⟨p, us, rfl, h, r⟩ := hx1; exact fin r (.inl (SqL.of h)) rfl (by simpa only [bmD] using hz)
        | tup ys => obtain ⟨p, us, rfl, h, r⟩ := hx1.tup; exact fin r (.inr h.sq) rfl (by simpa only [bmD] using hz)
        | _ => simp [bmD] at hz
  | _ => simp [bmD] at hz
def bmName : Bm → Str
  | .index => "index"
  | .join => "join"
def bmHot : Bm → Bool
  | .join => true
  | _ => false
theorem s_bm {m : Bm} {q : Bool} (G : Gd X c lv q) (ho : PE X ob (rdE c W fa)) (ha : PA X (e :: es) (rdA c W fr)) (hb : attributeBase ob (bmName m) X.env (eval ob X.env) = eval ob X.env) (hs : starEach (e :: es) X.env = (false, eval e X.env) :: starEach es X.env)
    (hpl : (backTo pos (starEach es X.env)).any (·.1) = false) (hns : (backTo pos (starEach (e :: es) X.env)).any (·.1) = false) (hl : (e :: es).length < 29) (hline : (apos.endLine == pos.line) = true) : PE X (.Call (.Attribute ob (bmName m) apos) (e :: es) [] pos) (rdE c W (bmF m fa fr)) := by
  have hu : X.A.units + 65 < cLine := by have := G.un; omega
  have hfew : ((backTo pos (starEach (e :: es) X.env)).all (fun x => !x.1) && (backToKw pos (keywordEach [] X.env)).all (fun x => x.1.isSome) && decide ((e :: es).length + ([] : List Keyword).length + (if ([] : List Keyword).isEmpty then 0 else 1) < 30)) = true := by
    have h1 : (backTo pos (starEach (e :: es) X.env)).all (fun x => !x.1) = true := by
      rw [List.all_eq_true]
      intro q hq
      have := List.any_eq_false.mp hns q hq
      simpa using this
    rw [h1]
    show (true && true && decide ((e :: es).length + 0 + 0 < 30)) = true
    simp only [Bool.true_and, decide_eq_true_eq]
    omega
  cases m with
  | index =>
    refine peOf (pe_bm PySem.F.plainAttrs_list PySem.F.slot_list_index PySem.F.type_list_index (mt_indexD hu) ho ha hb hfew hline hs hpl) (bm_pre (fun x0 y O H ht hd => ?_) (rule_index G.K))
    cases x0 <;> simp only [bmT] at ht <;> try contradiction
    · obtain ⟨p, xs, rfl, h, _⟩ := hd
      exact .inl ⟨rfl, xs, SqL.of h⟩
    · obtain ⟨p, xs, rfl, h, _⟩ := hd.ro
      exact .inl ⟨rfl, xs, G.K ▸ h.sq⟩
  | join =>
    refine peOf (pe_bm PySem.F.plainAttrs_str PySem.F.slot_str_join PySem.F.type_str_join mt_join ho ha hb hfew hline hs hpl) (bm_pre (fun x0 y O H ht hd => ?_) (rule_join G.K))
    cases x0 <;> simp only [bmT] at ht <;> try contradiction
    rw [hd.str]
    rfl
end
end B
namespace B
open PySem PySem.Spec L2
open PyProof.Rows hiding St
/-! ## sorted(set(..)) of rows -/
theorem code_fold : ∀ (r : List Int) (a : Int), r.foldl (fun n v => 2 * n + v) a = a * 2 ^ r.length + _root_.TS.code 2 r
  | [], a => by simp [_root_.TS.code]
  | d :: r, a => by
    rw [List.foldl_cons, code_fold r]
    show (2 * a + d) * 2 ^ r.length + _root_.TS.code 2 r = a * 2 ^ (r.length + 1) + (d * 2 ^ r.length + _root_.TS.code 2 r)
    rw [Int.pow_succ, Int.add_mul, Int.mul_comm 2 a, Int.mul_assoc, Int.mul_comm 2 (2 ^ r.length)]
    omega
theorem codeI_eq (r : List Int) : codeI r = _root_.TS.code 2 r := by
  unfold codeI
  rw [code_fold]
  simp
/-- a row of d bits -/
def BitsN (d : Nat) (r : List Int) : Prop := r.length = d ∧ ∀ v ∈ r, 0 ≤ v ∧ v < 2
theorem BitsN.bd {d : Nat} {r : List Int} (h : BitsN d r) : _root_.TS.Bd 2 r := h.2
theorem code_inj : ∀ {r q : List Int}, r.length = q.length → _root_.TS.Bd 2 r → _root_.TS.Bd 2 q → _root_.TS.code 2 r = _root_.TS.code 2 q → r = q
  | [], [], _, _, _, _ => rfl
  | [], _ :: _, h, _, _, _ => by simp at h
  | _ :: _, [], h, _, _, _ => by simp at h
  | x :: r, y :: q, hl, h1, h2, e => by
    have hl' : r.length = q.length := by simpa using hl
    rcases Int.lt_trichotomy x y with h | h | h
    · have := _root_.TS.code_lt hl' h1.tail h2.tail h
      omega
    · subst h
      have : _root_.TS.code 2 r = _root_.TS.code 2 q := by
        have e : x * 2 ^ r.length + _root_.TS.code 2 r = x * 2 ^ q.length + _root_.TS.code 2 q := e
        rw [hl'] at e
        omega
      rw [code_inj hl' h1.tail h2.tail this]
    · have := _root_.TS.code_lt hl'.symm h2.tail h1.tail h
      omega
theorem codeI_inj {d : Nat} {r q : List Int} (h1 : BitsN d r) (h2 : BitsN d q) (e : codeI r = codeI q) : r = q := by
  rw [codeI_eq, codeI_eq] at e
  exact code_inj (h1.1.trans h2.1.symm) h1.bd h2.bd e
abbrev Asc (l : List (List Int)) : Prop := l.Pairwise fun a b => codeI a < codeI b
theorem insU_mem {d : Nat} {x : List Int} (hx : BitsN d x) : ∀ {l : List (List Int)}, (∀ y ∈ l, BitsN d y) → ∀ z, z ∈ insU x l ↔ z = x ∨ z ∈ l
  | [], _, z => by simp [insU]
  | y :: r, h, z => by
    have ih := insU_mem hx (l := r) (fun w hw => h w (List.mem_cons_of_mem _ hw)) z
    unfold insU
    split
    · simp
    · split
      · rename_i e
        have := codeI_inj hx (h y List.mem_cons_self) e
        subst this
        simp
      · simp only [List.mem_cons, ih]
        constructor
        · rintro (h | h | h)
          · exact .inr (.inl h)
          · exact .inl h
          · exact .inr (.inr h)
        · rintro (h | h | h)
          · exact .inr (.inl h)
          · exact .inl h
          · exact .inr (.inr h)
theorem insU_asc {d : Nat} {x : List Int} (hx : BitsN d x) : ∀ {l : List (List Int)}, (∀ y ∈ l, BitsN d y) → Asc l → Asc (insU x l)
  | [], _, _ => by simp [insU]
  | y :: r, h, a => by
    have ar := (List.pairwise_cons.mp a)
    unfold insU
    split
    · rename_i lt
      refine List.pairwise_cons.mpr ⟨fun z hz => ?_, a⟩
      rcases List.mem_cons.mp hz with rfl | hz
      · exact lt
      · have := ar.1 z hz; omega
    · split
      · exact a
      · rename_i n1 n2
        have hr : ∀ w ∈ r, BitsN d w := fun w hw => h w (List.mem_cons_of_mem _ hw)
        refine List.pairwise_cons.mpr ⟨fun z hz => ?_, insU_asc hx hr ar.2⟩
        rcases (insU_mem hx hr z).mp hz with rfl | hz
        · omega
        · exact ar.1 z hz
theorem sortU_ok {d : Nat} : ∀ {l : List (List Int)}, (∀ y ∈ l, BitsN d y) → (∀ z, z ∈ sortU l ↔ z ∈ l) ∧ Asc (sortU l)
  | [], _ => ⟨fun z => by simp [sortU], List.Pairwise.nil⟩
  | x :: r, h => by
    have hr : ∀ w ∈ r, BitsN d w := fun w hw => h w (List.mem_cons_of_mem _ hw)
    obtain ⟨m, a⟩ := sortU_ok hr
    have hs : ∀ w ∈ sortU r, BitsN d w := fun w hw => hr w ((m w).mp hw)
    have hx := h x List.mem_cons_self
    refine ⟨fun z => ?_, insU_asc hx hs a⟩
    show z ∈ insU x (sortU r) ↔ _
    rw [insU_mem hx hs, m, List.mem_cons]
theorem asc_eq : ∀ {l m : List (List Int)}, Asc l → Asc m → (∀ z, z ∈ l ↔ z ∈ m) → l = m
  | [], [], _, _, _ => rfl
  | [], y :: m, _, _, h => by have := (h y).mpr List.mem_cons_self; simp at this
  | x :: l, [], _, _, h => by have := (h x).mp List.mem_cons_self; simp at this
  | x :: l, y :: m, hl, hm, h => by
    have al := List.pairwise_cons.mp hl
    have am := List.pairwise_cons.mp hm
    have e : x = y := by
      rcases List.mem_cons.mp ((h x).mp List.mem_cons_self) with e | e
      · exact e
      · rcases List.mem_cons.mp ((h y).mpr List.mem_cons_self) with e2 | e2
        · exact e2.symm
        · have := am.1 x e; have := al.1 y e2; omega
    subst e
    have : l = m := asc_eq al.2 am.2 fun z => ⟨fun hz => by
      rcases List.mem_cons.mp ((h z).mp (List.mem_cons_of_mem _ hz)) with e | e
      · subst e; have := al.1 z hz; omega
      · exact e, fun hz => by
      rcases List.mem_cons.mp ((h z).mpr (List.mem_cons_of_mem _ hz)) with e | e
      · subst e; have := am.1 z hz; omega
      · exact e⟩
    rw [this]
theorem fitU_of {rows : List (List Int)} (h : fitU rows = true) : rows.length < 64 ∧ 1 ≤ (rows.headD []).length ∧ ∀ r ∈ rows, BitsN (rows.headD []).length r := by
  simp only [fitU, Bool.and_eq_true, decide_eq_true_eq, List.all_eq_true, beq_iff_eq] at h
  exact ⟨h.1.1, h.1.2, fun r hr => ⟨(h.2 r hr).1, (h.2 r hr).2⟩⟩
section
variable {X : Cx} {c : Cst} {W : WX} {fa : En → R (Vl × En)} {ea : Expr} {pos pos2 p p2 : Pos} {lv : Nat}
theorem intsOf_map : ∀ {ys : List D} {ns : List Int}, intsOf ys = some ns → ys = ns.map D.int
  | [], _, e => by cases e; rfl
  | y :: ys, ns, e => by
    cases y <;> simp only [intsOf] at e <;> try contradiction
    obtain ⟨ms, f1, rfl⟩ := Option.map_eq_some_iff.mp e
    rw [intsOf_map f1]
    rfl
theorem rowsI_rep {k : Kt} {O : Addr → Prop} {H : Hp} : ∀ {xs : List V} {ds : List D} {rows : List (List Int)}, RepL k O H xs ds → rowsI ds = some rows → ∃ ks : List (Addr × List Int), xs = ks.map (fun p => V.ref p.1) ∧ rows = ks.map (·.2) ∧ (∀ p ∈ ks, TupAt k O H p.1 (p.2.map V.int)) ∧ ds = ks.map fun p => .tup (p.2.map .int)
  | _, _, _, .nil, e => by cases e; exact ⟨[], rfl, rfl, fun p h => (nomatch h), rfl⟩
  | _, _, _, .cons (d := d) a r, e => by
    cases d with
    | tup ys =>
      simp only [rowsI] at e
      obtain ⟨ns, e1, e2⟩ := Option.bind_eq_some_iff.mp e
      obtain ⟨rs, e3, rfl⟩ := Option.map_eq_some_iff.mp e2
      obtain ⟨ks, k1, k2, k3, k4⟩ := rowsI_rep r e3
      cases a with
      | tup ta ra =>
        have ei := ints_rep ra e1
        have ed : ys = ns.map D.int := intsOf_map e1
        refine ⟨(_, ns) :: ks, by rw [k1]; rfl, by rw [k2]; rfl, fun p hp => ?_, by rw [ed, k4]; rfl⟩
        rcases List.mem_cons.mp hp with rfl | hp
        · rw [ei] at ta; exact ta
        · exact k3 p hp
    | _ => simp [rowsI] at e
/-- the list that sorted gives is the one -/
theorem asc_of {d : Nat} {L : List (Addr × List Int)} {rows : List (List Int)} (hb : ∀ r ∈ rows, BitsN d r) (nd : (L.map (·.2)).Nodup) (pw : L.Pairwise fun q r => _root_.TS.code 2 q.2 ≤ _root_.TS.code 2 r.2) (hm : ∀ z, z ∈ L.map (·.2) ↔ z ∈ rows) : L.map (·.2) = sortU rows := by
  obtain ⟨s1, s2⟩ := sortU_ok hb
  refine asc_eq ?_ s2 fun z => (hm z).trans (s1 z).symm
  have p1 : (L.map (·.2)).Pairwise fun a b => _root_.TS.code 2 a ≤ _root_.TS.code 2 b := List.pairwise_map.mpr pw
  have p2 := List.Pairwise.and p1 nd
  refine List.Pairwise.imp_of_mem (fun {a b} ha hb' h => ?_) p2
  have ba := hb a ((hm a).mp ha)
  have bb := hb b ((hm b).mp hb')
  have ne : codeI a ≠ codeI b := fun e => h.2 (codeI_inj ba bb e)
  rw [codeI_eq, codeI_eq] at ne ⊢
  have := h.1
  omega
theorem sqT_up {K : PySem.W.Frag} {H : Hp} {a b : Addr} {o : HO} {xs : List V} (ha : H a = none) (h : SqT K H b xs) : SqT K (upd H a o) b xs := by
  rcases h with (h | h) | h
  · exact .inl (.inl (by rw [upd_ne (ne_of_none h ha)]; exact h))
  · exact .inl (.inr (by obtain ⟨x, h⟩ := h; exact ⟨x, by rw [upd_ne (ne_of_none h ha)]; exact h⟩))
  · exact .inr h
theorem rep_intsL {k : Kt} {O : Addr → Prop} {H : Hp} : ∀ ns : List Int, RepL k O H (ns.map V.int) (ns.map D.int)
  | [] => .nil
  | n :: ns => .cons (.int n) (rep_intsL ns)
theorem s_sset {x y : Str} (G : Gd X c lv true) (ha : PE X ea (rdE c W fa)) (hs : starEach [ea] X.env = (false, eval ea X.env) :: starEach [] X.env) (hx : x = ("sorted" : Str)) (hg : Gl X x) (hm : X.mg x = none) (hy : y = ("set" : Str)) (hg2 : Gl X y) (hm2 : X.mg y = none) :
    PE X (.Call (.Name x p) [.Call (.Name y p2) [ea] [] pos2] [] pos) (rdE c W (do1 fa ssetD)) := by
  have hu : X.A.units + 64 < cLine := by have := G.un; omega
  have hc : X.calm = true := G.calm rfl
  subst hx hy
  refine peOf (pe_callB (cr_sortedT hc) hg hm boot_sorted (pa_cons (pe_callTy (cr_setOfT hc hu) hg2 hm2 boot_set (pa_cons ha pa_nil hs) (by decide) (by decide) hs rfl) pa_nil rfl) (by decide) (by decide) rfl rfl) ?_
  refine fun σ H Q h => s_one (r := fun x H1 Q => rSetOfT X.K X.prog X.w [x] H1 fun u H2 => rSortedT X.K X.prog X.w [u] H2 Q) (fun O δ τ σ H Q x v d z F h hz q => ?_) σ H Q h
  cases d with
  | lst ds =>
    obtain ⟨l, us, rfl, hl, r⟩ := h
    simp only [ssetD] at hz
    obtain ⟨rows, er, hz⟩ := Option.bind_eq_some_iff.mp hz
    split at hz
    case isFalse => cases hz
    case isTrue hf =>
    cases hz
    obtain ⟨f1, f2, f3⟩ := fitU_of hf
    obtain ⟨ks, k1, k2, k3, k4⟩ := rowsI_rep r er
    have sqk : ∀ p ∈ ks, SqT X.K H p.1 (p.2.map V.int) := fun p hp => G.K ▸ (k3 p hp).sq
    have fits : ∀ p ∈ ks, BitsN (rows.headD []).length p.2 := fun p hp => f3 _ (by rw [k2]; exact List.mem_map.mpr ⟨p, hp, rfl⟩)
    refine ⟨l, ks, rfl, by rw [← k1]; exact SqL.of hl, sqk, by have := congrArg List.length k2; rw [List.length_map] at this; omega, fun a L ea hL1 hL2 => ?_⟩
    refine ⟨a, L, (rows.headD []).length, 2, rfl, upd_same, fun p hp => sqT_up ea (sqk p (hL1 p hp)), f2, fun p hp => ⟨(fits p (hL1 p hp)).1, (fits p (hL1 p hp)).bd⟩, fun L' p pm nd hlen pw hp => ?_⟩
    have hmem : ∀ z, z ∈ L'.map (·.2) ↔ z ∈ rows := fun z => by
      constructor
      · intro hz
        obtain ⟨e, he, rfl⟩ := List.mem_map.mp hz
        rw [k2]
        exact List.mem_map.mpr ⟨e, hL1 e (pm.mem_iff.mp he), rfl⟩
      · intro hz
        rw [k2] at hz
        obtain ⟨e, he, rfl⟩ := List.mem_map.mp hz
        obtain ⟨e2, h2, h3⟩ := List.mem_map.mp (hL2 e he)
        rw [← h3]
        exact List.mem_map.mpr ⟨e2, pm.mem_iff.mpr h2, rfl⟩
    have eq := asc_of f3 nd pw hmem
    have F1 := (F.sub sub1).junk ea (SetTO X.prog X.w a L)
    have st : Stays O H O (upd H a (SetTO X.prog X.w a L)) := stays_upd (.inl ea) fun _ _ h => h
    have rr : RepL c.k O (upd H a (SetTO X.prog X.w a L)) (L'.map fun q => V.ref q.1) ((sortU rows).map fun r => .tup (r.map .int)) := by
      rw [← eq, List.map_map]
      have hin : ∀ q ∈ L', q ∈ ks := fun q hq => hL1 q (pm.mem_iff.mp hq)
      clear eq hmem pw nd hlen pm
      induction L' with
      | nil => exact .nil
      | cons q L' ih =>
        refine .cons ?_ (ih fun e he => hin e (List.mem_cons_of_mem _ he))
        have t := (k3 q (hin q List.mem_cons_self)).mono st
        exact .tup t (rep_intsL q.2)
    exact q _ _ ⟨_, F1.newLst hp rr⟩ True.intro
  | _ => simp [ssetD] at hz
end
end B
namespace B
open PySem PySem.Spec L2
open PyProof.Rows hiding St

/-! ## which code is which text -/
structure Tab where
  fn : List (Str × Nat)
  gn : List Str
  bl : List Str
  cn : List Str
  mks : List Nat
  pn : List (List Str)
  q : Bool
def isDbg (x : Str) : Bool := x == ("__debug__" : Str)
def vis (sc : Scope) (x : Str) : Bool := match sc.names.lookup x with
  | some .local => true
  | some .cell => true
  | some .free => true
  | _ => false
def isGl (sc : Scope) (x : Str) : Bool := match sc.names.lookup x with
  | some .globalImplicit => !isDbg x
  | _ => false
def nmOk (N : List Str) (sc : Scope) (i : Nat) (x : Str) : Bool := decide (N[i]? = some x) && vis sc x && !isDbg x && !(x == ("__classdict__" : Str))
def noStar : Expr → Bool
  | .Starred _ _ => false
  | _ => true
def noSlice : Expr → Bool
  | .Slice _ _ _ _ => false
  | _ => true
def noSet : Expr → Bool
  | .Set _ _ _ => false
  | _ => true
/-- its truth is its value's -/
def plainTest : Expr → Bool
  | .UnaryOp .Not _ _ => false
  | .BoolOp _ _ _ => false
  | .IfExp _ _ _ _ => false
  | .Compare _ _ _ _ => false
  | _ => true
def noComp : Expr → Bool
  | .ListComp _ _ _ _ => false
  | .SetComp _ _ _ _ => false
  | .DictComp _ _ _ _ _ => false
  | _ => true
def okTgN (N : List Str) (sc : Scope) : List Nat → List Expr → Bool
  | [], [] => true
  | i :: is, .Name x _ :: es => decide (N[i]? = some x) && (match sc.names.lookup x with | some .local => true | some .cell => true | _ => false) && okTgN N sc is es
  | _, _ => false
def okTg (N : List Str) (sc : Scope) : Tg → Expr → Bool
  | .nm i, .Name x p => okTgN N sc [i] [.Name x p]
  | .tp is, .Tuple es _ _ => okTgN N sc is es
  | _, _ => false
def noSup : Expr → Bool
  | .Call (.Name _ _) [] [] _ => false
  | _ => true
def okT1 (T : Tab) (sc : Scope) (t : Ty) (y : Str) : Bool := isGl sc y && match t with
  | .own c => decide (T.cn[c]? = some y)
  | t => decide (y = tyName t) && T.bl.contains y
def okTl (T : Tab) (sc : Scope) : List Ty → List Expr → Bool
  | [], [] => true
  | t :: ts, .Name y _ :: es => okT1 T sc t y && okTl T sc ts es
  | _, _ => false
def okTs (T : Tab) (sc : Scope) (ts : List Ty) : Expr → Bool
  | .Name y _ => (match ts with | [t] => okT1 T sc t y | _ => false)
  | .Tuple es _ _ => okTl T sc ts es && decide (ts.length ≤ 100) && !ts.isEmpty
  | _ => false
def isYes : C → Bool
  | .yes => true
  | _ => false
mutual
def okE (T : Tab) (N : List Str) : C → Scope → Expr → Bool
  | .int i, _, .Constant (.int j) _ _ => decide (i = j)
  | .bl i, _, .Constant (.bool j) _ _ => decide (i = j)
  | .non, _, .Constant .none _ _ => true
  | .str i, _, .Constant (.str j) _ _ => decide (i = j)
  | .var i, sc, .Name x _ => nmOk N sc i x
  | .pk i, sc, .Name x _ => nmOk N sc i x
  | .gl g, sc, .Name x _ => isGl sc x && decide (T.gn[g]? = some x)
  | .bin op a b, sc, .BinOp ea op' eb _ => decide (op = op') && okE T N a sc ea && okE T N b sc eb
  | .neg a, sc, .UnaryOp .USub ea _ => okE T N a sc ea
  | .not a, sc, .UnaryOp .Not ea _ => okE T N a sc ea
  | .bop op a b, sc, .BoolOp op' (ea :: eb :: rest) _ => decide (op = op') && okE T N a sc ea && okV T N b sc op (eb :: rest)
  | .cmp op a b, sc, .Compare ea [op'] [eb] _ => decide (op = op') && okE T N a sc ea && okE T N b sc eb && !behindInMarks op eb
  | .chn op op' a b c', sc, .Compare ea [o1, o2] [eb, ec] _ => decide (op = o1) && decide (op' = o2) && okE T N a sc ea && okE T N b sc eb && okE T N c' sc ec && !lastMarks [op, op'] [eb, ec]
  | .ite t a b, sc, .IfExp et ea eb _ => okT T N t sc et && okE T N a sc ea && okE T N b sc eb
  | .cal f as, sc, .Call (.Name x _) (e :: es) [] _ => T.q && isGl sc x && decide ((T.fn[f]?.map (·.1)) = some x) && okA T N as sc (e :: es)
  | .cal f as, sc, .Call (.Name x _) [] [] _ => T.q && isGl sc x && decide ((T.fn[f]?.map (·.1)) = some x) && okA T N as sc []
  | .mak c as, sc, .Call (.Name x _) (e :: es) [] _ => T.q && isGl sc x && decide (T.cn[c]? = some x) && T.mks.contains c && okA T N as sc (e :: es)
  | .isi a ts, sc, .Call (.Name x _) [e, te] [] _ => isGl sc x && decide (x = ("isinstance" : Str)) && T.bl.contains x && okE T N a sc e && noStar e && okTs T sc ts te
  | .fld a f, sc, .Attribute ea f' _ => decide (f = f') && okE T N a sc ea && noSup ea
  | .xf i f, sc, .Attribute (.Name x _) f' _ => decide (f = f') && nmOk N sc i x
  | .xi i ts, sc, .Call (.Name y _) [.Name x _, te] [] _ => isGl sc y && decide (y = ("isinstance" : Str)) && T.bl.contains y && nmOk N sc i x && okTs T sc ts te
  | .mt m a as, sc, .Call (.Attribute ea m' ap) es [] cp => T.q && decide (m = m') && okE T N a sc ea && noSup ea && okA T N as sc es && decide (es.length < 29) && (ap.endLine == cp.line)
  | .bi b as, sc, .Call (.Name x _) (e :: es) [] _ => (T.q || biHot b) && isGl sc x && decide (x = biName b) && T.bl.contains x && okA T N as sc (e :: es)
  | .app i a, sc, .Call (.Attribute (.Name x _) m ap) [e] [] cp => decide (m = ("append" : Str)) && nmOk N sc i x && okE T N a sc e && noStar e && (ap.endLine == cp.line)
  | .ix a b, sc, .Subscript ea eb _ => okE T N a sc ea && okE T N b sc eb && noSlice eb
  | .sl a lo hi, sc, .Subscript ea (.Slice el eh none _) _ => okE T N a sc ea && okO T N lo sc el && okO T N hi sc eh
  | .tup as, sc, .Tuple es _ _ => okA T N as sc es
  | .lst as, sc, .List es _ => okA T N as sc es
  | .lc own tg k is t e, sc, .ListComp elt [⟨tgE, iter, ifs, 0⟩] scope _ => T.q && blkC N sc scope (own.map fun i => (N.getD i "", i)) && okI T N is k sc iter && okTg N scope tg tgE && ((tgs tg).all fun i => own.contains i) && okC T N t (relS scope sc) ifs &&
      okE T N e (relS scope sc) elt && noSet iter
  | .lc2 own vs tg k is t tg1 k1 is1 t1 e, sc, .ListComp elt [⟨tgE, iter, ifs, 0⟩, ⟨tgE1, iter1, ifs1, 0⟩] scope _ => T.q && blkC N sc scope (own.map fun i => (N.getD i "", i)) && okI T N is k sc iter && okTg N scope tg tgE && ((tgs tg).all fun i => own.contains i) && okC T N t (relS scope sc) ifs &&
      okI T N is1 k1 (relS scope sc) iter1 && okTg N scope tg1 tgE1 && ((tgs tg1).all fun i => vs.contains i) && (vs.all fun i => own.contains i) && okC T N t1 (relS scope sc) ifs1 && okE T N e (relS scope sc) elt && noSet iter && noSet iter1
  | .xt .sset a b, sc, .Call (.Name x _) [.Call (.Name y _) [ea] [] _] [] _ => T.q && isGl sc x && decide (x = ("sorted" : Str)) && T.bl.contains x && isGl sc y && decide (y = ("set" : Str)) && T.bl.contains y && okE T N a sc ea && noStar ea
  | .xt (.kal f) a b, sc, .Call (.Name x _) es kws _ => T.q && isGl sc x && decide ((T.fn[f]?.map (·.1)) = some x) && okA T N a sc es && okK T N b sc kws && (match T.pn[f]? with | some ns => decide (kws.map Keyword.arg = (ns.drop es.length).map some) | none => false)
  | .xt (.bm m) a b, sc, .Call (.Attribute ea m' ap) (e :: es) [] cp => (T.q || bmHot m) && decide (m' = bmName m) && okE T N a sc ea && noSup ea && okA T N b sc (e :: es) && decide ((e :: es).length < 29) && (ap.endLine == cp.line)
  | _, _, _ => false
termination_by structural c => c
/-- the values of keywords -/
def okK (T : Tab) (N : List Str) : C → Scope → List Keyword → Bool
  | .nil, _, [] => true
  | .cons a r, sc, ⟨some _, e, _⟩ :: kws => okE T N a sc e && okK T N r sc kws
  | _, _, _ => false
termination_by structural c => c
/-- the tests of a comprehension's clause -/
def okC (T : Tab) (N : List Str) : C → Scope → List Expr → Bool
  | .yes, _, [] => true
  | .one _ t, sc, [e] => okT T N t sc e
  | _, _, _ => false
termination_by structural c => c
def okT (T : Tab) (N : List Str) : C → Scope → Expr → Bool
  | .not a, sc, .UnaryOp .Not ea _ => okT T N a sc ea
  | .bop op a b, sc, .BoolOp op' (ea :: eb :: rest) _ => decide (op = op') && okT T N a sc ea && okW T N b sc op (eb :: rest)
  | .tst a, sc, e => okE T N a sc e && plainTest e
  | .cmp op a b, sc, .Compare ea [op'] [eb] _ => decide (op = op') && okE T N a sc ea && okE T N b sc eb && !behindInMarks op eb
  | .chn op op' a b c', sc, .Compare ea [o1, o2] [eb, ec] _ => decide (op = o1) && decide (op' = o2) && okE T N a sc ea && okE T N b sc eb && okE T N c' sc ec && !lastMarks [op, op'] [eb, ec]
  | _, _, _ => false
termination_by structural c => c
def okV (T : Tab) (N : List Str) : C → Scope → BoolOp → List Expr → Bool
  | .one _ a, sc, _, [e] => okE T N a sc e
  | .bop op a b, sc, op', e :: e2 :: rest => decide (op = op') && okE T N a sc e && okV T N b sc op' (e2 :: rest)
  | _, _, _, _ => false
termination_by structural c => c
def okW (T : Tab) (N : List Str) : C → Scope → BoolOp → List Expr → Bool
  | .one _ a, sc, _, [e] => okT T N a sc e
  | .bop op a b, sc, op', e :: e2 :: rest => decide (op = op') && okT T N a sc e && okW T N b sc op' (e2 :: rest)
  | _, _, _, _ => false
termination_by structural c => c
def okA (T : Tab) (N : List Str) : C → Scope → List Expr → Bool
  | .nil, _, [] => true
  | .cons a r, sc, e :: es => okE T N a sc e && noStar e && okA T N r sc es
  | _, _, _ => false
termination_by structural c => c
def okO (T : Tab) (N : List Str) : C → Scope → Option Expr → Bool
  | .nil, _, none => true
  | .tst a, sc, some e => okE T N a sc e
  | _, _, _ => false
termination_by structural c => c
def okI (T : Tab) (N : List Str) : C → It → Scope → Expr → Bool
  | .two a b, .rng2, sc, .Call (.Name x _) [e, e2] [] _ => isGl sc x && decide (x = ("range" : Str)) && T.bl.contains x && okE T N a sc e && noStar e && okE T N b sc e2 && noStar e2
  | .sole a, .rng1, sc, .Call (.Name x _) [e] [] _ => isGl sc x && decide (x = ("range" : Str)) && T.bl.contains x && okE T N a sc e && noStar e
  | .sole a, .zst, sc, .Call (.Name x _) [.Starred e _] [] _ => isGl sc x && decide (x = ("zip" : Str)) && T.bl.contains x && okE T N a sc e
  | .sole a, .seq, sc, e => okE T N a sc e
  | _, _, _, _ => false
termination_by structural c => c
end

/-! ## side facts -/
theorem star_cons {e : Expr} {es : List Expr} {env : Env} (h : noStar e = true) : starEach (e :: es) env = (false, eval e env) :: starEach es env := by
  cases e <;> first | rfl | simp [noStar] at h
theorem okA_star {T : Tab} {N : List Str} {sc : Scope} : ∀ {as : C} {es : List Expr} {env : Env} {pos : Pos}, okA T N as sc es = true → (backTo pos (starEach es env)).any (·.1) = false
  | .nil, [], _, _, _ => rfl
  | .cons a r, e :: es, env, pos, h => by
    simp only [okA, Bool.and_eq_true] at h
    rw [star_cons h.1.2]
    have := okA_star (env := env) (pos := pos) h.2
    simpa [backTo] using this
  | .nil, _ :: _, _, _, h => by simp [okA] at h
  | .cons _ _, [], _, _, h => by simp [okA] at h
  | .int _, _, _, _, h => by simp [okA] at h
  | .bl _, _, _, _, h => by simp [okA] at h
  | .non, _, _, _, h => by simp [okA] at h
  | .str _, _, _, _, h => by simp [okA] at h
  | .var _, _, _, _, h => by simp [okA] at h
  | .pk _, _, _, _, h => by simp [okA] at h
  | .gl _, _, _, _, h => by simp [okA] at h
  | .bin _ _ _, _, _, _, h => by simp [okA] at h
  | .neg _, _, _, _, h => by simp [okA] at h
  | .not _, _, _, _, h => by simp [okA] at h
  | .bop _ _ _, _, _, _, h => by simp [okA] at h
  | .one _ _, _, _, _, h => by simp [okA] at h
  | .cmp _ _ _, _, _, _, h => by simp [okA] at h
  | .chn _ _ _ _ _, _, _, _, h => by simp [okA] at h
  | .ite _ _ _, _, _, _, h => by simp [okA] at h
  | .cal _ _, _, _, _, h => by simp [okA] at h
  | .mak _ _, _, _, _, h => by simp [okA] at h
  | .bi _ _, _, _, _, h => by simp [okA] at h
  | .isi _ _, _, _, _, h => by simp [okA] at h
  | .mt _ _ _, _, _, _, h => by simp [okA] at h
  | .app _ _, _, _, _, h => by simp [okA] at h
  | .fld _ _, _, _, _, h => by simp [okA] at h
  | .xf _ _, _, _, _, h => by simp [okA] at h
  | .xi _ _, _, _, _, h => by simp [okA] at h
  | .ix _ _, _, _, _, h => by simp [okA] at h
  | .sl _ _ _, _, _, _, h => by simp [okA] at h
  | .tup _, _, _, _, h => by simp [okA] at h
  | .lst _, _, _, _, h => by simp [okA] at h
  | .lc _ _ _ _ _ _, _, _, _, h => by simp [okA] at h
  | .lc2 _ _ _ _ _ _ _ _ _ _ _, _, _, _, h => by simp [okA] at h
  | .yes, _, _, _, h => by simp [okA] at h
  | .tst _, _, _, _, h => by simp [okA] at h
  | .sole _, _, _, _, h => by simp [okA] at h
  | .two _ _, _, _, _, h => by simp [okA] at h
  | .xt _ _ _, _, _, _, h => by simp [okA] at h
theorem base_no {e : Expr} {f : Str} {env : Env} {m : Sem Value} (h : noSup e = true) : attributeBase e f env m = m := by
  unfold attributeBase
  split
  · simp [noSup] at h
  · rfl
theorem plain_ix {b : Expr} (h : noSlice b = true) : PlainIx b := by
  intro o i
  cases b <;> first | rfl | simp [noSlice] at h
theorem fold_set {b : Expr} {env : Env} (h : noSet b = true) : ∀ x, foldedSetIterable b env x = pure x := by
  intro x
  cases b <;> first | rfl | simp [noSet] at h
theorem tst_is {e : Expr} {env : Env} (h : plainTest e = true) : ∀ whole, isTrue e env whole = (do let v ← whole; standAt e.pos; holding [v] (truthy v)) := by
  intro whole
  cases e with
  | UnaryOp op a p => cases op <;> first | rfl | simp [plainTest] at h
  | _ => first | rfl | simp [plainTest] at h
theorem swap_no {e : Expr} {t : Option Expr} {l : Nat} {env : Env} (h : noComp e = true) : swapsWith e t l env = pure false := by
  cases e <;> first | rfl | simp [noComp] at h
theorem vis_of {sc : Scope} {x : Str} (h : vis sc x = true) : Vis sc x := by
  unfold vis at h
  unfold Vis
  split at h <;> simp_all
end B
namespace B
open PySem PySem.Spec L2
open PyProof.Rows hiding St

/-- making an exception of class c, as raise does -/
def XmOk (P : Program) (w : World) (K : PySem.W.Frag) (mg : Str → Option Value) (base : Heap) (k : Kt) (T : Tab) (lv : Nat) (xf : Nat → Option (List Str)) : Prop := ∀ (X : Cx), X.prog = P → X.w = w → X.K = K → X.mg = mg → X.base = base → Room lv X.A →
  ∀ (c : Nat) (x : Str) (ns : List Str), T.cn[c]? = some x → xf c = some ns → Gl X x → (x == ("__debug__" : Str)) = false → ∀ (e : Expr) (es : List Expr) (ta : TA) (p pos : Pos), PA X (e :: es) ta → starEach (e :: es) X.env = (false, eval e X.env) :: starEach es X.env → (backTo pos (starEach es X.env)).any (·.1) = false →
  PMk X (.Call (.Name x p) (e :: es) [] pos) (fun σ H Q => ta σ H fun vs H1 => vs.length = ns.length ∧ ∀ d, H1 d = none → Q (.ref (k.ct c)) (some d) (upd H1 d (.xd (ns.zip vs).reverse)))
/-- what isinstance asks of an exception's class -/
structure XiC (K : PySem.W.Frag) (C : Addr) : Prop where
  cl : (PySem.W.clsIn K C).isSome = true
  ga : PySem.W.findIn K (.ref C) "__getattribute__" = some (some (.builtin "BaseException.__getattribute__"))
  gt : PySem.W.findIn K (.ref C) "__getattr__" = some none
  sb : PySem.W.subIn K (.ref C) (.type "BaseException") = some true
  ha : PySem.W.findIn K (.ref C) "__class__" = some (some (.builtin "object.__class__"))
  hn : PySem.W.specialIn K (.builtin "object.__class__") "__get__" = some (some (.builtin "getset_descriptor.__get__"))
  tk : PySem.W.takesIn K (.builtin "object.__class__") = some true
  hm : PySem.W.mroIn K C (.type "object") = some true
structure XOk (P : Program) (w : World) (K : PySem.W.Frag) (mg : Str → Option Value) (base : Heap) (k : Kt) (T : Tab) (lv : Nat) (o : Orc) : Prop where
  xm : T.q = true → XmOk P w K mg base k T lv o.xf
  xq : ∀ c f, o.nc ≤ c → o.fl c f = true → XfC K (k.ct c) ∧ PySem.W.findIn K (.ref (k.ct c)) f = some none
  xe : ∀ c t b, xi1 o c t = some b → XiC K (k.ct c) ∧ PySem.W.kitOne K (.ref (k.ct c)) (tyV k t).2 = some b
  xt : ∀ c c' b, o.xs c c' = some b → PySem.W.exmOne K (.ref (k.ct c)) (.ref (k.ct c')) = some b
structure TOk (P : Program) (w : World) (K : PySem.W.Frag) (mg : Str → Option Value) (base : Heap) (k : Kt) (T : Tab) (lv : Nat) (o : Orc) : Prop where
  fn : T.q = true → ∀ f nm np, T.fn[f]? = some (nm, np) → ∃ fa fd ps, mg nm = some (.ref fa) ∧ PySem.W.keepIn K (.ref fa) = true ∧ Binds K fd ps [] ∧ FnG P w K mg base lv fa fd ps (spB k (o.cl f) np) ∧
    (∀ as, as.length ≠ np → o.cl f as = .no) ∧ (∀ as v ss, o.cl f as = .ok (v, ss) → noAl v) ∧ (∀ q, T.pn[f]? = some q → q = ps ∧ KwB K fd ps)
  gl : ∀ g nm d, T.gn[g]? = some nm → o.gl g = some d → ∃ u v, mg nm = some u ∧ RelV v u ∧ ∀ O H, Rep k O H v d
  bl : ∀ x, T.bl.contains x = true → mg x = none
  x : XOk P w K mg base k T lv o
  is : IsF k o.nc T.cn.length o.sub
  fl : FlF k o
  mt : T.q = true → MtOk P w K mg base k lv o
  cn : ∀ c x, T.cn[c]? = some x → mg x = some (.ref (k.ct c))
  mks : T.q = true → ∀ c x, T.cn[c]? = some x → T.mks.contains c = true → ∃ f fd ps np j, ((∀ as, o.mkc c as = .no) ∨ j + 1 ≤ lv) ∧ Mk K (k.ct c) f ∧ Binds K fd ps [] ∧ FnG P w K mg base j f fd ps (spB k (o.mkc c) np) ∧
    (∀ as, as.length ≠ np → o.mkc c as = .no) ∧ (∀ as v ss, o.mkc c as = .ok (v, ss) → noAl v)
def xfF (o : Orc) (i : Nat) (f : Str) : En → R (Vl × En) := fun δ => match gS δ i with
    | .xc c fs => if o.nc ≤ c ∧ o.fl c f = true then (R.ofO (fs.lookup f)).bind fun d => .ok (.pl d, δ) else .no
    | _ => .no
def xiF (o : Orc) (i : Nat) (ts : List Ty) : En → R (Vl × En) := fun δ => match gS δ i with
    | .xc c _ => (R.ofO (xiD o c ts)).bind fun b => .ok (.pl (.bl b), δ)
    | _ => .no
structure Sd (X : Cx) (c : Cst) (T : Tab) (N : List Str) (lv : Nat) (o : Orc) (W : WX) : Prop where
  G : Gg X c lv T.q
  hN : X.N = N
  tk : Takes X W
  ok : TOk X.prog X.w X.K X.mg X.base c.k T lv o
  xk : T.q = true → ∀ a cl dd, ¬ c.k.xd a cl dd
  xf : T.q = false → ∀ i f x p pos, nmOk N X.env.scope i x = true → PE X (.Attribute (.Name x p) f pos) (rdE c W (xfF o i f))
  xi : T.q = false → ∀ i ts te x p p2 pos, nmOk N X.env.scope i x = true → okTs T X.env.scope ts te = true → Gl X "isinstance" → X.mg "isinstance" = none → PE X (.Call (.Name "isinstance" p) [.Name x p2, te] [] pos) (rdE c W (xiF o i ts))
theorem noX_of {c : Cst} (hk : ∀ a cl dd, ¬ c.k.xd a cl dd) {O : Addr → Prop} {δ : En} {τ : List Et} {σ : St} {H : Hp} (F : FO c O δ τ σ H) {i cl : Nat} {fs : List (Str × D)} (h : gS δ i = .xc cl fs) : False := by
  obtain ⟨ov, _, _, _, ok⟩ := F.slot h (fun z => by cases z)
  cases ov with
  | none => exact ok
  | some v =>
    cases v with
    | ref a => obtain ⟨dd, _, h1, _⟩ := ok; exact hk _ _ _ h1
    | _ => exact ok
theorem pe_ff {X : Cx} {e : Expr} {t : TE} (h : ∀ σ H Q, ¬ t σ H Q) : PE X e t := ⟨fun _ _ σ H Q _ q => (h σ H Q q).elim⟩
theorem xf_no {c : Cst} {W : WX} {o : Orc} (hk : ∀ a cl dd, ¬ c.k.xd a cl dd) {i : Nat} {f : Str} : ∀ σ H Q, ¬ rdE c W (xfF o i f) σ H Q := fun σ H Q ⟨δ, τ, ⟨O, F⟩, P⟩ => by
  unfold xfF at P
  cases q : gS δ i with
  | xc cl fs => exact noX_of hk F q
  | _ => rw [q] at P; exact P
theorem xi_no {c : Cst} {W : WX} {o : Orc} (hk : ∀ a cl dd, ¬ c.k.xd a cl dd) {i : Nat} {ts : List Ty} : ∀ σ H Q, ¬ rdE c W (xiF o i ts) σ H Q := fun σ H Q ⟨δ, τ, ⟨O, F⟩, P⟩ => by
  unfold xiF at P
  cases q : gS δ i with
  | xc cl fs => exact noX_of hk F q
  | _ => rw [q] at P; exact P
section
variable {X : Cx} {c : Cst} {T : Tab} {N : List Str} {lv : Nat} {o : Orc} {W : WX}
theorem Sd.pv (S : Sd X c T N lv o W) {i : Nat} {x : Str} {p : Pos} (h : nmOk N X.env.scope i x = true) : PE X (.Name x p) (tVar i) := by
  unfold nmOk at h
  simp only [Bool.and_eq_true, decide_eq_true_eq, Bool.not_eq_true'] at h
  exact pe_var (by rw [S.hN]; exact h.1.1.1) (vis_of h.1.1.2) h.1.2 h.2
theorem Sd.gl (S : Sd X c T N lv o W) {x : Str} (h : isGl X.env.scope x = true) : Gl X x ∧ (x == ("__debug__" : Str)) = false := by
  unfold isGl at h
  split at h
  · rename_i e
    exact ⟨e, by simpa [isDbg] using h⟩
  · cases h
/-- in a block of its own -/
theorem Sd.pf (S : Sd X c T N lv o W) {i : Nat} {f x : Str} {p pos : Pos} (h : nmOk N X.env.scope i x = true) : PE X (.Attribute (.Name x p) f pos) (rdE c W (xfF o i f)) := by
  cases hq : T.q with
  | true => exact pe_ff (xf_no (S.xk hq))
  | false => exact S.xf hq i f x p pos h
theorem Sd.pi (S : Sd X c T N lv o W) {i : Nat} {ts : List Ty} {te : Expr} {x : Str} {p p2 pos : Pos} (h : nmOk N X.env.scope i x = true) (h2 : okTs T X.env.scope ts te = true) (hg : Gl X "isinstance") (hm : X.mg "isinstance" = none) :
    PE X (.Call (.Name "isinstance" p) [.Name x p2, te] [] pos) (rdE c W (xiF o i ts)) := by
  cases hq : T.q with
  | true => exact pe_ff (xi_no (S.xk hq))
  | false => exact S.xi hq i ts te x p p2 pos h h2 hg hm
theorem Sd.blk (S : Sd X c T N lv o W) (hq : T.q = true) (s : Shared) (H : Hp) (scope : Scope) (C : Addr) (cl : List (Str × Addr)) (fp : List Addr) : Sd (X.blk s H scope (compEnvC scope cl C X.env) fp) c T N lv o (fun _ _ _ _ => False) :=
  ⟨⟨⟨S.G.nd, S.G.calm, S.G.room, S.G.un, S.G.K, S.G.kd⟩, S.G.grd⟩, S.hN, takes0, S.ok, S.xk, fun z => absurd z (by rw [hq]; exact Bool.noConfusion), fun z => absurd z (by rw [hq]; exact Bool.noConfusion)⟩
theorem Sd.Gt (S : Sd X c T N lv o W) (h : T.q = true) : Gg X c lv true := h ▸ S.G
theorem blk_scope {s : Shared} {H : Hp} {scope : Scope} {C : Addr} {cl : List (Str × Addr)} {fp : List Addr} : (X.blk s H scope (compEnvC scope cl C X.env) fp).env.scope = relS scope X.env.scope := rfl
/-- the names that raw tells as own are so here -/
def OwnIn (X : Cx) (raw : Scope) : Prop := ∀ x k, raw.names.lookup x = some k → (k = .local ∨ k = .cell) → X.env.scope.names.lookup x = some k ∧ (k = .cell → X.fn x = true)
theorem own_name {raw : Scope} (ho : OwnIn X raw) {x : Str} (h2 : (match raw.names.lookup x with | some .local => true | some .cell => true | _ => false) = true) : L2.Loc X.env.scope x ∧ (X.fn x = true ∨ X.env.scope.names.lookup x = some .local) := by
  cases e : raw.names.lookup x with
  | none => rw [e] at h2; cases h2
  | some k =>
    rw [e] at h2
    cases k with
    | «local» =>
      obtain ⟨q, _⟩ := ho x _ e (.inl rfl)
      exact ⟨.inl q, .inr q⟩
    | cell =>
      obtain ⟨q, f⟩ := ho x _ e (.inr rfl)
      exact ⟨.inr q, .inl (f rfl)⟩
    | _ => cases h2
theorem pgs_ok {raw : Scope} (nd : X.N.Nodup) (hN : X.N = N) (ho : OwnIn X raw) : ∀ {is : List Nat} {es : List Expr}, okTgN N raw is es = true → PGs X es (gNs is) ∧ (assignEach es X.env).length = is.length ∧ (assignEach es X.env).findIdx? (·.1) = none
  | [], [], _ => ⟨pgs_nil, rfl, rfl⟩
  | i :: is, .Name x p :: es, h => by
    simp only [okTgN, Bool.and_eq_true, decide_eq_true_eq] at h
    obtain ⟨⟨h1, h2⟩, h3⟩ := h
    obtain ⟨a, b, c'⟩ := pgs_ok nd hN ho h3
    obtain ⟨loc, hf⟩ := own_name ho h2
    refine ⟨pgs_cons (pg_name nd (by rw [hN]; exact h1) loc hf) a (by rfl), ?_, ?_⟩
    · show (assignEach es X.env).length + 1 = _
      rw [b]; rfl
    · show List.findIdx? (·.1) ((false, assign (.Name x p) X.env) :: assignEach es X.env) = none
      rw [List.findIdx?_cons]
      simp [c']
theorem pg_ok {raw : Scope} (nd : X.N.Nodup) (hN : X.N = N) (hc : X.calm = true) (ho : OwnIn X raw) {tg : Tg} {e : Expr} (h : okTg N raw tg e = true) : PG X e (gT X.K tg) := by
  cases tg with
  | nm i =>
    cases e <;> simp only [okTg] at h <;> try contradiction
    simp only [okTgN, Bool.and_eq_true, decide_eq_true_eq] at h
    obtain ⟨⟨h1, h2⟩, _⟩ := h
    obtain ⟨loc, hf⟩ := own_name ho h2
    exact pg_name nd (by rw [hN]; exact h1) loc hf
  | tp is =>
    cases e <;> simp only [okTg] at h <;> try contradiction
    obtain ⟨a, b, c'⟩ := pgs_ok nd hN ho h
    exact pg_tup hc a b c'
end

section
variable {X : Cx} {c : Cst} {T : Tab} {N : List Str} {lv : Nat} {o : Orc} {W : WX}
def glF (o : Orc) (g : Nat) : En → R (Vl × En) := fun δ => (R.ofO (o.gl g)).bind fun d => .ok (.pl d, δ)
theorem s_gl {g : Nat} {x : Str} {p : Pos} (hgl : ∀ g nm d, T.gn[g]? = some nm → o.gl g = some d → ∃ u v, X.mg nm = some u ∧ RelV v u ∧ ∀ O H, Rep c.k O H v d) (hx : T.gn[g]? = some x) (hg : Gl X x) (hd : (x == ("__debug__" : Str)) = false) :
    PE X (.Name x p) (rdE c W (glF o g)) := by
  cases e : o.gl g with
  | none =>
    refine ⟨fun pins s σ H Q I ⟨δ, τ, F, P⟩ => ?_⟩
    unfold glF at P
    rw [e] at P
    exact P.elim
  | some d =>
    obtain ⟨u, v, m, r, rep⟩ := hgl g x d hx e
    refine peOf (pe_glob hg m r hd) fun σ H Q ⟨δ, τ, ⟨O, F⟩, P⟩ => ?_
    unfold glF at P
    rw [e] at P
    exact P v H ⟨O, F.addFz (rep O H)⟩ True.intro
theorem okA_hd {as : C} {sc : Scope} {e : Expr} {es : List Expr} (h : okA T N as sc (e :: es) = true) : noStar e = true := by
  cases as <;> simp [okA] at h
  exact h.1.2
theorem okA_tl {as : C} {sc : Scope} {e : Expr} {es : List Expr} {env : Env} {pos : Pos} (h : okA T N as sc (e :: es) = true) : (backTo pos (starEach es env)).any (·.1) = false := by
  have q := okA_star (env := env) (pos := pos) h
  rw [star_cons (okA_hd h)] at q
  simpa [backTo] using q
theorem okTy_of {sc : Scope} {t : Ty} {y : Str} (h : okT1 T sc t y = true) : okTy T.cn.length t = true := by
  cases t with
  | own c =>
    simp only [okT1, Bool.and_eq_true, decide_eq_true_eq] at h
    obtain ⟨hc, _⟩ := List.getElem?_eq_some_iff.mp h.2
    simpa [okTy] using hc
  | _ => rfl
theorem okTl_of {sc : Scope} : ∀ {ts : List Ty} {es : List Expr}, okTl T sc ts es = true → ∀ t ∈ ts, okTy T.cn.length t = true
  | [], _, _, t, ht => by cases ht
  | u :: ts, .Name y p :: es, h, t, ht => by
    simp only [okTl, Bool.and_eq_true] at h
    rcases List.mem_cons.mp ht with rfl | q
    · exact okTy_of h.1
    · exact okTl_of h.2 t q
theorem gl_of {x : Str} (h : isGl X.env.scope x = true) : Gl X x ∧ (x == ("__debug__" : Str)) = false := by
  unfold isGl at h
  split at h
  · rename_i e
    exact ⟨e, by simpa [isDbg] using h⟩
  · cases h
theorem pe_t1 (hcn : ∀ c1 x, T.cn[c1]? = some x → X.mg x = some (.ref (c.k.ct c1))) (hbl : ∀ x, T.bl.contains x = true → X.mg x = none) {t : Ty} {y : Str} {p : Pos} (h : okT1 T X.env.scope t y = true) : PE X (.Name y p) (tC (tyV c.k t).1) := by
  unfold okT1 at h
  rw [Bool.and_eq_true] at h
  obtain ⟨h1, h2⟩ := h
  obtain ⟨hg, hd⟩ := gl_of h1
  cases t with
  | own cc =>
    simp only [decide_eq_true_eq] at h2
    exact pe_glob hg (hcn cc y h2) rfl hd
  | int =>
    simp only [Bool.and_eq_true, decide_eq_true_eq] at h2
    obtain ⟨rfl, hb⟩ := h2
    exact pe_bltn (u := .type "int") hg (hbl _ hb) (by decide +kernel) rfl (by decide) hd
  | bool =>
    simp only [Bool.and_eq_true, decide_eq_true_eq] at h2
    obtain ⟨rfl, hb⟩ := h2
    exact pe_bltn (u := .type "bool") hg (hbl _ hb) (by decide +kernel) rfl (by decide) hd
  | str =>
    simp only [Bool.and_eq_true, decide_eq_true_eq] at h2
    obtain ⟨rfl, hb⟩ := h2
    exact pe_bltn (u := .type "str") hg (hbl _ hb) (by decide +kernel) rfl (by decide) hd
  | verr =>
    simp only [Bool.and_eq_true, decide_eq_true_eq] at h2
    obtain ⟨rfl, hb⟩ := h2
    exact pe_bltn (u := .type "ValueError") hg (hbl _ hb) (by decide +kernel) rfl (by decide) hd
  | list =>
    simp only [Bool.and_eq_true, decide_eq_true_eq] at h2
    obtain ⟨rfl, hb⟩ := h2
    exact pe_bltn (u := .type "list") hg (hbl _ hb) (by decide +kernel) rfl (by decide) hd
  | tuple =>
    simp only [Bool.and_eq_true, decide_eq_true_eq] at h2
    obtain ⟨rfl, hb⟩ := h2
    exact pe_bltn (u := .type "tuple") hg (hbl _ hb) (by decide +kernel) rfl (by decide) hd
theorem pa_tl (hcn : ∀ c1 x, T.cn[c1]? = some x → X.mg x = some (.ref (c.k.ct c1))) (hbl : ∀ x, T.bl.contains x = true → X.mg x = none) : ∀ {ts : List Ty} {es : List Expr}, okTl T X.env.scope ts es = true → PA X es (fun σ H Q => Q (ts.map fun t => (tyV c.k t).1) H)
  | [], [], _ => pa_nil
  | t :: ts, .Name y p :: es, h => by
    simp only [okTl, Bool.and_eq_true] at h
    exact pa_cons (pe_t1 hcn hbl h.1) (pa_tl hcn hbl h.2) rfl
theorem s_isi {ts : List Ty} {e te : Expr} {p pos : Pos} {fa : En → R (Vl × En)} (S : Sd X c T N lv o W) (ha : PE X e (rdE c W fa)) (hs : noStar e = true) (hts : okTs T X.env.scope ts te = true) (hg : Gl X "isinstance") (hm : X.mg "isinstance" = none) :
    PE X (.Call (.Name "isinstance" p) [e, te] [] pos) (rdE c W (isiF o.nc o.sub ts fa)) := by
  cases te with
  | Name y q =>
    cases ts with
    | nil => cases hts
    | cons t ts =>
      cases ts with
      | nil => exact s_isi1 S.ok.is S.G.K (okTy_of hts) ha (pe_t1 S.ok.cn S.ok.bl hts) hg hm (star_cons hs) rfl
      | cons _ _ => cases hts
  | Tuple es j q =>
    simp only [okTs, Bool.and_eq_true, decide_eq_true_eq] at hts
    exact s_isiN S.ok.is S.G.K (okTl_of hts.1.1) ha (pa_tl S.ok.cn S.ok.bl hts.1.1) (by have := hts.1.2; rw [sizeLine_eq]; omega) hg hm (star_cons hs)
  | _ => cases hts
theorem okA_nil {as : C} {sc : Scope} (h : okA T N as sc [] = true) : as = .nil := by
  cases as <;> simp [okA] at h
  rfl
theorem s_yes : PTs X [] (rdT c W (evT o c.bd .yes)) := ⟨fun pins s σ H Q I ⟨δ, τ, F, P⟩ => pts_nil.run pins s σ H Q I (P H F)⟩
theorem ptsOf {es : List Expr} {t t' : TT} (h : PTs X es t) (i : ∀ σ H Q, t' σ H Q → t σ H Q) : PTs X es t' := ⟨fun pins s σ H Q I q => h.run pins s σ H Q I (i σ H Q q)⟩
theorem s_lc {own : List Nat} {tg : Tg} {fi : En → R (List D × En)} {ft : En → R (Bool × En)} {fe : En → R (Vl × En)} {elt tgE iter : Expr} {ifs : List Expr} {scope : Scope} {pos : Pos} (S : Sd X c T N lv o W) (hq : T.q = true)
    (h1 : blkC N X.env.scope scope (own.map fun i => (N.getD i "", i)) = true) (hi : PI X tgE iter (rdI c W fi)) (h3 : okTg N scope tg tgE = true) (h4 : ((tgs tg).all fun i => own.contains i) = true)
    (ht : ∀ (s : Shared) (H : Hp) (C : Addr) (cl : List (Str × Addr)) (fp : List Addr), PTs (X.blk s H scope (compEnvC scope cl C X.env) fp) ifs (rdT c (fun _ _ _ _ => False) ft))
    (he : ∀ (s : Shared) (H : Hp) (C : Addr) (cl : List (Str × Addr)) (fp : List Addr), PE (X.blk s H scope (compEnvC scope cl C X.env) fp) elt (rdE c (fun _ _ _ _ => False) fe)) (hs : ∀ x, foldedSetIterable iter X.env x = pure x) :
    PE X (.ListComp elt [⟨tgE, iter, ifs, 0⟩] scope pos) (rdE c W (lcF c.bd own tg fi ft fe)) := by
  have eo : (own.map fun i => (N.getD i "", i)).map (·.2) = own := by
    rw [List.map_map]
    exact (List.map_congr_left fun _ _ => rfl).trans (List.map_id _)
  have hb : BlkOk X.N X.env.scope scope (own.map fun i => (N.getD i "", i)) := blkOk_by (by rw [S.hN]; exact h1)
  have ho : ∀ (s : Shared) (H : Hp) (C : Addr) (cl : List (Str × Addr)) (fp : List Addr), OwnIn (X.blk s H scope (compEnvC scope cl C X.env) fp) scope := fun s H C cl fp x k e hk => by
    refine ⟨lookup_relS_keep (fun z => by subst z; rcases hk with q | q <;> cases q) e, fun z => ?_⟩
    subst z
    show (scope.names.lookup x == some .cell) = true
    rw [e]; rfl
  have key := pe_lc (elt := elt) (g := gT X.K tg) (S.G.calm hq) S.G.nd hi hb (fun s H C cl fp => pg_ok (X := X.blk s H scope (compEnvC scope cl C X.env) fp) (N := N) S.G.nd S.hN (S.G.calm hq) (ho s H C cl fp) h3) ht he hs (pos := pos)
  rw [eo] at key
  exact peOf key (s_lcR S.G.K fun i hi => by simpa using (List.all_eq_true.mp h4 i hi))
end
theorem s_lc2 {X : Cx} {c : Cst} {T : Tab} {N : List Str} {lv : Nat} {o : Orc} {W : WX} {own vs : List Nat} {tg tg1 : Tg} {fi fi1 : En → R (List D × En)} {ft ft1 : En → R (Bool × En)} {fe : En → R (Vl × En)} {elt tgE iter tgE1 iter1 : Expr} {ifs ifs1 : List Expr} {scope : Scope} {pos : Pos} (S : Sd X c T N lv o W) (hq : T.q = true)
    (h1 : blkC N X.env.scope scope (own.map fun i => (N.getD i "", i)) = true) (hi : PI X tgE iter (rdI c W fi)) (h3 : okTg N scope tg tgE = true) (h4 : ((tgs tg).all fun i => own.contains i) = true)
    (ht : ∀ (s : Shared) (H : Hp) (C : Addr) (cl : List (Str × Addr)) (fp : List Addr), PTs (X.blk s H scope (compEnvC scope cl C X.env) fp) ifs (rdT c (fun _ _ _ _ => False) ft))
    (hi1 : ∀ (s : Shared) (H : Hp) (C : Addr) (cl : List (Str × Addr)) (fp : List Addr), PI (X.blk s H scope (compEnvC scope cl C X.env) fp) tgE1 iter1 (rdI c (fun _ _ _ _ => False) fi1)) (k3 : okTg N scope tg1 tgE1 = true) (k4 : ((tgs tg1).all fun i => vs.contains i) = true) (k5 : (vs.all fun i => own.contains i) = true)
    (ht1 : ∀ (s : Shared) (H : Hp) (C : Addr) (cl : List (Str × Addr)) (fp : List Addr), PTs (X.blk s H scope (compEnvC scope cl C X.env) fp) ifs1 (rdT c (fun _ _ _ _ => False) ft1))
    (he : ∀ (s : Shared) (H : Hp) (C : Addr) (cl : List (Str × Addr)) (fp : List Addr), PE (X.blk s H scope (compEnvC scope cl C X.env) fp) elt (rdE c (fun _ _ _ _ => False) fe)) (hs : ∀ x, foldedSetIterable iter X.env x = pure x) (hs1 : ∀ env x, foldedSetIterable iter1 env x = pure x) :
    PE X (.ListComp elt [⟨tgE, iter, ifs, 0⟩, ⟨tgE1, iter1, ifs1, 0⟩] scope pos) (rdE c W (lc2F c.bd own vs tg tg1 fi ft fi1 ft1 fe)) := by
  have eo : (own.map fun i => (N.getD i "", i)).map (·.2) = own := by
    rw [List.map_map]
    exact (List.map_congr_left fun _ _ => rfl).trans (List.map_id _)
  have hb : BlkOk X.N X.env.scope scope (own.map fun i => (N.getD i "", i)) := blkOk_by (by rw [S.hN]; exact h1)
  have ho : ∀ (s : Shared) (H : Hp) (C : Addr) (cl : List (Str × Addr)) (fp : List Addr), OwnIn (X.blk s H scope (compEnvC scope cl C X.env) fp) scope := fun s H C cl fp x k e hk => by
    refine ⟨lookup_relS_keep (fun z => by subst z; rcases hk with q | q <;> cases q) e, fun z => ?_⟩
    subst z
    show (scope.names.lookup x == some .cell) = true
    rw [e]; rfl
  have hv : ∀ i ∈ vs, i ∈ own := fun i hi => by simpa using (List.all_eq_true.mp k5 i hi)
  have key := pe_lc2 (elt := elt) (vs1 := vs) (g := gT X.K tg) (g1 := gT X.K tg1) (S.G.calm hq) S.G.nd hi hb (fun i hi => by rw [eo]; exact hv i hi) (fun s H C cl fp => pg_ok (X := X.blk s H scope (compEnvC scope cl C X.env) fp) (N := N) S.G.nd S.hN (S.G.calm hq) (ho s H C cl fp) h3) ht hi1 (fun s H C cl fp => pg_ok (X := X.blk s H scope (compEnvC scope cl C X.env) fp) (N := N) S.G.nd S.hN (S.G.calm hq) (ho s H C cl fp) k3) ht1 he hs hs1 (pos := pos)
  rw [eo] at key
  exact peOf key (s_lc2R S.G.K (fun i hi => by simpa using (List.all_eq_true.mp h4 i hi)) (fun i hi => by simpa using (List.all_eq_true.mp k4 i hi)) hv)
theorem pkOf {X : Cx} {kws : List Keyword} {t t' : TA} (h : PK X kws t) (i : ∀ σ H Q, t' σ H Q → t σ H Q) : PK X kws t' := ⟨fun p pins s σ H Q I q => h.run p pins s σ H Q I (i σ H Q q)⟩
theorem s_nilK {X : Cx} {c : Cst} {W : WX} : PK X [] (rdA c W nilF) := pkOf pk_nil fun σ H Q ⟨δ, τ, F, P⟩ => P [] H F True.intro
theorem s_consK {X : Cx} {c : Cst} {W : WX} {a : Expr} {kws : List Keyword} {nm : Option Str} {kpos : Pos} {fa : En → R (Vl × En)} {fr : En → R (List Vl × En)} (ha : PE X a (rdE c W fa)) (hr : PK X kws (rdA c W fr)) : PK X (⟨nm, a, kpos⟩ :: kws) (rdA c W (consF fa fr)) := pkOf (pk_cons ha hr) fun σ H Q ⟨δ, τ, F, P⟩ => by
  obtain ⟨p1, p2, p3⟩ := bindE (P := fun r => PostA c W σ τ r Q) (show PostA c W σ τ ((fa δ).bind _) Q from P)
  refine seqE F (fun cl fs δ' e => p1 cl fs δ' e) (fun e => p2 e) fun v δ1 e1 x H1 F1 o1 => ?_
  obtain ⟨q1, q2, q3⟩ := bindE (P := fun r => PostA c W σ τ r Q) (p3 _ e1)
  refine seqA F1 (fun cl fs δ' e => ExK.weak (q1 cl fs δ' e) sub1) (fun e => q2 e) fun vs δ2 e2 xs H2 F2 o2 => ?_
  obtain ⟨O, F2⟩ := F2
  refine q3 _ e2 (x :: xs) H2 ⟨O, F2.perm ?_⟩ ⟨o1, o2⟩
  show (ents xs vs ++ ent x v :: τ).Perm (ent x v :: (ents xs vs ++ τ))
  exact List.perm_middle
theorem okK_some {T : Tab} {N : List Str} {sc : Scope} : ∀ {as : C} {kws : List Keyword}, okK T N as sc kws = true → ∀ y ∈ kws, y.arg.isSome = true := by
  intro as kws
  induction kws generalizing as with
  | nil => intro _ y hy; cases hy
  | cons x es ih =>
    intro h y hy
    obtain ⟨n, v, p⟩ := x
    cases as <;> cases n <;> simp only [okK, Bool.false_eq_true] at h
    simp only [Bool.and_eq_true] at h
    rcases List.mem_cons.mp hy with rfl | hy
    · rfl
    · exact ih h.2 y hy
theorem hes_of {o : Orc} {bd : List Nat} {T : Tab} {N : List Str} {sc : Scope} {env : Env} {as : C} {es : List Expr} (h : okA T N as sc es = true) : (es = [] ∧ evA o bd as = nilF) ∨ ∃ e r, es = e :: r ∧ starEach (e :: r) env = (false, eval e env) :: starEach r env := by
  cases es with
  | nil => exact .inl ⟨rfl, by rw [okA_nil h]; rfl⟩
  | cons e r => exact .inr ⟨e, r, rfl, star_cons (okA_hd h)⟩
theorem evA_len {o : Orc} {bd : List Nat} {T : Tab} {N : List Str} {sc : Scope} : ∀ {as : C} {es : List Expr} {δ δ' : En} {vs : List Vl}, okA T N as sc es = true → evA o bd as δ = .ok (vs, δ') → vs.length = es.length := by
  intro as es
  induction es generalizing as with
  | nil =>
    intro δ δ' vs h e
    rw [okA_nil h] at e
    cases e
    rfl
  | cons x es ih =>
    intro δ δ' vs h e
    cases as <;> simp only [okA, Bool.false_eq_true] at h
    rename_i a r
    simp only [Bool.and_eq_true] at h
    simp only [evA] at e
    cases e1 : evE o bd a δ with
    | no => rw [e1] at e; cases e
    | ex _ _ _ => rw [e1] at e; cases e
    | ok p =>
      obtain ⟨v, δ1⟩ := p
      rw [e1] at e
      simp only [R.bind] at e
      cases e2 : evA o bd r δ1 with
      | no => rw [e2] at e; cases e
      | ex _ _ _ => rw [e2] at e; cases e
      | ok p =>
        obtain ⟨ws, δ2⟩ := p
        rw [e2] at e
        cases e
        simp [ih h.2 e2]
mutual
theorem sdE {c : Cst} {T : Tab} {N : List Str} {lv : Nat} {o : Orc} : ∀ (cd : C) (X : Cx) (W : WX) (e : Expr), Sd X c T N lv o W → okE T N cd X.env.scope e = true → PE X e (rdE c W (evE o c.bd cd))
  | .int i, X, W, e, S, h => by
    unfold okE at h
    split at h <;> first | contradiction | skip
    rename_i heq
    injection heq with e0
    subst e0
    simp only [decide_eq_true_eq] at h
    subst h
    exact s_int
  | .bl i, X, W, e, S, h => by
    unfold okE at h
    split at h <;> first | contradiction | skip
    rename_i heq
    injection heq with e0
    subst e0
    simp only [decide_eq_true_eq] at h
    subst h
    exact s_bl
  | .non, X, W, e, S, h => by
    unfold okE at h
    split at h <;> first | contradiction | skip
    exact s_non
  | .str i, X, W, e, S, h => by
    unfold okE at h
    split at h <;> first | contradiction | skip
    rename_i heq
    injection heq with e0
    subst e0
    simp only [decide_eq_true_eq] at h
    subst h
    exact s_str
  | .var i, X, W, e, S, h => by
    unfold okE at h
    split at h <;> first | contradiction | skip
    rename_i heq
    injection heq with e0
    subst e0
    exact s_var (S.pv h)
  | .pk i, X, W, e, S, h => by
    unfold okE at h
    split at h <;> first | contradiction | skip
    rename_i heq
    injection heq with e0
    subst e0
    exact s_pk (S.pv h)
  | .gl g, X, W, e, S, h => by
    unfold okE at h
    split at h <;> first | contradiction | skip
    rename_i heq
    injection heq with e0
    subst e0
    simp only [Bool.and_eq_true, decide_eq_true_eq, Bool.not_eq_true'] at h
    obtain ⟨hg, hd⟩ := S.gl h.1
    exact s_gl S.ok.gl h.2 hg hd
  | .bin op a b, X, W, e, S, h => by
    unfold okE at h
    split at h <;> first | contradiction | skip
    rename_i heq
    injection heq with e0 e1 e2
    subst e0
    subst e1
    subst e2
    simp only [Bool.and_eq_true, decide_eq_true_eq, Bool.not_eq_true'] at h
    obtain ⟨⟨rfl, h1⟩, h2⟩ := h
    exact s_bin S.G.K (sdE a X W _ S h1) (sdE b X W _ S h2)
  | .neg a, X, W, e, S, h => by
    unfold okE at h
    split at h <;> first | contradiction | skip
    rename_i heq
    injection heq with e0
    subst e0
    exact s_neg (sdE a X W _ S h)
  | .not a, X, W, e, S, h => by
    unfold okE at h
    split at h <;> first | contradiction | skip
    rename_i heq
    injection heq with e0
    subst e0
    exact s_not S.G.K (sdE a X W _ S h)
  | .bop op a b, X, W, e, S, h => by
    unfold okE at h
    split at h <;> first | contradiction | skip
    rename_i heq
    injection heq with e0 e1 e2
    subst e0
    subst e1
    subst e2
    simp only [Bool.and_eq_true, decide_eq_true_eq, Bool.not_eq_true'] at h
    obtain ⟨⟨rfl, h1⟩, h2⟩ := h
    exact s_bop S.G.K (sdE a X W _ S h1) (sdV b X W _ _ _ S h2)
  | .cmp op a b, X, W, e, S, h => by
    unfold okE at h
    split at h <;> first | contradiction | skip
    rename_i heq
    injection heq with e0 e1 e2
    subst e0
    subst e1
    subst e2
    simp only [Bool.and_eq_true, decide_eq_true_eq, Bool.not_eq_true'] at h
    obtain ⟨⟨⟨rfl, h1⟩, h2⟩, h3⟩ := h
    exact s_cmp S.G.toGd (sdE a X W _ S h1) (sdE b X W _ S h2) h3
  | .ite t a b, X, W, e, S, h => by
    unfold okE at h
    split at h <;> first | contradiction | skip
    rename_i heq
    injection heq with e0 e1 e2
    subst e0
    subst e1
    subst e2
    simp only [Bool.and_eq_true, decide_eq_true_eq, Bool.not_eq_true'] at h
    exact s_ite (sdT t X W _ S h.1.1) (sdE a X W _ S h.1.2) (sdE b X W _ S h.2)
  | .cal f as, X, W, e, S, h => by
    unfold okE at h
    split at h <;> first | contradiction | skip
    all_goals
      rename_i heq
      injection heq with e0 e1
      subst e0
      subst e1
      simp only [Bool.and_eq_true, decide_eq_true_eq, Bool.not_eq_true'] at h
      obtain ⟨⟨⟨hq, h1⟩, h2⟩, h3⟩ := h
      obtain ⟨hg, hd⟩ := S.gl h1
      obtain ⟨p, ep, e1⟩ := Option.map_eq_some_iff.mp h2
      obtain ⟨nm, np⟩ := p
      obtain ⟨fa, fd, ps, m1, m2, m3, m4, m5, m6, _⟩ := S.ok.fn hq _ nm np ep
      have e1 : nm = _ := e1
      subst e1
    · exact s_cal (S.Gt hq) S.tk m5 m6 m4 hg m1 m2 m3 (sdA as X W _ S h3) hd (star_cons (okA_hd h3)) (okA_tl h3)
    · have en := okA_nil h3
      subst en
      exact s_cal0 (S.Gt hq) S.tk m5 m6 m4 hg m1 m2 m3 hd
  | .bi b as, X, W, e, S, h => by
    unfold okE at h
    split at h <;> first | contradiction | skip
    rename_i heq
    injection heq with e0 e1
    subst e0
    subst e1
    simp only [Bool.and_eq_true, decide_eq_true_eq, Bool.not_eq_true'] at h
    obtain ⟨⟨⟨⟨hq, h1⟩, h2⟩, h3⟩, h4⟩ := h
    obtain ⟨hg, hd⟩ := S.gl h1
    exact s_bi S.G (by rw [Bool.or_eq_true] at hq; exact hq) (sdA as X W _ S h4) h2 hg (S.ok.bl _ h3) (star_cons (okA_hd h4)) (okA_tl h4)
  | .app i a, X, W, e, S, h => by
    unfold okE at h
    split at h <;> first | contradiction | skip
    rename_i heq
    injection heq with e0 e1
    subst e0
    subst e1
    simp only [Bool.and_eq_true, decide_eq_true_eq, Bool.not_eq_true'] at h
    obtain ⟨⟨⟨⟨rfl, h1⟩, h2⟩, h3⟩, h4⟩ := h
    refine s_app S.G.K (S.pv h1) (sdE a X W _ S h2) (star_cons h3) rfl ?_ h4
    rw [star_cons h3]
    rfl
  | .ix a b, X, W, e, S, h => by
    unfold okE at h
    split at h <;> first | contradiction | skip
    rename_i heq
    injection heq with e0 e1
    subst e0
    subst e1
    simp only [Bool.and_eq_true, decide_eq_true_eq, Bool.not_eq_true'] at h
    exact s_ix S.G.K S.G.kd (sdE a X W _ S h.1.1) (sdE b X W _ S h.1.2) (plain_ix h.2)
  | .sl a l u, X, W, e, S, h => by
    unfold okE at h
    split at h <;> first | contradiction | skip
    rename_i heq
    injection heq with e0 e1 e2
    subst e0
    subst e1
    subst e2
    simp only [Bool.and_eq_true, decide_eq_true_eq, Bool.not_eq_true'] at h
    exact s_sl S.G.K (sdE a X W _ S h.1.1) (sdO l X W _ S h.1.2) (sdO u X W _ S h.2)
  | .tup as, X, W, e, S, h => by
    unfold okE at h
    split at h <;> first | contradiction | skip
    rename_i heq
    injection heq with e0
    subst e0
    exact s_tup (sdA as X W _ S h)
  | .lst as, X, W, e, S, h => by
    unfold okE at h
    split at h <;> first | contradiction | skip
    rename_i heq
    injection heq with e0
    subst e0
    exact s_lst (sdA as X W _ S h)
  | .lc own tg k is t e', X, W, e, S, h => by
    unfold okE at h
    split at h <;> first | contradiction | skip
    rename_i heq
    injection heq with e0 e1 e2 e3 e4 e5
    subst e0
    subst e1
    subst e2
    subst e3
    subst e4
    subst e5
    simp only [Bool.and_eq_true, decide_eq_true_eq, Bool.not_eq_true'] at h
    obtain ⟨⟨⟨⟨⟨⟨⟨hq, h1⟩, h2⟩, h3⟩, h4⟩, h5⟩, h6⟩, h7⟩ := h
    exact s_lc S hq h1 (sdI is k X W _ _ S h2) h3 h4 (fun s H C cl fp => sdC t _ _ _ (S.blk hq s H _ C cl fp) h5) (fun s H C cl fp => sdE e' _ _ _ (S.blk hq s H _ C cl fp) h6) (fold_set h7)
  | .lc2 own vs tg k is t tg1 k1 is1 t1 e', X, W, e, S, h => by
    unfold okE at h
    split at h <;> first | contradiction | skip
    rename_i heq
    injection heq with e0 e1 e2 e3 e4 e5 e6 e7 e8 e9 e10
    subst e0
    subst e1
    subst e2
    subst e3
    subst e4
    subst e5
    subst e6
    subst e7
    subst e8
    subst e9
    subst e10
    simp only [Bool.and_eq_true, decide_eq_true_eq, Bool.not_eq_true'] at h
    obtain ⟨⟨⟨⟨⟨⟨⟨⟨⟨⟨⟨⟨⟨hq, h1⟩, h2⟩, h3⟩, h4⟩, h5⟩, k2⟩, k3⟩, k4⟩, k5⟩, k6⟩, h6⟩, h7⟩, k7⟩ := h
    exact s_lc2 S hq h1 (sdI is k X W _ _ S h2) h3 h4 (fun s H C cl fp => sdC t _ _ _ (S.blk hq s H _ C cl fp) h5) (fun s H C cl fp => sdI is1 k1 _ _ _ _ (S.blk hq s H _ C cl fp) k2) k3 k4 k5 (fun s H C cl fp => sdC t1 _ _ _ (S.blk hq s H _ C cl fp) k6) (fun s H C cl fp => sdE e' _ _ _ (S.blk hq s H _ C cl fp) h6) (fold_set h7) (fun _ => fold_set k7)
  | .xt k a b, X, W, e, S, h => by
    unfold okE at h
    split at h <;> first | contradiction | skip
    · rename_i heq
      injection heq with e0 e1 e2
      subst e0
      subst e1
      subst e2
      simp only [Bool.and_eq_true, decide_eq_true_eq, Bool.not_eq_true'] at h
      obtain ⟨⟨⟨⟨⟨⟨⟨⟨hq, h1⟩, h2⟩, h3⟩, h4⟩, h5⟩, h6⟩, h7⟩, h8⟩ := h
      exact s_sset (S.Gt hq).toGd (sdE a X W _ S h7) (star_cons h8) h2 (S.gl h1).1 (S.ok.bl _ h3) h5 (S.gl h4).1 (S.ok.bl _ h6)
    rotate_left
    · rename_i heq
      injection heq with e0 e1 e2
      subst e0
      subst e1
      subst e2
      simp only [Bool.and_eq_true, decide_eq_true_eq, Bool.not_eq_true'] at h
      obtain ⟨⟨⟨⟨⟨⟨hq, rfl⟩, h1⟩, h2⟩, h3⟩, h4⟩, h5⟩ := h
      exact s_bm S.G.toGd (sdE a X W _ S h1) (sdA b X W _ S h3) (base_no h2) (star_cons (okA_hd h3)) (okA_tl h3) (okA_star h3) h4 h5
    rename_i heq
    injection heq with e0 e1 e2
    subst e0
    subst e1
    subst e2
    simp only [Bool.and_eq_true, decide_eq_true_eq, Bool.not_eq_true'] at h
    obtain ⟨⟨⟨⟨⟨hq, h1⟩, h2⟩, h3⟩, h4⟩, h5⟩ := h
    obtain ⟨hg, hd⟩ := S.gl h1
    obtain ⟨p, ep, e1⟩ := Option.map_eq_some_iff.mp h2
    obtain ⟨nm, np⟩ := p
    obtain ⟨fa, fd, ps, m1, m2, m3, m4, m5, m6, m7⟩ := S.ok.fn hq _ nm np ep
    have e1 : nm = _ := e1
    subst e1
    split at h5
    case h_2 => cases h5
    rename_i ns en
    simp only [decide_eq_true_eq] at h5
    obtain ⟨rfl, hkw⟩ := m7 ns en
    refine s_kal (S.Gt hq) S.tk m5 m6 m4 hg m1 m2 hkw (sdA a X W _ S h3) (sdK b X W _ S h4) hd (fun δ vs δ' ev => evA_len h3 ev) (hes_of h3) (okA_star h3) (okK_some h4) h5
  | .one _ a, X, W, e, S, h => by
    unfold okE at h
    first | exact absurd h Bool.false_ne_true | (split at h <;> first | contradiction | (rename_i heq; cases heq) | (exfalso; simp_all))
  | .chn op op' a b c', X, W, e, S, h => by
    unfold okE at h
    split at h <;> first | contradiction | skip
    rename_i heq
    injection heq with e0 e1 e2 e3 e4
    subst e0
    subst e1
    subst e2
    subst e3
    subst e4
    simp only [Bool.and_eq_true, decide_eq_true_eq, Bool.not_eq_true'] at h
    obtain ⟨⟨⟨⟨⟨rfl, rfl⟩, h1⟩, h2⟩, h3⟩, h4⟩ := h
    exact s_chn S.G.toGd (sdE a X W _ S h1) (sdE b X W _ S h2) (sdE c' X W _ S h3) h4
  | .mak cl as, X, W, e, S, h => by
    unfold okE at h
    split at h <;> first | contradiction | skip
    rename_i heq
    injection heq with e0 e1
    subst e0
    subst e1
    simp only [Bool.and_eq_true, decide_eq_true_eq, Bool.not_eq_true'] at h
    obtain ⟨⟨⟨⟨hq, h1⟩, h2⟩, h4⟩, h3⟩ := h
    obtain ⟨hg, hd⟩ := S.gl h1
    obtain ⟨f, fd, ps, np, j, m0, m1, m3, m4, m5, m6⟩ := S.ok.mks hq cl _ h2 h4
    exact s_mak (S.Gt hq) S.tk m5 m6 m1 m4 m0 hg (S.ok.cn cl _ h2) m3 (sdA as X W _ S h3) hd (star_cons (okA_hd h3)) (okA_tl h3)
  | .isi a ts, X, W, e, S, h => by
    unfold okE at h
    split at h <;> first | contradiction | skip
    rename_i heq
    injection heq with e0 e1
    subst e0
    subst e1
    simp only [Bool.and_eq_true, decide_eq_true_eq, Bool.not_eq_true'] at h
    obtain ⟨⟨⟨⟨⟨h1, rfl⟩, h3⟩, h4⟩, h5⟩, h6⟩ := h
    obtain ⟨hg, hd⟩ := S.gl h1
    exact s_isi S (sdE a X W _ S h4) h5 h6 hg (S.ok.bl _ h3)
  | .mt m a as, X, W, e, S, h => by
    unfold okE at h
    split at h <;> first | contradiction | skip
    rename_i heq
    injection heq with e0 e1 e2
    subst e0
    subst e1
    subst e2
    simp only [Bool.and_eq_true, decide_eq_true_eq, Bool.not_eq_true'] at h
    obtain ⟨⟨⟨⟨⟨⟨hq, rfl⟩, h1⟩, h2⟩, h3⟩, h4⟩, h5⟩ := h
    refine s_mt (S.Gt hq) S.tk (S.ok.mt hq) (sdE a X W _ S h1) (sdA as X W _ S h3) (base_no h2) (fun e es' q => ?_) (okA_star h3) (fun q => ?_) h4 h5
    · subst q
      exact ⟨star_cons (okA_hd h3), okA_tl h3⟩
    · subst q
      rw [okA_nil h3]
      rfl
  | .xf i f, X, W, e, S, h => by
    unfold okE at h
    split at h <;> first | contradiction | skip
    rename_i heq
    injection heq with e0 e1
    subst e0
    subst e1
    simp only [Bool.and_eq_true, decide_eq_true_eq, Bool.not_eq_true'] at h
    obtain ⟨rfl, h1⟩ := h
    exact S.pf h1
  | .xi i ts, X, W, e, S, h => by
    unfold okE at h
    split at h <;> first | contradiction | skip
    rename_i heq
    injection heq with e0 e1
    subst e0
    subst e1
    simp only [Bool.and_eq_true, decide_eq_true_eq, Bool.not_eq_true'] at h
    obtain ⟨⟨⟨⟨h1, rfl⟩, h3⟩, h4⟩, h5⟩ := h
    exact S.pi h4 h5 (S.gl h1).1 (S.ok.bl _ h3)
  | .fld a f, X, W, e, S, h => by
    unfold okE at h
    split at h <;> first | contradiction | skip
    rename_i heq
    injection heq with e0 e1
    subst e0
    subst e1
    simp only [Bool.and_eq_true, decide_eq_true_eq, Bool.not_eq_true'] at h
    obtain ⟨⟨rfl, h1⟩, h2⟩ := h
    exact s_fld S.ok.fl S.G.K (sdE a X W _ S h1) (base_no h2)
  | .yes, X, W, e, S, h => by
    unfold okE at h
    first | exact absurd h Bool.false_ne_true | (split at h <;> first | contradiction | (rename_i heq; cases heq) | (exfalso; simp_all))
  | .tst _, X, W, e, S, h => by
    unfold okE at h
    first | exact absurd h Bool.false_ne_true | (split at h <;> first | contradiction | (rename_i heq; cases heq) | (exfalso; simp_all))
  | .sole _, X, W, e, S, h => by
    unfold okE at h
    first | exact absurd h Bool.false_ne_true | (split at h <;> first | contradiction | (rename_i heq; cases heq) | (exfalso; simp_all))
  | .two _ _, X, W, e, S, h => by
    unfold okE at h
    first | exact absurd h Bool.false_ne_true | (split at h <;> first | contradiction | (rename_i heq; cases heq) | (exfalso; simp_all))
  | .nil, X, W, e, S, h => by
    unfold okE at h
    first | exact absurd h Bool.false_ne_true | (split at h <;> first | contradiction | (rename_i heq; cases heq) | (exfalso; simp_all))
  | .cons _ _, X, W, e, S, h => by
    unfold okE at h
    first | exact absurd h Bool.false_ne_true | (split at h <;> first | contradiction | (rename_i heq; cases heq) | (exfalso; simp_all))
termination_by structural cd => cd
theorem sdC {c : Cst} {T : Tab} {N : List Str} {lv : Nat} {o : Orc} : ∀ (cd : C) (X : Cx) (W : WX) (es : List Expr), Sd X c T N lv o W → okC T N cd X.env.scope es = true → PTs X es (rdT c W (evT o c.bd cd))
  | .yes, X, W, es, S, h => by
    unfold okC at h
    split at h <;> first | contradiction | skip
    exact s_yes
  | .one op a, X, W, es, S, h => by
    unfold okC at h
    split at h <;> first | contradiction | skip
    rename_i heq
    injection heq with e0 e1
    subst e0
    subst e1
    exact pts_one (sdT a X W _ S h)
  | .int _, X, W, es, S, h => by
    unfold okC at h
    first | exact absurd h Bool.false_ne_true | (split at h <;> first | contradiction | (rename_i heq; cases heq) | (exfalso; simp_all))
  | .bl _, X, W, es, S, h => by
    unfold okC at h
    first | exact absurd h Bool.false_ne_true | (split at h <;> first | contradiction | (rename_i heq; cases heq) | (exfalso; simp_all))
  | .non, X, W, es, S, h => by
    unfold okC at h
    first | exact absurd h Bool.false_ne_true | (split at h <;> first | contradiction | (rename_i heq; cases heq) | (exfalso; simp_all))
  | .str _, X, W, es, S, h => by
    unfold okC at h
    first | exact absurd h Bool.false_ne_true | (split at h <;> first | contradiction | (rename_i heq; cases heq) | (exfalso; simp_all))
  | .var _, X, W, es, S, h => by
    unfold okC at h
    first | exact absurd h Bool.false_ne_true | (split at h <;> first | contradiction | (rename_i heq; cases heq) | (exfalso; simp_all))
  | .pk _, X, W, es, S, h => by
    unfold okC at h
    first | exact absurd h Bool.false_ne_true | (split at h <;> first | contradiction | (rename_i heq; cases heq) | (exfalso; simp_all))
  | .gl _, X, W, es, S, h => by
    unfold okC at h
    first | exact absurd h Bool.false_ne_true | (split at h <;> first | contradiction | (rename_i heq; cases heq) | (exfalso; simp_all))
  | .bin _ _ _, X, W, es, S, h => by
    unfold okC at h
    first | exact absurd h Bool.false_ne_true | (split at h <;> first | contradiction | (rename_i heq; cases heq) | (exfalso; simp_all))
  | .neg _, X, W, es, S, h => by
    unfold okC at h
    first | exact absurd h Bool.false_ne_true | (split at h <;> first | contradiction | (rename_i heq; cases heq) | (exfalso; simp_all))
  | .not _, X, W, es, S, h => by
    unfold okC at h
    first | exact absurd h Bool.false_ne_true | (split at h <;> first | contradiction | (rename_i heq; cases heq) | (exfalso; simp_all))
  | .bop _ _ _, X, W, es, S, h => by
    unfold okC at h
    first | exact absurd h Bool.false_ne_true | (split at h <;> first | contradiction | (rename_i heq; cases heq) | (exfalso; simp_all))
  | .cmp _ _ _, X, W, es, S, h => by
    unfold okC at h
    first | exact absurd h Bool.false_ne_true | (split at h <;> first | contradiction | (rename_i heq; cases heq) | (exfalso; simp_all))
  | .chn _ _ _ _ _, X, W, es, S, h => by
    unfold okC at h
    first | exact absurd h Bool.false_ne_true | (split at h <;> first | contradiction | (rename_i heq; cases heq) | (exfalso; simp_all))
  | .ite _ _ _, X, W, es, S, h => by
    unfold okC at h
    first | exact absurd h Bool.false_ne_true | (split at h <;> first | contradiction | (rename_i heq; cases heq) | (exfalso; simp_all))
  | .cal _ _, X, W, es, S, h => by
    unfold okC at h
    first | exact absurd h Bool.false_ne_true | (split at h <;> first | contradiction | (rename_i heq; cases heq) | (exfalso; simp_all))
  | .mak _ _, X, W, es, S, h => by
    unfold okC at h
    first | exact absurd h Bool.false_ne_true | (split at h <;> first | contradiction | (rename_i heq; cases heq) | (exfalso; simp_all))
  | .sole _, X, W, es, S, h => by
    unfold okC at h
    first | exact absurd h Bool.false_ne_true | (split at h <;> first | contradiction | (rename_i heq; cases heq) | (exfalso; simp_all))
  | .two _ _, X, W, es, S, h => by
    unfold okC at h
    first | exact absurd h Bool.false_ne_true | (split at h <;> first | contradiction | (rename_i heq; cases heq) | (exfalso; simp_all))
  | .bi _ _, X, W, es, S, h => by
    unfold okC at h
    first | exact absurd h Bool.false_ne_true | (split at h <;> first | contradiction | (rename_i heq; cases heq) | (exfalso; simp_all))
  | .isi _ _, X, W, es, S, h => by
    unfold okC at h
    first | exact absurd h Bool.false_ne_true | (split at h <;> first | contradiction | (rename_i heq; cases heq) | (exfalso; simp_all))
  | .xf _ _, X, W, es, S, h => by
    unfold okC at h
    first | exact absurd h Bool.false_ne_true | (split at h <;> first | contradiction | (rename_i heq; cases heq) | (exfalso; simp_all))
  | .xi _ _, X, W, es, S, h => by
    unfold okC at h
    first | exact absurd h Bool.false_ne_true | (split at h <;> first | contradiction | (rename_i heq; cases heq) | (exfalso; simp_all))
  | .mt _ _ _, X, W, es, S, h => by
    unfold okC at h
    first | exact absurd h Bool.false_ne_true | (split at h <;> first | contradiction | (rename_i heq; cases heq) | (exfalso; simp_all))
  | .app _ _, X, W, es, S, h => by
    unfold okC at h
    first | exact absurd h Bool.false_ne_true | (split at h <;> first | contradiction | (rename_i heq; cases heq) | (exfalso; simp_all))
  | .fld _ _, X, W, es, S, h => by
    unfold okC at h
    first | exact absurd h Bool.false_ne_true | (split at h <;> first | contradiction | (rename_i heq; cases heq) | (exfalso; simp_all))
  | .ix _ _, X, W, es, S, h => by
    unfold okC at h
    first | exact absurd h Bool.false_ne_true | (split at h <;> first | contradiction | (rename_i heq; cases heq) | (exfalso; simp_all))
  | .sl _ _ _, X, W, es, S, h => by
    unfold okC at h
    first | exact absurd h Bool.false_ne_true | (split at h <;> first | contradiction | (rename_i heq; cases heq) | (exfalso; simp_all))
  | .tup _, X, W, es, S, h => by
    unfold okC at h
    first | exact absurd h Bool.false_ne_true | (split at h <;> first | contradiction | (rename_i heq; cases heq) | (exfalso; simp_all))
  | .lst _, X, W, es, S, h => by
    unfold okC at h
    first | exact absurd h Bool.false_ne_true | (split at h <;> first | contradiction | (rename_i heq; cases heq) | (exfalso; simp_all))
  | .lc _ _ _ _ _ _, X, W, es, S, h => by
    unfold okC at h
    first | exact absurd h Bool.false_ne_true | (split at h <;> first | contradiction | (rename_i heq; cases heq) | (exfalso; simp_all))
  | .lc2 _ _ _ _ _ _ _ _ _ _ _, X, W, es, S, h => by
    unfold okC at h
    first | exact absurd h Bool.false_ne_true | (split at h <;> first | contradiction | (rename_i heq; cases heq) | (exfalso; simp_all))
  | .tst _, X, W, es, S, h => by
    unfold okC at h
    first | exact absurd h Bool.false_ne_true | (split at h <;> first | contradiction | (rename_i heq; cases heq) | (exfalso; simp_all))
  | .nil, X, W, es, S, h => by
    unfold okC at h
    first | exact absurd h Bool.false_ne_true | (split at h <;> first | contradiction | (rename_i heq; cases heq) | (exfalso; simp_all))
  | .cons _ _, X, W, es, S, h => by
    unfold okC at h
    first | exact absurd h Bool.false_ne_true | (split at h <;> first | contradiction | (rename_i heq; cases heq) | (exfalso; simp_all))
  | .xt _ _ _, X, W, es, S, h => by
    unfold okC at h
    first | exact absurd h Bool.false_ne_true | (split at h <;> first | contradiction | (rename_i heq; cases heq) | (exfalso; simp_all))
termination_by structural cd => cd
theorem sdT {c : Cst} {T : Tab} {N : List Str} {lv : Nat} {o : Orc} : ∀ (cd : C) (X : Cx) (W : WX) (e : Expr), Sd X c T N lv o W → okT T N cd X.env.scope e = true → PT X e (rdT c W (evT o c.bd cd))
  | .not a, X, W, e, S, h => by
    unfold okT at h
    split at h <;> first | contradiction | skip
    rename_i heq
    injection heq with e0
    subst e0
    exact s_notT (sdT a X W _ S h)
  | .bop op a b, X, W, e, S, h => by
    unfold okT at h
    split at h <;> first | contradiction | skip
    rename_i heq
    injection heq with e0 e1 e2
    subst e0
    subst e1
    subst e2
    simp only [Bool.and_eq_true, decide_eq_true_eq, Bool.not_eq_true'] at h
    obtain ⟨⟨rfl, h1⟩, h2⟩ := h
    exact (s_bopT (sdT a X W _ S h1) (sdW b X W _ _ _ S h2)).pt
  | .tst a, X, W, e, S, h => by
    unfold okT at h
    simp only [Bool.and_eq_true, decide_eq_true_eq, Bool.not_eq_true'] at h
    exact s_tst S.G.K (sdE a X W _ S h.1) (tst_is h.2)
  | .cmp op a b, X, W, e, S, h => by
    unfold okT at h
    split at h <;> first | contradiction | skip
    rename_i heq
    injection heq with e0 e1 e2
    subst e0
    subst e1
    subst e2
    simp only [Bool.and_eq_true, decide_eq_true_eq, Bool.not_eq_true'] at h
    obtain ⟨⟨⟨rfl, h1⟩, h2⟩, h3⟩ := h
    exact s_cmpT S.G.toGd (sdE a X W _ S h1) (sdE b X W _ S h2) h3
  | .int _, X, W, e, S, h => by
    unfold okT at h
    first | exact absurd h Bool.false_ne_true | (split at h <;> first | contradiction | (rename_i heq; cases heq) | (exfalso; simp_all))
  | .bl _, X, W, e, S, h => by
    unfold okT at h
    first | exact absurd h Bool.false_ne_true | (split at h <;> first | contradiction | (rename_i heq; cases heq) | (exfalso; simp_all))
  | .non, X, W, e, S, h => by
    unfold okT at h
    first | exact absurd h Bool.false_ne_true | (split at h <;> first | contradiction | (rename_i heq; cases heq) | (exfalso; simp_all))
  | .str _, X, W, e, S, h => by
    unfold okT at h
    first | exact absurd h Bool.false_ne_true | (split at h <;> first | contradiction | (rename_i heq; cases heq) | (exfalso; simp_all))
  | .var _, X, W, e, S, h => by
    unfold okT at h
    first | exact absurd h Bool.false_ne_true | (split at h <;> first | contradiction | (rename_i heq; cases heq) | (exfalso; simp_all))
  | .pk _, X, W, e, S, h => by
    unfold okT at h
    first | exact absurd h Bool.false_ne_true | (split at h <;> first | contradiction | (rename_i heq; cases heq) | (exfalso; simp_all))
  | .gl _, X, W, e, S, h => by
    unfold okT at h
    first | exact absurd h Bool.false_ne_true | (split at h <;> first | contradiction | (rename_i heq; cases heq) | (exfalso; simp_all))
  | .bin _ _ _, X, W, e, S, h => by
    unfold okT at h
    first | exact absurd h Bool.false_ne_true | (split at h <;> first | contradiction | (rename_i heq; cases heq) | (exfalso; simp_all))
  | .neg _, X, W, e, S, h => by
    unfold okT at h
    first | exact absurd h Bool.false_ne_true | (split at h <;> first | contradiction | (rename_i heq; cases heq) | (exfalso; simp_all))
  | .one _ _, X, W, e, S, h => by
    unfold okT at h
    first | exact absurd h Bool.false_ne_true | (split at h <;> first | contradiction | (rename_i heq; cases heq) | (exfalso; simp_all))
  | .chn op op' a b c', X, W, e, S, h => by
    unfold okT at h
    split at h <;> first | contradiction | skip
    rename_i heq
    injection heq with e0 e1 e2 e3 e4
    subst e0
    subst e1
    subst e2
    subst e3
    subst e4
    simp only [Bool.and_eq_true, decide_eq_true_eq, Bool.not_eq_true'] at h
    obtain ⟨⟨⟨⟨⟨rfl, rfl⟩, h1⟩, h2⟩, h3⟩, h4⟩ := h
    exact s_chnT S.G.toGd (sdE a X W _ S h1) (sdE b X W _ S h2) (sdE c' X W _ S h3) h4
  | .ite _ _ _, X, W, e, S, h => by
    unfold okT at h
    first | exact absurd h Bool.false_ne_true | (split at h <;> first | contradiction | (rename_i heq; cases heq) | (exfalso; simp_all))
  | .cal _ _, X, W, e, S, h => by
    unfold okT at h
    first | exact absurd h Bool.false_ne_true | (split at h <;> first | contradiction | (rename_i heq; cases heq) | (exfalso; simp_all))
  | .mak _ _, X, W, e, S, h => by
    unfold okT at h
    first | exact absurd h Bool.false_ne_true | (split at h <;> first | contradiction | (rename_i heq; cases heq) | (exfalso; simp_all))
  | .sole _, X, W, e, S, h => by
    unfold okT at h
    first | exact absurd h Bool.false_ne_true | (split at h <;> first | contradiction | (rename_i heq; cases heq) | (exfalso; simp_all))
  | .two _ _, X, W, e, S, h => by
    unfold okT at h
    first | exact absurd h Bool.false_ne_true | (split at h <;> first | contradiction | (rename_i heq; cases heq) | (exfalso; simp_all))
  | .bi _ _, X, W, e, S, h => by
    unfold okT at h
    first | exact absurd h Bool.false_ne_true | (split at h <;> first | contradiction | (rename_i heq; cases heq) | (exfalso; simp_all))
  | .isi _ _, X, W, e, S, h => by
    unfold okT at h
    first | exact absurd h Bool.false_ne_true | (split at h <;> first | contradiction | (rename_i heq; cases heq) | (exfalso; simp_all))
  | .xf _ _, X, W, e, S, h => by
    unfold okT at h
    first | exact absurd h Bool.false_ne_true | (split at h <;> first | contradiction | (rename_i heq; cases heq) | (exfalso; simp_all))
  | .xi _ _, X, W, e, S, h => by
    unfold okT at h
    first | exact absurd h Bool.false_ne_true | (split at h <;> first | contradiction | (rename_i heq; cases heq) | (exfalso; simp_all))
  | .mt _ _ _, X, W, e, S, h => by
    unfold okT at h
    first | exact absurd h Bool.false_ne_true | (split at h <;> first | contradiction | (rename_i heq; cases heq) | (exfalso; simp_all))
  | .app _ _, X, W, e, S, h => by
    unfold okT at h
    first | exact absurd h Bool.false_ne_true | (split at h <;> first | contradiction | (rename_i heq; cases heq) | (exfalso; simp_all))
  | .fld _ _, X, W, e, S, h => by
    unfold okT at h
    first | exact absurd h Bool.false_ne_true | (split at h <;> first | contradiction | (rename_i heq; cases heq) | (exfalso; simp_all))
  | .ix _ _, X, W, e, S, h => by
    unfold okT at h
    first | exact absurd h Bool.false_ne_true | (split at h <;> first | contradiction | (rename_i heq; cases heq) | (exfalso; simp_all))
  | .sl _ _ _, X, W, e, S, h => by
    unfold okT at h
    first | exact absurd h Bool.false_ne_true | (split at h <;> first | contradiction | (rename_i heq; cases heq) | (exfalso; simp_all))
  | .tup _, X, W, e, S, h => by
    unfold okT at h
    first | exact absurd h Bool.false_ne_true | (split at h <;> first | contradiction | (rename_i heq; cases heq) | (exfalso; simp_all))
  | .lst _, X, W, e, S, h => by
    unfold okT at h
    first | exact absurd h Bool.false_ne_true | (split at h <;> first | contradiction | (rename_i heq; cases heq) | (exfalso; simp_all))
  | .lc _ _ _ _ _ _, X, W, e, S, h => by
    unfold okT at h
    first | exact absurd h Bool.false_ne_true | (split at h <;> first | contradiction | (rename_i heq; cases heq) | (exfalso; simp_all))
  | .lc2 _ _ _ _ _ _ _ _ _ _ _, X, W, e, S, h => by
    unfold okT at h
    first | exact absurd h Bool.false_ne_true | (split at h <;> first | contradiction | (rename_i heq; cases heq) | (exfalso; simp_all))
  | .yes, X, W, e, S, h => by
    unfold okT at h
    first | exact absurd h Bool.false_ne_true | (split at h <;> first | contradiction | (rename_i heq; cases heq) | (exfalso; simp_all))
  | .nil, X, W, e, S, h => by
    unfold okT at h
    first | exact absurd h Bool.false_ne_true | (split at h <;> first | contradiction | (rename_i heq; cases heq) | (exfalso; simp_all))
  | .cons _ _, X, W, e, S, h => by
    unfold okT at h
    first | exact absurd h Bool.false_ne_true | (split at h <;> first | contradiction | (rename_i heq; cases heq) | (exfalso; simp_all))
  | .xt _ _ _, X, W, e, S, h => by
    unfold okT at h
    first | exact absurd h Bool.false_ne_true | (split at h <;> first | contradiction | (rename_i heq; cases heq) | (exfalso; simp_all))
termination_by structural cd => cd
theorem sdV {c : Cst} {T : Tab} {N : List Str} {lv : Nat} {o : Orc} : ∀ (cd : C) (X : Cx) (W : WX) (op : BoolOp) (es : List Expr) (pos : Pos), Sd X c T N lv o W → okV T N cd X.env.scope op es = true → PE X (.BoolOp op es pos) (rdE c W (evE o c.bd cd))
  | .one op' a, X, W, op, es, pos, S, h => by
    unfold okV at h
    split at h <;> first | contradiction | skip
    rename_i heq
    injection heq with e0 e1
    subst e0
    subst e1
    exact pe_one (sdE a X W _ S h)
  | .bop op' a b, X, W, op, es, pos, S, h => by
    unfold okV at h
    split at h <;> first | contradiction | skip
    rename_i heq
    injection heq with e0 e1 e2
    subst e0
    subst e1
    subst e2
    simp only [Bool.and_eq_true, decide_eq_true_eq, Bool.not_eq_true'] at h
    obtain ⟨⟨rfl, h1⟩, h2⟩ := h
    exact s_bop S.G.K (sdE a X W _ S h1) (sdV b X W _ _ _ S h2)
  | .int _, X, W, op, es, pos, S, h => by
    unfold okV at h
    first | exact absurd h Bool.false_ne_true | (split at h <;> first | contradiction | (rename_i heq; cases heq) | (exfalso; simp_all))
  | .bl _, X, W, op, es, pos, S, h => by
    unfold okV at h
    first | exact absurd h Bool.false_ne_true | (split at h <;> first | contradiction | (rename_i heq; cases heq) | (exfalso; simp_all))
  | .non, X, W, op, es, pos, S, h => by
    unfold okV at h
    first | exact absurd h Bool.false_ne_true | (split at h <;> first | contradiction | (rename_i heq; cases heq) | (exfalso; simp_all))
  | .str _, X, W, op, es, pos, S, h => by
    unfold okV at h
    first | exact absurd h Bool.false_ne_true | (split at h <;> first | contradiction | (rename_i heq; cases heq) | (exfalso; simp_all))
  | .var _, X, W, op, es, pos, S, h => by
    unfold okV at h
    first | exact absurd h Bool.false_ne_true | (split at h <;> first | contradiction | (rename_i heq; cases heq) | (exfalso; simp_all))
  | .pk _, X, W, op, es, pos, S, h => by
    unfold okV at h
    first | exact absurd h Bool.false_ne_true | (split at h <;> first | contradiction | (rename_i heq; cases heq) | (exfalso; simp_all))
  | .gl _, X, W, op, es, pos, S, h => by
    unfold okV at h
    first | exact absurd h Bool.false_ne_true | (split at h <;> first | contradiction | (rename_i heq; cases heq) | (exfalso; simp_all))
  | .bin _ _ _, X, W, op, es, pos, S, h => by
    unfold okV at h
    first | exact absurd h Bool.false_ne_true | (split at h <;> first | contradiction | (rename_i heq; cases heq) | (exfalso; simp_all))
  | .neg _, X, W, op, es, pos, S, h => by
    unfold okV at h
    first | exact absurd h Bool.false_ne_true | (split at h <;> first | contradiction | (rename_i heq; cases heq) | (exfalso; simp_all))
  | .not _, X, W, op, es, pos, S, h => by
    unfold okV at h
    first | exact absurd h Bool.false_ne_true | (split at h <;> first | contradiction | (rename_i heq; cases heq) | (exfalso; simp_all))
  | .cmp _ _ _, X, W, op, es, pos, S, h => by
    unfold okV at h
    first | exact absurd h Bool.false_ne_true | (split at h <;> first | contradiction | (rename_i heq; cases heq) | (exfalso; simp_all))
  | .chn _ _ _ _ _, X, W, op, es, pos, S, h => by
    unfold okV at h
    first | exact absurd h Bool.false_ne_true | (split at h <;> first | contradiction | (rename_i heq; cases heq) | (exfalso; simp_all))
  | .ite _ _ _, X, W, op, es, pos, S, h => by
    unfold okV at h
    first | exact absurd h Bool.false_ne_true | (split at h <;> first | contradiction | (rename_i heq; cases heq) | (exfalso; simp_all))
  | .cal _ _, X, W, op, es, pos, S, h => by
    unfold okV at h
    first | exact absurd h Bool.false_ne_true | (split at h <;> first | contradiction | (rename_i heq; cases heq) | (exfalso; simp_all))
  | .mak _ _, X, W, op, es, pos, S, h => by
    unfold okV at h
    first | exact absurd h Bool.false_ne_true | (split at h <;> first | contradiction | (rename_i heq; cases heq) | (exfalso; simp_all))
  | .sole _, X, W, op, es, pos, S, h => by
    unfold okV at h
    first | exact absurd h Bool.false_ne_true | (split at h <;> first | contradiction | (rename_i heq; cases heq) | (exfalso; simp_all))
  | .two _ _, X, W, op, es, pos, S, h => by
    unfold okV at h
    first | exact absurd h Bool.false_ne_true | (split at h <;> first | contradiction | (rename_i heq; cases heq) | (exfalso; simp_all))
  | .bi _ _, X, W, op, es, pos, S, h => by
    unfold okV at h
    first | exact absurd h Bool.false_ne_true | (split at h <;> first | contradiction | (rename_i heq; cases heq) | (exfalso; simp_all))
  | .isi _ _, X, W, op, es, pos, S, h => by
    unfold okV at h
    first | exact absurd h Bool.false_ne_true | (split at h <;> first | contradiction | (rename_i heq; cases heq) | (exfalso; simp_all))
  | .xf _ _, X, W, op, es, pos, S, h => by
    unfold okV at h
    first | exact absurd h Bool.false_ne_true | (split at h <;> first | contradiction | (rename_i heq; cases heq) | (exfalso; simp_all))
  | .xi _ _, X, W, op, es, pos, S, h => by
    unfold okV at h
    first | exact absurd h Bool.false_ne_true | (split at h <;> first | contradiction | (rename_i heq; cases heq) | (exfalso; simp_all))
  | .mt _ _ _, X, W, op, es, pos, S, h => by
    unfold okV at h
    first | exact absurd h Bool.false_ne_true | (split at h <;> first | contradiction | (rename_i heq; cases heq) | (exfalso; simp_all))
  | .app _ _, X, W, op, es, pos, S, h => by
    unfold okV at h
    first | exact absurd h Bool.false_ne_true | (split at h <;> first | contradiction | (rename_i heq; cases heq) | (exfalso; simp_all))
  | .fld _ _, X, W, op, es, pos, S, h => by
    unfold okV at h
    first | exact absurd h Bool.false_ne_true | (split at h <;> first | contradiction | (rename_i heq; cases heq) | (exfalso; simp_all))
  | .ix _ _, X, W, op, es, pos, S, h => by
    unfold okV at h
    first | exact absurd h Bool.false_ne_true | (split at h <;> first | contradiction | (rename_i heq; cases heq) | (exfalso; simp_all))
  | .sl _ _ _, X, W, op, es, pos, S, h => by
    unfold okV at h
    first | exact absurd h Bool.false_ne_true | (split at h <;> first | contradiction | (rename_i heq; cases heq) | (exfalso; simp_all))
  | .tup _, X, W, op, es, pos, S, h => by
    unfold okV at h
    first | exact absurd h Bool.false_ne_true | (split at h <;> first | contradiction | (rename_i heq; cases heq) | (exfalso; simp_all))
  | .lst _, X, W, op, es, pos, S, h => by
    unfold okV at h
    first | exact absurd h Bool.false_ne_true | (split at h <;> first | contradiction | (rename_i heq; cases heq) | (exfalso; simp_all))
  | .lc _ _ _ _ _ _, X, W, op, es, pos, S, h => by
    unfold okV at h
    first | exact absurd h Bool.false_ne_true | (split at h <;> first | contradiction | (rename_i heq; cases heq) | (exfalso; simp_all))
  | .lc2 _ _ _ _ _ _ _ _ _ _ _, X, W, op, es, pos, S, h => by
    unfold okV at h
    first | exact absurd h Bool.false_ne_true | (split at h <;> first | contradiction | (rename_i heq; cases heq) | (exfalso; simp_all))
  | .yes, X, W, op, es, pos, S, h => by
    unfold okV at h
    first | exact absurd h Bool.false_ne_true | (split at h <;> first | contradiction | (rename_i heq; cases heq) | (exfalso; simp_all))
  | .tst _, X, W, op, es, pos, S, h => by
    unfold okV at h
    first | exact absurd h Bool.false_ne_true | (split at h <;> first | contradiction | (rename_i heq; cases heq) | (exfalso; simp_all))
  | .nil, X, W, op, es, pos, S, h => by
    unfold okV at h
    first | exact absurd h Bool.false_ne_true | (split at h <;> first | contradiction | (rename_i heq; cases heq) | (exfalso; simp_all))
  | .cons _ _, X, W, op, es, pos, S, h => by
    unfold okV at h
    first | exact absurd h Bool.false_ne_true | (split at h <;> first | contradiction | (rename_i heq; cases heq) | (exfalso; simp_all))
  | .xt _ _ _, X, W, op, es, pos, S, h => by
    unfold okV at h
    first | exact absurd h Bool.false_ne_true | (split at h <;> first | contradiction | (rename_i heq; cases heq) | (exfalso; simp_all))
termination_by structural cd => cd
theorem sdW {c : Cst} {T : Tab} {N : List Str} {lv : Nat} {o : Orc} : ∀ (cd : C) (X : Cx) (W : WX) (op : BoolOp) (es : List Expr) (pos : Pos), Sd X c T N lv o W → okW T N cd X.env.scope op es = true → PW X (.BoolOp op es pos) (rdT c W (evT o c.bd cd))
  | .one op' a, X, W, op, es, pos, S, h => by
    unfold okW at h
    split at h <;> first | contradiction | skip
    rename_i heq
    injection heq with e0 e1
    subst e0
    subst e1
    exact s_oneT (sdT a X W _ S h)
  | .bop op' a b, X, W, op, es, pos, S, h => by
    unfold okW at h
    split at h <;> first | contradiction | skip
    rename_i heq
    injection heq with e0 e1 e2
    subst e0
    subst e1
    subst e2
    simp only [Bool.and_eq_true, decide_eq_true_eq, Bool.not_eq_true'] at h
    obtain ⟨⟨rfl, h1⟩, h2⟩ := h
    exact s_bopT (sdT a X W _ S h1) (sdW b X W _ _ _ S h2)
  | .int _, X, W, op, es, pos, S, h => by
    unfold okW at h
    first | exact absurd h Bool.false_ne_true | (split at h <;> first | contradiction | (rename_i heq; cases heq) | (exfalso; simp_all))
  | .bl _, X, W, op, es, pos, S, h => by
    unfold okW at h
    first | exact absurd h Bool.false_ne_true | (split at h <;> first | contradiction | (rename_i heq; cases heq) | (exfalso; simp_all))
  | .non, X, W, op, es, pos, S, h => by
    unfold okW at h
    first | exact absurd h Bool.false_ne_true | (split at h <;> first | contradiction | (rename_i heq; cases heq) | (exfalso; simp_all))
  | .str _, X, W, op, es, pos, S, h => by
    unfold okW at h
    first | exact absurd h Bool.false_ne_true | (split at h <;> first | contradiction | (rename_i heq; cases heq) | (exfalso; simp_all))
  | .var _, X, W, op, es, pos, S, h => by
    unfold okW at h
    first | exact absurd h Bool.false_ne_true | (split at h <;> first | contradiction | (rename_i heq; cases heq) | (exfalso; simp_all))
  | .pk _, X, W, op, es, pos, S, h => by
    unfold okW at h
    first | exact absurd h Bool.false_ne_true | (split at h <;> first | contradiction | (rename_i heq; cases heq) | (exfalso; simp_all))
  | .gl _, X, W, op, es, pos, S, h => by
    unfold okW at h
    first | exact absurd h Bool.false_ne_true | (split at h <;> first | contradiction | (rename_i heq; cases heq) | (exfalso; simp_all))
  | .bin _ _ _, X, W, op, es, pos, S, h => by
    unfold okW at h
    first | exact absurd h Bool.false_ne_true | (split at h <;> first | contradiction | (rename_i heq; cases heq) | (exfalso; simp_all))
  | .neg _, X, W, op, es, pos, S, h => by
    unfold okW at h
    first | exact absurd h Bool.false_ne_true | (split at h <;> first | contradiction | (rename_i heq; cases heq) | (exfalso; simp_all))
  | .not _, X, W, op, es, pos, S, h => by
    unfold okW at h
    first | exact absurd h Bool.false_ne_true | (split at h <;> first | contradiction | (rename_i heq; cases heq) | (exfalso; simp_all))
  | .cmp _ _ _, X, W, op, es, pos, S, h => by
    unfold okW at h
    first | exact absurd h Bool.false_ne_true | (split at h <;> first | contradiction | (rename_i heq; cases heq) | (exfalso; simp_all))
  | .chn _ _ _ _ _, X, W, op, es, pos, S, h => by
    unfold okW at h
    first | exact absurd h Bool.false_ne_true | (split at h <;> first | contradiction | (rename_i heq; cases heq) | (exfalso; simp_all))
  | .ite _ _ _, X, W, op, es, pos, S, h => by
    unfold okW at h
    first | exact absurd h Bool.false_ne_true | (split at h <;> first | contradiction | (rename_i heq; cases heq) | (exfalso; simp_all))
  | .cal _ _, X, W, op, es, pos, S, h => by
    unfold okW at h
    first | exact absurd h Bool.false_ne_true | (split at h <;> first | contradiction | (rename_i heq; cases heq) | (exfalso; simp_all))
  | .mak _ _, X, W, op, es, pos, S, h => by
    unfold okW at h
    first | exact absurd h Bool.false_ne_true | (split at h <;> first | contradiction | (rename_i heq; cases heq) | (exfalso; simp_all))
  | .sole _, X, W, op, es, pos, S, h => by
    unfold okW at h
    first | exact absurd h Bool.false_ne_true | (split at h <;> first | contradiction | (rename_i heq; cases heq) | (exfalso; simp_all))
  | .two _ _, X, W, op, es, pos, S, h => by
    unfold okW at h
    first | exact absurd h Bool.false_ne_true | (split at h <;> first | contradiction | (rename_i heq; cases heq) | (exfalso; simp_all))
  | .bi _ _, X, W, op, es, pos, S, h => by
    unfold okW at h
    first | exact absurd h Bool.false_ne_true | (split at h <;> first | contradiction | (rename_i heq; cases heq) | (exfalso; simp_all))
  | .isi _ _, X, W, op, es, pos, S, h => by
    unfold okW at h
    first | exact absurd h Bool.false_ne_true | (split at h <;> first | contradiction | (rename_i heq; cases heq) | (exfalso; simp_all))
  | .xf _ _, X, W, op, es, pos, S, h => by
    unfold okW at h
    first | exact absurd h Bool.false_ne_true | (split at h <;> first | contradiction | (rename_i heq; cases heq) | (exfalso; simp_all))
  | .xi _ _, X, W, op, es, pos, S, h => by
    unfold okW at h
    first | exact absurd h Bool.false_ne_true | (split at h <;> first | contradiction | (rename_i heq; cases heq) | (exfalso; simp_all))
  | .mt _ _ _, X, W, op, es, pos, S, h => by
    unfold okW at h
    first | exact absurd h Bool.false_ne_true | (split at h <;> first | contradiction | (rename_i heq; cases heq) | (exfalso; simp_all))
  | .app _ _, X, W, op, es, pos, S, h => by
    unfold okW at h
    first | exact absurd h Bool.false_ne_true | (split at h <;> first | contradiction | (rename_i heq; cases heq) | (exfalso; simp_all))
  | .fld _ _, X, W, op, es, pos, S, h => by
    unfold okW at h
    first | exact absurd h Bool.false_ne_true | (split at h <;> first | contradiction | (rename_i heq; cases heq) | (exfalso; simp_all))
  | .ix _ _, X, W, op, es, pos, S, h => by
    unfold okW at h
    first | exact absurd h Bool.false_ne_true | (split at h <;> first | contradiction | (rename_i heq; cases heq) | (exfalso; simp_all))
  | .sl _ _ _, X, W, op, es, pos, S, h => by
    unfold okW at h
    first | exact absurd h Bool.false_ne_true | (split at h <;> first | contradiction | (rename_i heq; cases heq) | (exfalso; simp_all))
  | .tup _, X, W, op, es, pos, S, h => by
    unfold okW at h
    first | exact absurd h Bool.false_ne_true | (split at h <;> first | contradiction | (rename_i heq; cases heq) | (exfalso; simp_all))
  | .lst _, X, W, op, es, pos, S, h => by
    unfold okW at h
    first | exact absurd h Bool.false_ne_true | (split at h <;> first | contradiction | (rename_i heq; cases heq) | (exfalso; simp_all))
  | .lc _ _ _ _ _ _, X, W, op, es, pos, S, h => by
    unfold okW at h
    first | exact absurd h Bool.false_ne_true | (split at h <;> first | contradiction | (rename_i heq; cases heq) | (exfalso; simp_all))
  | .lc2 _ _ _ _ _ _ _ _ _ _ _, X, W, op, es, pos, S, h => by
    unfold okW at h
    first | exact absurd h Bool.false_ne_true | (split at h <;> first | contradiction | (rename_i heq; cases heq) | (exfalso; simp_all))
  | .yes, X, W, op, es, pos, S, h => by
    unfold okW at h
    first | exact absurd h Bool.false_ne_true | (split at h <;> first | contradiction | (rename_i heq; cases heq) | (exfalso; simp_all))
  | .tst _, X, W, op, es, pos, S, h => by
    unfold okW at h
    first | exact absurd h Bool.false_ne_true | (split at h <;> first | contradiction | (rename_i heq; cases heq) | (exfalso; simp_all))
  | .nil, X, W, op, es, pos, S, h => by
    unfold okW at h
    first | exact absurd h Bool.false_ne_true | (split at h <;> first | contradiction | (rename_i heq; cases heq) | (exfalso; simp_all))
  | .cons _ _, X, W, op, es, pos, S, h => by
    unfold okW at h
    first | exact absurd h Bool.false_ne_true | (split at h <;> first | contradiction | (rename_i heq; cases heq) | (exfalso; simp_all))
  | .xt _ _ _, X, W, op, es, pos, S, h => by
    unfold okW at h
    first | exact absurd h Bool.false_ne_true | (split at h <;> first | contradiction | (rename_i heq; cases heq) | (exfalso; simp_all))
termination_by structural cd => cd
theorem sdA {c : Cst} {T : Tab} {N : List Str} {lv : Nat} {o : Orc} : ∀ (cd : C) (X : Cx) (W : WX) (es : List Expr), Sd X c T N lv o W → okA T N cd X.env.scope es = true → PA X es (rdA c W (evA o c.bd cd))
  | .nil, X, W, es, S, h => by
    unfold okA at h
    split at h <;> first | contradiction | skip
    exact s_nil
  | .cons a r, X, W, es, S, h => by
    unfold okA at h
    split at h <;> first | contradiction | skip
    rename_i heq
    injection heq with e0 e1
    subst e0
    subst e1
    simp only [Bool.and_eq_true, decide_eq_true_eq, Bool.not_eq_true'] at h
    exact s_cons (sdE a X W _ S h.1.1) (sdA r X W _ S h.2) (star_cons h.1.2)
  | .int _, X, W, es, S, h => by
    unfold okA at h
    first | exact absurd h Bool.false_ne_true | (split at h <;> first | contradiction | (rename_i heq; cases heq) | (exfalso; simp_all))
  | .bl _, X, W, es, S, h => by
    unfold okA at h
    first | exact absurd h Bool.false_ne_true | (split at h <;> first | contradiction | (rename_i heq; cases heq) | (exfalso; simp_all))
  | .non, X, W, es, S, h => by
    unfold okA at h
    first | exact absurd h Bool.false_ne_true | (split at h <;> first | contradiction | (rename_i heq; cases heq) | (exfalso; simp_all))
  | .str _, X, W, es, S, h => by
    unfold okA at h
    first | exact absurd h Bool.false_ne_true | (split at h <;> first | contradiction | (rename_i heq; cases heq) | (exfalso; simp_all))
  | .var _, X, W, es, S, h => by
    unfold okA at h
    first | exact absurd h Bool.false_ne_true | (split at h <;> first | contradiction | (rename_i heq; cases heq) | (exfalso; simp_all))
  | .pk _, X, W, es, S, h => by
    unfold okA at h
    first | exact absurd h Bool.false_ne_true | (split at h <;> first | contradiction | (rename_i heq; cases heq) | (exfalso; simp_all))
  | .gl _, X, W, es, S, h => by
    unfold okA at h
    first | exact absurd h Bool.false_ne_true | (split at h <;> first | contradiction | (rename_i heq; cases heq) | (exfalso; simp_all))
  | .bin _ _ _, X, W, es, S, h => by
    unfold okA at h
    first | exact absurd h Bool.false_ne_true | (split at h <;> first | contradiction | (rename_i heq; cases heq) | (exfalso; simp_all))
  | .neg _, X, W, es, S, h => by
    unfold okA at h
    first | exact absurd h Bool.false_ne_true | (split at h <;> first | contradiction | (rename_i heq; cases heq) | (exfalso; simp_all))
  | .not _, X, W, es, S, h => by
    unfold okA at h
    first | exact absurd h Bool.false_ne_true | (split at h <;> first | contradiction | (rename_i heq; cases heq) | (exfalso; simp_all))
  | .bop _ _ _, X, W, es, S, h => by
    unfold okA at h
    first | exact absurd h Bool.false_ne_true | (split at h <;> first | contradiction | (rename_i heq; cases heq) | (exfalso; simp_all))
  | .one _ _, X, W, es, S, h => by
    unfold okA at h
    first | exact absurd h Bool.false_ne_true | (split at h <;> first | contradiction | (rename_i heq; cases heq) | (exfalso; simp_all))
  | .cmp _ _ _, X, W, es, S, h => by
    unfold okA at h
    first | exact absurd h Bool.false_ne_true | (split at h <;> first | contradiction | (rename_i heq; cases heq) | (exfalso; simp_all))
  | .chn _ _ _ _ _, X, W, es, S, h => by
    unfold okA at h
    first | exact absurd h Bool.false_ne_true | (split at h <;> first | contradiction | (rename_i heq; cases heq) | (exfalso; simp_all))
  | .ite _ _ _, X, W, es, S, h => by
    unfold okA at h
    first | exact absurd h Bool.false_ne_true | (split at h <;> first | contradiction | (rename_i heq; cases heq) | (exfalso; simp_all))
  | .cal _ _, X, W, es, S, h => by
    unfold okA at h
    first | exact absurd h Bool.false_ne_true | (split at h <;> first | contradiction | (rename_i heq; cases heq) | (exfalso; simp_all))
  | .mak _ _, X, W, es, S, h => by
    unfold okA at h
    first | exact absurd h Bool.false_ne_true | (split at h <;> first | contradiction | (rename_i heq; cases heq) | (exfalso; simp_all))
  | .sole _, X, W, es, S, h => by
    unfold okA at h
    first | exact absurd h Bool.false_ne_true | (split at h <;> first | contradiction | (rename_i heq; cases heq) | (exfalso; simp_all))
  | .two _ _, X, W, es, S, h => by
    unfold okA at h
    first | exact absurd h Bool.false_ne_true | (split at h <;> first | contradiction | (rename_i heq; cases heq) | (exfalso; simp_all))
  | .bi _ _, X, W, es, S, h => by
    unfold okA at h
    first | exact absurd h Bool.false_ne_true | (split at h <;> first | contradiction | (rename_i heq; cases heq) | (exfalso; simp_all))
  | .isi _ _, X, W, es, S, h => by
    unfold okA at h
    first | exact absurd h Bool.false_ne_true | (split at h <;> first | contradiction | (rename_i heq; cases heq) | (exfalso; simp_all))
  | .xf _ _, X, W, es, S, h => by
    unfold okA at h
    first | exact absurd h Bool.false_ne_true | (split at h <;> first | contradiction | (rename_i heq; cases heq) | (exfalso; simp_all))
  | .xi _ _, X, W, es, S, h => by
    unfold okA at h
    first | exact absurd h Bool.false_ne_true | (split at h <;> first | contradiction | (rename_i heq; cases heq) | (exfalso; simp_all))
  | .mt _ _ _, X, W, es, S, h => by
    unfold okA at h
    first | exact absurd h Bool.false_ne_true | (split at h <;> first | contradiction | (rename_i heq; cases heq) | (exfalso; simp_all))
  | .app _ _, X, W, es, S, h => by
    unfold okA at h
    first | exact absurd h Bool.false_ne_true | (split at h <;> first | contradiction | (rename_i heq; cases heq) | (exfalso; simp_all))
  | .fld _ _, X, W, es, S, h => by
    unfold okA at h
    first | exact absurd h Bool.false_ne_true | (split at h <;> first | contradiction | (rename_i heq; cases heq) | (exfalso; simp_all))
  | .ix _ _, X, W, es, S, h => by
    unfold okA at h
    first | exact absurd h Bool.false_ne_true | (split at h <;> first | contradiction | (rename_i heq; cases heq) | (exfalso; simp_all))
  | .sl _ _ _, X, W, es, S, h => by
    unfold okA at h
    first | exact absurd h Bool.false_ne_true | (split at h <;> first | contradiction | (rename_i heq; cases heq) | (exfalso; simp_all))
  | .tup _, X, W, es, S, h => by
    unfold okA at h
    first | exact absurd h Bool.false_ne_true | (split at h <;> first | contradiction | (rename_i heq; cases heq) | (exfalso; simp_all))
  | .lst _, X, W, es, S, h => by
    unfold okA at h
    first | exact absurd h Bool.false_ne_true | (split at h <;> first | contradiction | (rename_i heq; cases heq) | (exfalso; simp_all))
  | .lc _ _ _ _ _ _, X, W, es, S, h => by
    unfold okA at h
    first | exact absurd h Bool.false_ne_true | (split at h <;> first | contradiction | (rename_i heq; cases heq) | (exfalso; simp_all))
  | .lc2 _ _ _ _ _ _ _ _ _ _ _, X, W, es, S, h => by
    unfold okA at h
    first | exact absurd h Bool.false_ne_true | (split at h <;> first | contradiction | (rename_i heq; cases heq) | (exfalso; simp_all))
  | .yes, X, W, es, S, h => by
    unfold okA at h
    first | exact absurd h Bool.false_ne_true | (split at h <;> first | contradiction | (rename_i heq; cases heq) | (exfalso; simp_all))
  | .tst _, X, W, es, S, h => by
    unfold okA at h
    first | exact absurd h Bool.false_ne_true | (split at h <;> first | contradiction | (rename_i heq; cases heq) | (exfalso; simp_all))
  | .xt _ _ _, X, W, es, S, h => by
    unfold okA at h
    first | exact absurd h Bool.false_ne_true | (split at h <;> first | contradiction | (rename_i heq; cases heq) | (exfalso; simp_all))
termination_by structural cd => cd
theorem sdK {c : Cst} {T : Tab} {N : List Str} {lv : Nat} {o : Orc} : ∀ (cd : C) (X : Cx) (W : WX) (kws : List Keyword), Sd X c T N lv o W → okK T N cd X.env.scope kws = true → PK X kws (rdA c W (evA o c.bd cd))
  | .nil, X, W, es, S, h => by
    unfold okK at h
    split at h <;> first | contradiction | skip
    exact s_nilK
  | .cons a r, X, W, es, S, h => by
    unfold okK at h
    split at h <;> first | contradiction | skip
    rename_i heq
    injection heq with e0 e1
    subst e0
    subst e1
    simp only [Bool.and_eq_true, decide_eq_true_eq, Bool.not_eq_true'] at h
    exact s_consK (sdE a X W _ S h.1) (sdK r X W _ S h.2)
  | .int _, X, W, es, S, h => by
    unfold okK at h
    first | exact absurd h Bool.false_ne_true | (split at h <;> first | contradiction | (rename_i heq; cases heq) | (exfalso; simp_all))
  | .bl _, X, W, es, S, h => by
    unfold okK at h
    first | exact absurd h Bool.false_ne_true | (split at h <;> first | contradiction | (rename_i heq; cases heq) | (exfalso; simp_all))
  | .non, X, W, es, S, h => by
    unfold okK at h
    first | exact absurd h Bool.false_ne_true | (split at h <;> first | contradiction | (rename_i heq; cases heq) | (exfalso; simp_all))
  | .str _, X, W, es, S, h => by
    unfold okK at h
    first | exact absurd h Bool.false_ne_true | (split at h <;> first | contradiction | (rename_i heq; cases heq) | (exfalso; simp_all))
  | .var _, X, W, es, S, h => by
    unfold okK at h
    first | exact absurd h Bool.false_ne_true | (split at h <;> first | contradiction | (rename_i heq; cases heq) | (exfalso; simp_all))
  | .pk _, X, W, es, S, h => by
    unfold okK at h
    first | exact absurd h Bool.false_ne_true | (split at h <;> first | contradiction | (rename_i heq; cases heq) | (exfalso; simp_all))
  | .gl _, X, W, es, S, h => by
    unfold okK at h
    first | exact absurd h Bool.false_ne_true | (split at h <;> first | contradiction | (rename_i heq; cases heq) | (exfalso; simp_all))
  | .bin _ _ _, X, W, es, S, h => by
    unfold okK at h
    first | exact absurd h Bool.false_ne_true | (split at h <;> first | contradiction | (rename_i heq; cases heq) | (exfalso; simp_all))
  | .neg _, X, W, es, S, h => by
    unfold okK at h
    first | exact absurd h Bool.false_ne_true | (split at h <;> first | contradiction | (rename_i heq; cases heq) | (exfalso; simp_all))
  | .not _, X, W, es, S, h => by
    unfold okK at h
    first | exact absurd h Bool.false_ne_true | (split at h <;> first | contradiction | (rename_i heq; cases heq) | (exfalso; simp_all))
  | .bop _ _ _, X, W, es, S, h => by
    unfold okK at h
    first | exact absurd h Bool.false_ne_true | (split at h <;> first | contradiction | (rename_i heq; cases heq) | (exfalso; simp_all))
  | .one _ _, X, W, es, S, h => by
    unfold okK at h
    first | exact absurd h Bool.false_ne_true | (split at h <;> first | contradiction | (rename_i heq; cases heq) | (exfalso; simp_all))
  | .cmp _ _ _, X, W, es, S, h => by
    unfold okK at h
    first | exact absurd h Bool.false_ne_true | (split at h <;> first | contradiction | (rename_i heq; cases heq) | (exfalso; simp_all))
  | .chn _ _ _ _ _, X, W, es, S, h => by
    unfold okK at h
    first | exact absurd h Bool.false_ne_true | (split at h <;> first | contradiction | (rename_i heq; cases heq) | (exfalso; simp_all))
  | .ite _ _ _, X, W, es, S, h => by
    unfold okK at h
    first | exact absurd h Bool.false_ne_true | (split at h <;> first | contradiction | (rename_i heq; cases heq) | (exfalso; simp_all))
  | .cal _ _, X, W, es, S, h => by
    unfold okK at h
    first | exact absurd h Bool.false_ne_true | (split at h <;> first | contradiction | (rename_i heq; cases heq) | (exfalso; simp_all))
  | .mak _ _, X, W, es, S, h => by
    unfold okK at h
    first | exact absurd h Bool.false_ne_true | (split at h <;> first | contradiction | (rename_i heq; cases heq) | (exfalso; simp_all))
  | .sole _, X, W, es, S, h => by
    unfold okK at h
    first | exact absurd h Bool.false_ne_true | (split at h <;> first | contradiction | (rename_i heq; cases heq) | (exfalso; simp_all))
  | .two _ _, X, W, es, S, h => by
    unfold okK at h
    first | exact absurd h Bool.false_ne_true | (split at h <;> first | contradiction | (rename_i heq; cases heq) | (exfalso; simp_all))
  | .bi _ _, X, W, es, S, h => by
    unfold okK at h
    first | exact absurd h Bool.false_ne_true | (split at h <;> first | contradiction | (rename_i heq; cases heq) | (exfalso; simp_all))
  | .isi _ _, X, W, es, S, h => by
    unfold okK at h
    first | exact absurd h Bool.false_ne_true | (split at h <;> first | contradiction | (rename_i heq; cases heq) | (exfalso; simp_all))
  | .xf _ _, X, W, es, S, h => by
    unfold okK at h
    first | exact absurd h Bool.false_ne_true | (split at h <;> first | contradiction | (rename_i heq; cases heq) | (exfalso; simp_all))
  | .xi _ _, X, W, es, S, h => by
    unfold okK at h
    first | exact absurd h Bool.false_ne_true | (split at h <;> first | contradiction | (rename_i heq; cases heq) | (exfalso; simp_all))
  | .mt _ _ _, X, W, es, S, h => by
    unfold okK at h
    first | exact absurd h Bool.false_ne_true | (split at h <;> first | contradiction | (rename_i heq; cases heq) | (exfalso; simp_all))
  | .app _ _, X, W, es, S, h => by
    unfold okK at h
    first | exact absurd h Bool.false_ne_true | (split at h <;> first | contradiction | (rename_i heq; cases heq) | (exfalso; simp_all))
  | .fld _ _, X, W, es, S, h => by
    unfold okK at h
    first | exact absurd h Bool.false_ne_true | (split at h <;> first | contradiction | (rename_i heq; cases heq) | (exfalso; simp_all))
  | .ix _ _, X, W, es, S, h => by
    unfold okK at h
    first | exact absurd h Bool.false_ne_true | (split at h <;> first | contradiction | (rename_i heq; cases heq) | (exfalso; simp_all))
  | .sl _ _ _, X, W, es, S, h => by
    unfold okK at h
    first | exact absurd h Bool.false_ne_true | (split at h <;> first | contradiction | (rename_i heq; cases heq) | (exfalso; simp_all))
  | .tup _, X, W, es, S, h => by
    unfold okK at h
    first | exact absurd h Bool.false_ne_true | (split at h <;> first | contradiction | (rename_i heq; cases heq) | (exfalso; simp_all))
  | .lst _, X, W, es, S, h => by
    unfold okK at h
    first | exact absurd h Bool.false_ne_true | (split at h <;> first | contradiction | (rename_i heq; cases heq) | (exfalso; simp_all))
  | .lc _ _ _ _ _ _, X, W, es, S, h => by
    unfold okK at h
    first | exact absurd h Bool.false_ne_true | (split at h <;> first | contradiction | (rename_i heq; cases heq) | (exfalso; simp_all))
  | .lc2 _ _ _ _ _ _ _ _ _ _ _, X, W, es, S, h => by
    unfold okK at h
    first | exact absurd h Bool.false_ne_true | (split at h <;> first | contradiction | (rename_i heq; cases heq) | (exfalso; simp_all))
  | .yes, X, W, es, S, h => by
    unfold okK at h
    first | exact absurd h Bool.false_ne_true | (split at h <;> first | contradiction | (rename_i heq; cases heq) | (exfalso; simp_all))
  | .tst _, X, W, es, S, h => by
    unfold okK at h
    first | exact absurd h Bool.false_ne_true | (split at h <;> first | contradiction | (rename_i heq; cases heq) | (exfalso; simp_all))
  | .xt _ _ _, X, W, es, S, h => by
    unfold okK at h
    first | exact absurd h Bool.false_ne_true | (split at h <;> first | contradiction | (rename_i heq; cases heq) | (exfalso; simp_all))
termination_by structural cd => cd
theorem sdO {c : Cst} {T : Tab} {N : List Str} {lv : Nat} {o : Orc} : ∀ (cd : C) (X : Cx) (W : WX) (e : Option Expr), Sd X c T N lv o W → okO T N cd X.env.scope e = true → PO X e (rdO c W (evO o c.bd cd))
  | .nil, X, W, e, S, h => by
    unfold okO at h
    split at h <;> first | contradiction | skip
    exact s_po0
  | .tst a, X, W, e, S, h => by
    unfold okO at h
    split at h <;> first | contradiction | skip
    rename_i heq
    injection heq with e0
    subst e0
    exact s_po1 (sdE a X W _ S h)
  | .int _, X, W, e, S, h => by
    unfold okO at h
    first | exact absurd h Bool.false_ne_true | (split at h <;> first | contradiction | (rename_i heq; cases heq) | (exfalso; simp_all))
  | .bl _, X, W, e, S, h => by
    unfold okO at h
    first | exact absurd h Bool.false_ne_true | (split at h <;> first | contradiction | (rename_i heq; cases heq) | (exfalso; simp_all))
  | .non, X, W, e, S, h => by
    unfold okO at h
    first | exact absurd h Bool.false_ne_true | (split at h <;> first | contradiction | (rename_i heq; cases heq) | (exfalso; simp_all))
  | .str _, X, W, e, S, h => by
    unfold okO at h
    first | exact absurd h Bool.false_ne_true | (split at h <;> first | contradiction | (rename_i heq; cases heq) | (exfalso; simp_all))
  | .var _, X, W, e, S, h => by
    unfold okO at h
    first | exact absurd h Bool.false_ne_true | (split at h <;> first | contradiction | (rename_i heq; cases heq) | (exfalso; simp_all))
  | .pk _, X, W, e, S, h => by
    unfold okO at h
    first | exact absurd h Bool.false_ne_true | (split at h <;> first | contradiction | (rename_i heq; cases heq) | (exfalso; simp_all))
  | .gl _, X, W, e, S, h => by
    unfold okO at h
    first | exact absurd h Bool.false_ne_true | (split at h <;> first | contradiction | (rename_i heq; cases heq) | (exfalso; simp_all))
  | .bin _ _ _, X, W, e, S, h => by
    unfold okO at h
    first | exact absurd h Bool.false_ne_true | (split at h <;> first | contradiction | (rename_i heq; cases heq) | (exfalso; simp_all))
  | .neg _, X, W, e, S, h => by
    unfold okO at h
    first | exact absurd h Bool.false_ne_true | (split at h <;> first | contradiction | (rename_i heq; cases heq) | (exfalso; simp_all))
  | .not _, X, W, e, S, h => by
    unfold okO at h
    first | exact absurd h Bool.false_ne_true | (split at h <;> first | contradiction | (rename_i heq; cases heq) | (exfalso; simp_all))
  | .bop _ _ _, X, W, e, S, h => by
    unfold okO at h
    first | exact absurd h Bool.false_ne_true | (split at h <;> first | contradiction | (rename_i heq; cases heq) | (exfalso; simp_all))
  | .one _ _, X, W, e, S, h => by
    unfold okO at h
    first | exact absurd h Bool.false_ne_true | (split at h <;> first | contradiction | (rename_i heq; cases heq) | (exfalso; simp_all))
  | .cmp _ _ _, X, W, e, S, h => by
    unfold okO at h
    first | exact absurd h Bool.false_ne_true | (split at h <;> first | contradiction | (rename_i heq; cases heq) | (exfalso; simp_all))
  | .chn _ _ _ _ _, X, W, e, S, h => by
    unfold okO at h
    first | exact absurd h Bool.false_ne_true | (split at h <;> first | contradiction | (rename_i heq; cases heq) | (exfalso; simp_all))
  | .ite _ _ _, X, W, e, S, h => by
    unfold okO at h
    first | exact absurd h Bool.false_ne_true | (split at h <;> first | contradiction | (rename_i heq; cases heq) | (exfalso; simp_all))
  | .cal _ _, X, W, e, S, h => by
    unfold okO at h
    first | exact absurd h Bool.false_ne_true | (split at h <;> first | contradiction | (rename_i heq; cases heq) | (exfalso; simp_all))
  | .mak _ _, X, W, e, S, h => by
    unfold okO at h
    first | exact absurd h Bool.false_ne_true | (split at h <;> first | contradiction | (rename_i heq; cases heq) | (exfalso; simp_all))
  | .sole _, X, W, e, S, h => by
    unfold okO at h
    first | exact absurd h Bool.false_ne_true | (split at h <;> first | contradiction | (rename_i heq; cases heq) | (exfalso; simp_all))
  | .two _ _, X, W, e, S, h => by
    unfold okO at h
    first | exact absurd h Bool.false_ne_true | (split at h <;> first | contradiction | (rename_i heq; cases heq) | (exfalso; simp_all))
  | .bi _ _, X, W, e, S, h => by
    unfold okO at h
    first | exact absurd h Bool.false_ne_true | (split at h <;> first | contradiction | (rename_i heq; cases heq) | (exfalso; simp_all))
  | .isi _ _, X, W, e, S, h => by
    unfold okO at h
    first | exact absurd h Bool.false_ne_true | (split at h <;> first | contradiction | (rename_i heq; cases heq) | (exfalso; simp_all))
  | .xf _ _, X, W, e, S, h => by
    unfold okO at h
    first | exact absurd h Bool.false_ne_true | (split at h <;> first | contradiction | (rename_i heq; cases heq) | (exfalso; simp_all))
  | .xi _ _, X, W, e, S, h => by
    unfold okO at h
    first | exact absurd h Bool.false_ne_true | (split at h <;> first | contradiction | (rename_i heq; cases heq) | (exfalso; simp_all))
  | .mt _ _ _, X, W, e, S, h => by
    unfold okO at h
    first | exact absurd h Bool.false_ne_true | (split at h <;> first | contradiction | (rename_i heq; cases heq) | (exfalso; simp_all))
  | .app _ _, X, W, e, S, h => by
    unfold okO at h
    first | exact absurd h Bool.false_ne_true | (split at h <;> first | contradiction | (rename_i heq; cases heq) | (exfalso; simp_all))
  | .fld _ _, X, W, e, S, h => by
    unfold okO at h
    first | exact absurd h Bool.false_ne_true | (split at h <;> first | contradiction | (rename_i heq; cases heq) | (exfalso; simp_all))
  | .ix _ _, X, W, e, S, h => by
    unfold okO at h
    first | exact absurd h Bool.false_ne_true | (split at h <;> first | contradiction | (rename_i heq; cases heq) | (exfalso; simp_all))
  | .sl _ _ _, X, W, e, S, h => by
    unfold okO at h
    first | exact absurd h Bool.false_ne_true | (split at h <;> first | contradiction | (rename_i heq; cases heq) | (exfalso; simp_all))
  | .tup _, X, W, e, S, h => by
    unfold okO at h
    first | exact absurd h Bool.false_ne_true | (split at h <;> first | contradiction | (rename_i heq; cases heq) | (exfalso; simp_all))
  | .lst _, X, W, e, S, h => by
    unfold okO at h
    first | exact absurd h Bool.false_ne_true | (split at h <;> first | contradiction | (rename_i heq; cases heq) | (exfalso; simp_all))
  | .lc _ _ _ _ _ _, X, W, e, S, h => by
    unfold okO at h
    first | exact absurd h Bool.false_ne_true | (split at h <;> first | contradiction | (rename_i heq; cases heq) | (exfalso; simp_all))
  | .lc2 _ _ _ _ _ _ _ _ _ _ _, X, W, e, S, h => by
    unfold okO at h
    first | exact absurd h Bool.false_ne_true | (split at h <;> first | contradiction | (rename_i heq; cases heq) | (exfalso; simp_all))
  | .yes, X, W, e, S, h => by
    unfold okO at h
    first | exact absurd h Bool.false_ne_true | (split at h <;> first | contradiction | (rename_i heq; cases heq) | (exfalso; simp_all))
  | .cons _ _, X, W, e, S, h => by
    unfold okO at h
    first | exact absurd h Bool.false_ne_true | (split at h <;> first | contradiction | (rename_i heq; cases heq) | (exfalso; simp_all))
  | .xt _ _ _, X, W, e, S, h => by
    unfold okO at h
    first | exact absurd h Bool.false_ne_true | (split at h <;> first | contradiction | (rename_i heq; cases heq) | (exfalso; simp_all))
termination_by structural cd => cd
theorem sdI {c : Cst} {T : Tab} {N : List Str} {lv : Nat} {o : Orc} : ∀ (cd : C) (k : It) (X : Cx) (W : WX) (tg it : Expr), Sd X c T N lv o W → okI T N cd k X.env.scope it = true → PI X tg it (rdI c W (itF k (evA o c.bd cd)))
  | .two a b, k, X, W, tg, it, S, h => by
    unfold okI at h
    split at h <;> first | contradiction | skip
    all_goals (rename_i heq; injection heq with e0 e1)
    subst e0
    subst e1
    simp only [Bool.and_eq_true, decide_eq_true_eq, Bool.not_eq_true'] at h
    obtain ⟨⟨⟨⟨⟨⟨h1, rfl⟩, h3⟩, h4⟩, h5⟩, h6⟩, h7⟩ := h
    exact s_rng2 (S.gl h1).1 (S.ok.bl _ h3) (s_cons (sdE a X W _ S h4) (s_cons (sdE b X W _ S h6) s_nil (star_cons h7)) (star_cons h5)) (by rw [star_cons h5, star_cons h7]; rfl) (by rw [star_cons h7]; rfl)
  | .sole a, k, X, W, tg, it, S, h => by
    unfold okI at h
    split at h <;> first | contradiction | skip
    all_goals (rename_i heq; injection heq with e0; subst e0)
    · simp only [Bool.and_eq_true, decide_eq_true_eq, Bool.not_eq_true'] at h
      obtain ⟨⟨⟨⟨h1, rfl⟩, h3⟩, h4⟩, h5⟩ := h
      exact s_rng1 (S.gl h1).1 (S.ok.bl _ h3) (s_cons (sdE a X W _ S h4) s_nil (star_cons h5)) (by rw [star_cons h5]; rfl)
    · simp only [Bool.and_eq_true, decide_eq_true_eq, Bool.not_eq_true'] at h
      obtain ⟨⟨⟨h1, rfl⟩, h3⟩, h4⟩ := h
      exact s_zst S.G.K (S.gl h1).1 (S.ok.bl _ h3) (sdE a X W _ S h4)
    · exact s_seq S.G.K S.G.kd (sdE a X W _ S h)
  | .int _, k, X, W, tg, it, S, h => by
    unfold okI at h
    first | exact absurd h Bool.false_ne_true | (split at h <;> first | contradiction | (rename_i heq; cases heq) | (exfalso; simp_all))
  | .bl _, k, X, W, tg, it, S, h => by
    unfold okI at h
    first | exact absurd h Bool.false_ne_true | (split at h <;> first | contradiction | (rename_i heq; cases heq) | (exfalso; simp_all))
  | .non, k, X, W, tg, it, S, h => by
    unfold okI at h
    first | exact absurd h Bool.false_ne_true | (split at h <;> first | contradiction | (rename_i heq; cases heq) | (exfalso; simp_all))
  | .str _, k, X, W, tg, it, S, h => by
    unfold okI at h
    first | exact absurd h Bool.false_ne_true | (split at h <;> first | contradiction | (rename_i heq; cases heq) | (exfalso; simp_all))
  | .var _, k, X, W, tg, it, S, h => by
    unfold okI at h
    first | exact absurd h Bool.false_ne_true | (split at h <;> first | contradiction | (rename_i heq; cases heq) | (exfalso; simp_all))
  | .pk _, k, X, W, tg, it, S, h => by
    unfold okI at h
    first | exact absurd h Bool.false_ne_true | (split at h <;> first | contradiction | (rename_i heq; cases heq) | (exfalso; simp_all))
  | .gl _, k, X, W, tg, it, S, h => by
    unfold okI at h
    first | exact absurd h Bool.false_ne_true | (split at h <;> first | contradiction | (rename_i heq; cases heq) | (exfalso; simp_all))
  | .bin _ _ _, k, X, W, tg, it, S, h => by
    unfold okI at h
    first | exact absurd h Bool.false_ne_true | (split at h <;> first | contradiction | (rename_i heq; cases heq) | (exfalso; simp_all))
  | .neg _, k, X, W, tg, it, S, h => by
    unfold okI at h
    first | exact absurd h Bool.false_ne_true | (split at h <;> first | contradiction | (rename_i heq; cases heq) | (exfalso; simp_all))
  | .not _, k, X, W, tg, it, S, h => by
    unfold okI at h
    first | exact absurd h Bool.false_ne_true | (split at h <;> first | contradiction | (rename_i heq; cases heq) | (exfalso; simp_all))
  | .bop _ _ _, k, X, W, tg, it, S, h => by
    unfold okI at h
    first | exact absurd h Bool.false_ne_true | (split at h <;> first | contradiction | (rename_i heq; cases heq) | (exfalso; simp_all))
  | .one _ _, k, X, W, tg, it, S, h => by
    unfold okI at h
    first | exact absurd h Bool.false_ne_true | (split at h <;> first | contradiction | (rename_i heq; cases heq) | (exfalso; simp_all))
  | .cmp _ _ _, k, X, W, tg, it, S, h => by
    unfold okI at h
    first | exact absurd h Bool.false_ne_true | (split at h <;> first | contradiction | (rename_i heq; cases heq) | (exfalso; simp_all))
  | .chn _ _ _ _ _, k, X, W, tg, it, S, h => by
    unfold okI at h
    first | exact absurd h Bool.false_ne_true | (split at h <;> first | contradiction | (rename_i heq; cases heq) | (exfalso; simp_all))
  | .ite _ _ _, k, X, W, tg, it, S, h => by
    unfold okI at h
    first | exact absurd h Bool.false_ne_true | (split at h <;> first | contradiction | (rename_i heq; cases heq) | (exfalso; simp_all))
  | .cal _ _, k, X, W, tg, it, S, h => by
    unfold okI at h
    first | exact absurd h Bool.false_ne_true | (split at h <;> first | contradiction | (rename_i heq; cases heq) | (exfalso; simp_all))
  | .mak _ _, k, X, W, tg, it, S, h => by
    unfold okI at h
    first | exact absurd h Bool.false_ne_true | (split at h <;> first | contradiction | (rename_i heq; cases heq) | (exfalso; simp_all))
  | .cons _ _, k, X, W, tg, it, S, h => by
    unfold okI at h
    first | exact absurd h Bool.false_ne_true | (split at h <;> first | contradiction | (rename_i heq; cases heq) | (exfalso; simp_all))
  | .bi _ _, k, X, W, tg, it, S, h => by
    unfold okI at h
    first | exact absurd h Bool.false_ne_true | (split at h <;> first | contradiction | (rename_i heq; cases heq) | (exfalso; simp_all))
  | .isi _ _, k, X, W, tg, it, S, h => by
    unfold okI at h
    first | exact absurd h Bool.false_ne_true | (split at h <;> first | contradiction | (rename_i heq; cases heq) | (exfalso; simp_all))
  | .xf _ _, k, X, W, tg, it, S, h => by
    unfold okI at h
    first | exact absurd h Bool.false_ne_true | (split at h <;> first | contradiction | (rename_i heq; cases heq) | (exfalso; simp_all))
  | .xi _ _, k, X, W, tg, it, S, h => by
    unfold okI at h
    first | exact absurd h Bool.false_ne_true | (split at h <;> first | contradiction | (rename_i heq; cases heq) | (exfalso; simp_all))
  | .mt _ _ _, k, X, W, tg, it, S, h => by
    unfold okI at h
    first | exact absurd h Bool.false_ne_true | (split at h <;> first | contradiction | (rename_i heq; cases heq) | (exfalso; simp_all))
  | .app _ _, k, X, W, tg, it, S, h => by
    unfold okI at h
    first | exact absurd h Bool.false_ne_true | (split at h <;> first | contradiction | (rename_i heq; cases heq) | (exfalso; simp_all))
  | .fld _ _, k, X, W, tg, it, S, h => by
    unfold okI at h
    first | exact absurd h Bool.false_ne_true | (split at h <;> first | contradiction | (rename_i heq; cases heq) | (exfalso; simp_all))
  | .ix _ _, k, X, W, tg, it, S, h => by
    unfold okI at h
    first | exact absurd h Bool.false_ne_true | (split at h <;> first | contradiction | (rename_i heq; cases heq) | (exfalso; simp_all))
  | .sl _ _ _, k, X, W, tg, it, S, h => by
    unfold okI at h
    first | exact absurd h Bool.false_ne_true | (split at h <;> first | contradiction | (rename_i heq; cases heq) | (exfalso; simp_all))
  | .tup _, k, X, W, tg, it, S, h => by
    unfold okI at h
    first | exact absurd h Bool.false_ne_true | (split at h <;> first | contradiction | (rename_i heq; cases heq) | (exfalso; simp_all))
  | .lst _, k, X, W, tg, it, S, h => by
    unfold okI at h
    first | exact absurd h Bool.false_ne_true | (split at h <;> first | contradiction | (rename_i heq; cases heq) | (exfalso; simp_all))
  | .lc _ _ _ _ _ _, k, X, W, tg, it, S, h => by
    unfold okI at h
    first | exact absurd h Bool.false_ne_true | (split at h <;> first | contradiction | (rename_i heq; cases heq) | (exfalso; simp_all))
  | .lc2 _ _ _ _ _ _ _ _ _ _ _, k, X, W, tg, it, S, h => by
    unfold okI at h
    first | exact absurd h Bool.false_ne_true | (split at h <;> first | contradiction | (rename_i heq; cases heq) | (exfalso; simp_all))
  | .yes, k, X, W, tg, it, S, h => by
    unfold okI at h
    first | exact absurd h Bool.false_ne_true | (split at h <;> first | contradiction | (rename_i heq; cases heq) | (exfalso; simp_all))
  | .tst _, k, X, W, tg, it, S, h => by
    unfold okI at h
    first | exact absurd h Bool.false_ne_true | (split at h <;> first | contradiction | (rename_i heq; cases heq) | (exfalso; simp_all))
  | .nil, k, X, W, tg, it, S, h => by
    unfold okI at h
    first | exact absurd h Bool.false_ne_true | (split at h <;> first | contradiction | (rename_i heq; cases heq) | (exfalso; simp_all))
  | .xt _ _ _, k, X, W, tg, it, S, h => by
    unfold okI at h
    first | exact absurd h Bool.false_ne_true | (split at h <;> first | contradiction | (rename_i heq; cases heq) | (exfalso; simp_all))
termination_by structural cd => cd
end
end B
namespace B
open PySem PySem.Spec L2
open PyProof.Rows hiding St

/-! ## raise -/
section
variable {k : Kt} {O : Addr → Prop} {H : Hp}
theorem RepF.zip : ∀ {ns : List Str} {xs : List V} {ds : List D}, RepL k O H xs ds → RepF k O H (ns.zip xs) (ns.zip ds)
  | [], _, _, _ => by simp only [List.zip_nil_left]; exact .nil
  | _ :: _, _, _, .nil => by simp only [List.zip_nil_right]; exact .nil
  | n :: ns, _, _, .cons r t => by simp only [List.zip_cons_cons]; exact .cons r (RepF.zip t)
theorem RepF.append : ∀ {v w : List (Str × V)} {d e : List (Str × D)}, RepF k O H v d → RepF k O H w e → RepF k O H (v ++ w) (d ++ e)
  | _, _, _, _, .nil, r => r
  | _, _, _, _, .cons a t, r => .cons a (t.append r)
theorem RepF.rev : ∀ {v : List (Str × V)} {d : List (Str × D)}, RepF k O H v d → RepF k O H v.reverse d.reverse
  | _, _, .nil => .nil
  | _, _, .cons a t => by simp only [List.reverse_cons]; exact t.rev.append (.cons a .nil)
end
section
variable {X : Cx} {c : Cst} {T : Tab} {N : List Str} {lv : Nat} {o : Orc} {W : WX}
def raiF (o : Orc) (c : Nat) (fr : En → R (List Vl × En)) : En → R (Fl × En) := fun δ => (R.ofO (o.xf c)).bind fun ns => (fr δ).bind fun (vs, δ1) => (R.ofO (cvs vs)).bind fun ds => if ns.length = ds.length then .ex c (ns.zip ds).reverse δ1 else .no
theorem s_rai {cl : Nat} {x : Str} {e : Expr} {es : List Expr} {p pos pos' : Pos} {fr : En → R (List Vl × En)} (S : Sd X c T N lv o W) (hq : T.q = true) (hx : T.cn[cl]? = some x) (hg : Gl X x) (hdb : (x == ("__debug__" : Str)) = false) (ha : PA X (e :: es) (rdA c W fr))
    (he : starEach (e :: es) X.env = (false, eval e X.env) :: starEach es X.env) (hpl : (backTo pos (starEach es X.env)).any (·.1) = false) : PS X (.Raise (some (.Call (.Name x p) (e :: es) [] pos)) none pos') (rdS c W (raiF o cl fr)) := by
  cases hns : o.xf cl with
  | none => exact ⟨fun pins s σ H D I ⟨δ, τ, F, P⟩ => by unfold raiF at P; rw [hns] at P; exact P.elim⟩
  | some ns =>
    have mk := S.ok.x.xm hq X rfl rfl rfl rfl rfl (S.G.room hq) cl x ns hx hns hg hdb e es (rdA c W fr) p pos ha he hpl
    refine psOf (ps_raise (pos := pos') (S.G.calm hq) S.tk mk) fun D σ H ⟨δ, τ, F, P⟩ => ?_
    unfold raiF at P
    rw [hns] at P
    obtain ⟨p1, p2, p3⟩ := bindE (P := fun r => PostS c W τ r D) (show PostS c W τ ((fr δ).bind _) D from P)
    refine seqA F (fun cl fs δ' e => p1 cl fs δ' e σ) (fun e => p2 e) fun vs δ1 e1 xs H1 F1 o1 => ?_
    obtain ⟨ds, ed, h⟩ := bindO (P := fun r => PostS c W τ r D) (p3 _ e1) (fun z => z)
    obtain ⟨O, F1⟩ := F1
    obtain ⟨O1, F2, r⟩ := F1.giveL o1 ed
    simp only at h
    split at h
    · rename_i hl
      refine ⟨by rw [r.length]; exact hl.symm, fun d hd => ?_⟩
      exact h σ _ d _ O1 (F2.junk hd _) upd_same ((RepF.zip r).rev.mono (stays_upd (.inl hd) fun _ _ z => z)) (F2.fr.none_O hd)
    · exact h.elim
end

/-! ## try -/
mutual
theorem Rep.rek {K : PySem.W.Frag} {ct : Nat → Addr} {r r' : Addr → Nat → Addr → Prop} {kd : Addr → List (Str × V) → Prop} {O : Addr → Prop} {H : Hp} : ∀ {v : V} {d : D}, Rep ⟨K, ct, r, kd⟩ O H v d → Rep ⟨K, ct, r', kd⟩ O H v d
  | _, _, .non => .non
  | _, _, .bl b => .bl b
  | _, _, .int b => .int b
  | _, _, .str b => .str b
  | _, _, .tup a t => .tup a t.rek
  | _, _, .lst n a t => .lst n a t.rek
  | _, _, .ro a t => .ro a t.rek
  | _, _, .obj n a t => .obj n a t.rek
  | _, _, .tbl a t => .tbl a t.rek
theorem RepL.rek {K : PySem.W.Frag} {ct : Nat → Addr} {r r' : Addr → Nat → Addr → Prop} {kd : Addr → List (Str × V) → Prop} {O : Addr → Prop} {H : Hp} : ∀ {v : List V} {d : List D}, RepL ⟨K, ct, r, kd⟩ O H v d → RepL ⟨K, ct, r', kd⟩ O H v d
  | _, _, .nil => .nil
  | _, _, .cons a t => .cons a.rek t.rek
theorem RepF.rek {K : PySem.W.Frag} {ct : Nat → Addr} {r r' : Addr → Nat → Addr → Prop} {kd : Addr → List (Str × V) → Prop} {O : Addr → Prop} {H : Hp} : ∀ {v : List (Str × V)} {d : List (Str × D)}, RepF ⟨K, ct, r, kd⟩ O H v d → RepF ⟨K, ct, r', kd⟩ O H v d
  | _, _, .nil => .nil
  | _, _, .cons a t => .cons a.rek t.rek
end
abbrev Cst.wx (c : Cst) (r : Addr → Nat → Addr → Prop) : Cst := { c with k := ⟨c.k.K, c.k.ct, r, c.k.kd⟩ }
def onlyX (a : Addr) (cl : Nat) (dd : Addr) : Addr → Nat → Addr → Prop := fun a' cl' dd' => a' = a ∧ cl' = cl ∧ dd' = dd
section
variable {c : Cst} {O : Addr → Prop} {δ : En} {τ : List Et} {σ : St} {H : Hp} {es : List Et} {r : Addr → Nat → Addr → Prop}
theorem EtOk.rek {K : PySem.W.Frag} {ct : Nat → Addr} {r r' : Addr → Nat → Addr → Prop} {kd : Addr → List (Str × V) → Prop} {e : Et} (h : EtOk ⟨K, ct, r, kd⟩ O H e) (hx : xcB e.2 = false) : EtOk ⟨K, ct, r', kd⟩ O H e := by
  obtain ⟨ov, s⟩ := e
  cases s with
  | un => exact True.intro
  | fz d => cases ov with
    | none => exact h
    | some v => exact Rep.rek h
  | ow ds => cases ov with
    | none => exact h
    | some v => cases v with
      | ref a => obtain ⟨h1, xs, h2, h3⟩ := h; exact ⟨h1, xs, h2, h3.rek⟩
      | _ => exact h
  | ob cl fs => cases ov with
    | none => exact h
    | some v => cases v with
      | ref a => obtain ⟨h1, dx, xs, h2, h3⟩ := h; exact ⟨h1, dx, xs, h2, h3.rek⟩
      | _ => exact h
  | xc cl fs => cases hx
theorem FR.rek (F : FR c O es H) (h : ∀ e ∈ es, xcB e.2 = false) : FR (c.wx r) O es H := ⟨F.o0, F.o1, F.tr, fun e he => (F.ok e he).rek (h e he), F.nd, F.nw, F.pr, F.on⟩
theorem FR.kre (F : FR (c.wx r) O es H) (h : ∀ e ∈ es, xcB e.2 = false) : FR c O es H := ⟨F.o0, F.o1, F.tr, fun e he => (F.ok e he).rek (h e he), F.nd, F.nw, F.pr, F.on⟩
theorem noX_all (hk : ∀ a cl dd, ¬ c.k.xd a cl dd) (F : FR c O es H) : ∀ e ∈ es, xcB e.2 = false := fun e he => by
  have ok := F.ok e he
  obtain ⟨ov, s⟩ := e
  cases s with
  | xc cl fs => cases ov with
    | none => exact ok.elim
    | some v => cases v with
      | ref a => obtain ⟨dd, _, h1, _⟩ := ok; exact (hk _ _ _ h1).elim
      | _ => exact ok.elim
  | _ => rfl
theorem FO.rek (F : FO c O δ τ σ H) (hk : ∀ a cl dd, ¬ c.k.xd a cl dd) : FO (c.wx r) O δ τ σ H := ⟨F.fr.rek (noX_all hk F.fr), F.len, F.bs⟩
theorem FO.addXc (F : FO c O δ τ σ H) {a dd : Addr} {cl : Nat} {fs : List (Str × D)} {fvs : List (Str × V)} (h1 : c.k.xd a cl dd) (h2 : ¬ O dd) (h3 : H dd = some (.xd fvs)) (h4 : RepF c.k O H fvs fs) : FO c O δ ((some (.ref a), .xc cl fs) :: τ) σ H :=
  ⟨⟨F.fr.o0, F.fr.o1, F.fr.tr, fun e h => (List.mem_cons.mp h).elim (fun z => z ▸ ⟨dd, fvs, h1, h2, h3, h4⟩) (F.fr.ok e), by simpa [oa] using F.fr.nd, fun a h => F.fr.nw a (by simpa [oa] using h), F.fr.pr, F.fr.on⟩, F.len, F.bs⟩
/-- the suite's end -/
theorem FO.kre {i : Nat} (F : FO (c.wx r) O δ τ σ H) (hi : i < δ.length) (hb : i ∉ c.bd) (hn : noX (δ.set i .un) = true) (hτ : ∀ e ∈ τ, xcB e.2 = false) : FO c O (δ.set i .un) τ (σ.set i none) H := by
  have G : FO (c.wx r) O (δ.set i .un) τ (σ.set i none) H := FO.putS (F.addUn (v := none)) (List.Perm.refl _) (by rw [F.len]; exact hi) hb
  refine ⟨G.fr.kre fun e he => ?_, G.len, G.bs⟩
  rcases List.mem_append.mp he with q | q
  · exact hτ e q
  · obtain ⟨e1, e2⟩ := e
    have := List.all_eq_true.mp hn e2 (List.of_mem_zip q).2
    simpa using this
end
/-- the suite's end, no name bound -/
theorem FO.kre0 {c : Cst} {O : Addr → Prop} {δ : En} {τ : List Et} {σ : St} {H : Hp} {r : Addr → Nat → Addr → Prop} (F : FO (c.wx r) O δ τ σ H) (hn : noX δ = true) (hτ : ∀ e ∈ τ, xcB e.2 = false) : FO c O δ τ σ H := by
  refine ⟨F.fr.kre fun e he => ?_, F.len, F.bs⟩
  rcases List.mem_append.mp he with q | q
  · exact hτ e q
  · obtain ⟨e1, e2⟩ := e
    have := List.all_eq_true.mp hn e2 (List.of_mem_zip q).2
    simpa using this
section
variable {X : Cx} {c : Cst} {W : WX} {fb fh : En → R (Fl × En)} {r : Nat → List (Str × D) → En → R (Fl × En)}
def tryF (fb : En → R (Fl × En)) (r : Nat → List (Str × D) → En → R (Fl × En)) : En → R (Fl × En) := fun δ => match fb δ with
    | .ex cl fs δ1 => r cl fs δ1
    | r => r
def hdF (o : Orc) (bd : List Nat) (c : Nat) (i : Option Nat) (fh : En → R (Fl × En)) (r : Nat → List (Str × D) → En → R (Fl × En)) : Nat → List (Str × D) → En → R (Fl × En) := fun cl fs δ => (R.ofO (o.xs cl c)).bind fun m => if m then (match i with
        | some i => if i ∈ bd ∨ δ.length ≤ i then .no else endX i (fh (δ.set i (.xc cl fs)))
        | none => endN (fh δ))
      else r cl fs δ
def hdO : Nat → List (Str × D) → En → R (Fl × En) := fun cl fs δ => .ex cl fs δ
def W0 : WX := fun _ _ _ _ => False
/-- what the clauses are given -/
def rdH (c : Cst) (W : WX) (r : Nat → List (Str × D) → En → R (Fl × En)) : Ends → WX := fun Z cls dd σ H => ∃ (cl : Nat) (d : Addr) (δ : En) (τ : List Et) (fs : List (Str × D)) (fvs : List (Str × V)) (O : Addr → Prop), cls = .ref (c.k.ct cl) ∧ dd = some d ∧ (∀ e ∈ τ, xcB e.2 = false) ∧
  FO c O δ τ σ H ∧ H d = some (.xd fvs) ∧ RepF c.k O H fvs fs ∧ ¬ O d ∧ PostS c W τ (r cl fs δ) Z
theorem hd_nil (hs : X.stack = X.env :: X.outer) (hf : X.env.frame = some X.env.locals) (tk : Takes X W) : Zh.HdS X [] (rdH c W hdO) := fun {a cls d pins σ H D B sI s} C ⟨cl, dd, δ, τ, fs, fvs, O, e1, e2, hτ, F, e3, rf, nO, P⟩ => by
  subst e1 e2
  exact Zh.hd_out hs hf tk C (P σ H dd fvs O F e3 rf nO)
theorem hd_step {o : Orc} {ch : Nat} {x : Str} {on : Option Str} {oi : Option Nat} {suite : List Stmt} {b₀ : Stmt} {np pos' : Pos} {hds : List ExceptHandler} (hK : X.K = c.k.K) (hk : ∀ a cl dd, ¬ c.k.xd a cl dd) (xt : ∀ c1 c2 b, o.xs c1 c2 = some b → PySem.W.exmOne X.K (.ref (c.k.ct c1)) (.ref (c.k.ct c2)) = some b)
    (hf : X.env.frame = some X.env.locals) (hN : X.N.Nodup) (hi : match oi, on with | some i, some n => X.N[i]? = some n ∧ X.env.kindOf n = some .local | none, none => True | _, _ => False) (hc : Names X x (.ref (c.k.ct ch)))
    (hsu : ∀ (a : Addr) (oe : Obj) (cl : Nat) (dd : Addr) (pn : List (Addr × Obj)), Zc (.ref (c.k.ct cl)) (some dd) oe → (∃ vs, oe.data = .fields vs) → PSs (X.suite a ((a, oe) :: pn)) (b₀ :: suite) (rdS (c.wx (onlyX a cl dd)) W0 fh)) (hr : Zh.HdS X hds (rdH c W r)) :
    Zh.HdS X (.ExceptHandler (some (.Name x np)) on (b₀ :: suite) pos' :: hds) (rdH c W (hdF o c.bd ch oi fh r)) := by
  have hsu' : ∀ (a : Addr) (oe : Obj) (cls : Value) (d : Option Addr) (pn : List (Addr × Obj)), Zc cls d oe → (∃ vs, oe.data = .fields vs) → PSs (X.suite a ((a, oe) :: pn)) (b₀ :: suite) (fun D σ H => ∃ cl dd, cls = .ref (c.k.ct cl) ∧ d = some dd ∧ rdS (c.wx (onlyX a cl dd)) W0 fh D σ H) := fun a oe cls d pn hz hf => ⟨fun pins s σ H D I q => by
    obtain ⟨cl, dd, e1, e2, q⟩ := q
    subst e1 e2
    exact (hsu a oe cl dd pn hz hf).run pins s σ H D I q⟩
  match oi, on, hi with
  | some i, some n, hi =>
    refine fun {a cls d pins σ H D B sI s} C ⟨cl, dd, δ1, τ, fs, fvs, O1, e1, e2, hτ, F1, ed, rf, nO, P⟩ => Zh.hd_as hf hN hi.1 hi.2 hc hsu' hr C ?_
    subst e1 e2
    unfold hdF at P
    obtain ⟨m, em, P⟩ := bindO (P := fun r => PostS c W τ r D) P (fun z => z)
    refine ⟨m, xt _ _ _ em, fun hm a na => ?_, fun hm => ?_⟩
    · subst hm
      simp only [if_true] at P
      split at P
      · exact P.elim
      rename_i hin
      simp only [not_or, Nat.not_le] at hin
      have F2 : FO (c.wx (onlyX a cl dd)) O1 δ1 τ σ H := F1.rek hk
      have F3 := F2.addXc (a := a) (dd := dd) (cl := cl) (fs := fs) (fvs := fvs) ⟨rfl, rfl, rfl⟩ nO ed rf.rek
      have F4 := F3.putS (List.Perm.refl _) (by rw [F1.len]; exact hin.2) hin.1
      refine ⟨cl, dd, rfl, rfl, _, τ, ⟨O1, F4⟩, ?_⟩
      cases eh : fh (δ1.set i (.xc cl fs)) with
      | no => rw [eh] at P; exact P.elim
      | ex _ _ _ => rw [eh] at P; exact P.elim
      | ok q =>
        obtain ⟨fl, δ2⟩ := q
        rw [eh] at P
        simp only [endX] at P
        split at P
        · rename_i hn
          cases fl with
          | nx => exact fun σ H ⟨O, F⟩ => P _ H ⟨O, F.kre hn.1 hin.1 hn.2 hτ⟩
          | bk => exact fun σ H ⟨O, F⟩ => P _ H ⟨O, F.kre hn.1 hin.1 hn.2 hτ⟩
          | ct => exact fun σ H ⟨O, F⟩ => P _ H ⟨O, F.kre hn.1 hin.1 hn.2 hτ⟩
          | rt v => exact ⟨P.1, fun σ y H ⟨O, F⟩ => P.2 _ y H ⟨O, F.kre hn.1 hin.1 hn.2 fun e he => (List.mem_cons.mp he).elim (fun z => by subst z; cases v <;> rfl) (hτ e)⟩⟩
        · exact P.elim
    · subst hm
      simp only [Bool.false_eq_true, if_false] at P
      exact ⟨cl, dd, δ1, τ, fs, fvs, O1, rfl, rfl, hτ, F1, ed, rf, nO, P⟩
  | none, none, _ =>
    refine fun {a cls d pins σ H D B sI s} C ⟨cl, dd, δ1, τ, fs, fvs, O1, e1, e2, hτ, F1, ed, rf, nO, P⟩ => Zh.hd_plain hf hc hsu' hr C ?_
    subst e1 e2
    unfold hdF at P
    obtain ⟨m, em, P⟩ := bindO (P := fun r => PostS c W τ r D) P (fun z => z)
    refine ⟨m, xt _ _ _ em, fun hm a na => ?_, fun hm => ?_⟩
    · subst hm
      simp only [if_true] at P
      refine ⟨cl, dd, rfl, rfl, _, τ, ⟨O1, F1.rek hk⟩, ?_⟩
      cases eh : fh δ1 with
      | no => rw [eh] at P; exact P.elim
      | ex _ _ _ => rw [eh] at P; exact P.elim
      | ok q =>
        obtain ⟨fl, δ2⟩ := q
        rw [eh] at P
        simp only [endN] at P
        split at P
        · rename_i hn
          cases fl with
          | nx => exact fun σ H ⟨O, F⟩ => P _ H ⟨O, F.kre0 hn hτ⟩
          | bk => exact fun σ H ⟨O, F⟩ => P _ H ⟨O, F.kre0 hn hτ⟩
          | ct => exact fun σ H ⟨O, F⟩ => P _ H ⟨O, F.kre0 hn hτ⟩
          | rt v => exact ⟨P.1, fun σ y H ⟨O, F⟩ => P.2 _ y H ⟨O, F.kre0 hn fun e he => (List.mem_cons.mp he).elim (fun z => by subst z; cases v <;> rfl) (hτ e)⟩⟩
        · exact P.elim
    · subst hm
      simp only [Bool.false_eq_true, if_false] at P
      exact ⟨cl, dd, δ1, τ, fs, fvs, O1, rfl, rfl, hτ, F1, ed, rf, nO, P⟩
theorem s_try {body : List Stmt} {h₀ : ExceptHandler} {hds : List ExceptHandler} {pos : Pos} (hk : ∀ a cl dd, ¬ c.k.xd a cl dd) (hs : X.stack = X.env :: X.outer) (hf : X.env.frame = some X.env.locals)
    (hb : ∀ (W : WX) (pn : List (Addr × Obj)) (xe : Value → Shared → Prop), Takes (X.tr pn xe) W → PassesOwn (model X.prog X.w) X.A X.env xe → PSs (X.tr pn xe) body (rdS c W fb)) (hh : Zh.HdS X (h₀ :: hds) (rdH c W r)) :
    PS X (.Try body (h₀ :: hds) [] [] pos) (rdS c W (tryF fb r)) := by
  refine psOf (Zh.ps_try_h hs hf hb hh) fun D σ H ⟨δ, τ, F, P⟩ => ?_
  have hτ : ∀ e ∈ τ, xcB e.2 = false := fun e he => by
    obtain ⟨O, F⟩ := F
    exact noX_all hk F.fr e (List.mem_append_left _ he)
  refine ⟨δ, τ, F, ?_⟩
  unfold tryF at P
  cases eb : fb δ with
  | no => rw [eb] at P; exact P
  | ok q =>
    obtain ⟨fl, δ'⟩ := q
    rw [eb] at P
    cases fl <;> exact P
  | ex cl fs δ1 =>
    rw [eb] at P
    exact fun σ1 H1 d fvs O1 F1 ed rf nO => ⟨cl, d, δ1, τ, fs, fvs, O1, rfl, rfl, hτ, F1, ed, rf, nO, P⟩
end
end B
namespace B
open PySem PySem.Spec L2
open PyProof.Rows hiding St

/-! ## in an except suite -/
section
variable {X : Cx} {c : Cst} {T : Tab} {N : List Str} {lv : Nat} {o : Orc} {W : WX} {a dd : Addr} {cl : Nat} {oe : Obj} {pn : List (Addr × Obj)}
theorem inst_x {K : PySem.W.Frag} {h : Heap} {H : Hp} {P : Program} {w : World} {C : Addr} {fvs : List (Str × V)} (hok : HOk P w H h) (ha : h.get? a = some oe) (hz : Zc (.ref C) (some dd) oe) (hf : ∃ vs, oe.data = .fields vs) (ed : H dd = some (.xd fvs)) : ∃ od, PySem.W.InstAt h a oe C (some od) := by
  obtain ⟨vs, hd⟩ := hf
  have hx : ObjOk P w H h dd (.xd fvs) := hok dd _ ed
  obtain ⟨mA, hns, _⟩ := hx
  obtain ⟨od, ho, _⟩ := lookIn_ns hns
  exact ⟨od, ha, hz.1, by unfold PySem.W.notCls; rw [hd] <;> rfl, by rw [hz.2]; exact ho⟩
/-- isinstance of the exception that the suite holds -/
def rIsX (K : PySem.W.Frag) (C a dd : Addr) : List V → Hp → VK → Prop := fun xs H Q => ∃ (v : V) (cv : Value) (b : Bool) (fvs : List (Str × V)), xs = [.ref a, v] ∧ H dd = some (.xd fvs) ∧ ClsV v cv ∧ PySem.W.kitOne K (.ref C) cv = some b ∧ Q (.bl b) H
def rIsXT (K : PySem.W.Frag) (C a dd : Addr) : List V → Hp → VK → Prop := fun xs H Q => ∃ (tp : Addr) (vs : List V) (cvs : List Value) (b : Bool) (fvs : List (Str × V)), xs = [.ref a, .ref tp] ∧ H dd = some (.xd fvs) ∧ H tp = some (.tup vs) ∧ Paired ClsV vs cvs ∧ PySem.W.kitAny K (.ref C) cvs = some b ∧ Q (.bl b) H
theorem call_isX {C : Addr} (F : XiC X.K C) (hz : Zc (.ref C) (some dd) oe) (hf : ∃ vs, oe.data = .fields vs) : CallR (X.suite a ((a, oe) :: pn)) (.builtin "isinstance") (rIsX X.K C a dd) := by
  intro pins s σ H xs us Q I r h
  obtain ⟨v, cv, b, fvs, rfl, ed, k, e, q⟩ := h
  obtain ⟨u1, u2, rfl, r1, r2⟩ := vals2 r
  have e2 := k.eq r2
  subst e2
  obtain rfl : u1 = Value.ref a := r1
  obtain ⟨hget, _⟩ := I.pin (a, oe) (List.mem_append.mpr (.inl List.mem_cons_self))
  obtain ⟨od, J⟩ := inst_x (K := X.K) I.hok hget hz hf ed
  exact PySem.W.kia_one (PySem.W.kitx_exc F.cl F.ga F.gt F.sb F.ha F.hn F.tk F.hm) I.kIn J e (fun z => nomatch z) fun tk => ⟨.bl b, H, I.tok tk, rfl, q⟩
theorem call_isXT {C : Addr} (F : XiC X.K C) (hz : Zc (.ref C) (some dd) oe) (hf : ∃ vs, oe.data = .fields vs) : CallR (X.suite a ((a, oe) :: pn)) (.builtin "isinstance") (rIsXT X.K C a dd) := by
  intro pins s σ H xs us Q I r h
  obtain ⟨tp, vs, ws, b, fvs, rfl, ed, hT, k, e, q⟩ := h
  obtain ⟨u1, u2, rfl, r1, r2⟩ := vals2 r
  obtain rfl : u1 = Value.ref a := r1
  obtain rfl : u2 = Value.ref tp := r2
  obtain ⟨hget, _⟩ := I.pin (a, oe) (List.mem_append.mpr (.inl List.mem_cons_self))
  obtain ⟨od, J⟩ := inst_x (K := X.K) I.hok hget hz hf ed
  obtain ⟨_, its, rv, ob, h1, h2, n, h3⟩ := (show ObjOk X.prog X.w H s.heap tp (.tup vs) from I.hok tp _ hT)
  have e3 := ClsV.all k rv
  subst e3
  obtain ⟨oc, od', dt, sl⟩ := ob
  simp only at h2 h3
  subst h2 h3
  exact PySem.W.kia_tup (PySem.W.kitx_exc F.cl F.ga F.gt F.sb F.ha F.hn F.tk F.hm) I.kIn J h1 e (fun z => nomatch z) fun tk => ⟨.bl b, H, I.tok tk, rfl, q⟩
theorem xc_slot {O : Addr → Prop} {δ : En} {τ : List Et} {σ : St} {H : Hp} {i cl' : Nat} {fs : List (Str × D)} (F : FO (c.wx (onlyX a cl dd)) O δ τ σ H) (h : gS δ i = .xc cl' fs) : cl' = cl ∧ σ[i]? = some (some (.ref a)) ∧ ∃ fvs, H dd = some (.xd fvs) ∧ RepF (c.wx (onlyX a cl dd)).k O H fvs fs := by
  obtain ⟨ov, e1, e2, m, ok⟩ := F.slot h (fun z => by cases z)
  cases ov with
  | none => exact ok.elim
  | some v =>
    cases v with
    | ref a' =>
      obtain ⟨dd', fvs, ⟨h1, h2, h3⟩, _, h4, h5⟩ := ok
      subst h1 h2 h3
      exact ⟨rfl, e1, fvs, h4, h5⟩
    | _ => exact ok.elim
theorem s_xf (hK : X.K = c.k.K) (XK : ∀ c1 f, o.nc ≤ c1 → o.fl c1 f = true → XfC X.K (c.k.ct c1) ∧ PySem.W.findIn X.K (.ref (c.k.ct c1)) f = some none) (hz : Zc (.ref (c.k.ct cl)) (some dd) oe) (hf : ∃ vs, oe.data = .fields vs) {i : Nat} {f x : Str} {p pos : Pos}
    (hv : PE (X.suite a ((a, oe) :: pn)) (.Name x p) (tVar i)) : PE (X.suite a ((a, oe) :: pn)) (.Attribute (.Name x p) f pos) (rdE (c.wx (onlyX a cl dd)) W0 (xfF o i f)) := by
  by_cases hc : o.nc ≤ cl ∧ o.fl cl f = true
  · obtain ⟨k1, k2⟩ := XK cl f hc.1 hc.2
    refine peOf (pe_xf k1 k2 hz hf hv) fun σ H Q ⟨δ, τ, ⟨O, F⟩, P⟩ => ?_
    unfold xfF at P
    cases q : gS δ i with
    | xc cl' fs =>
      rw [q] at P
      obtain ⟨rfl, e1, fvs, h4, h5⟩ := xc_slot F q
      simp only [if_pos hc] at P
      obtain ⟨d, ed, h⟩ := bindO (P := fun r => Post (c.wx (onlyX a cl' dd)) W0 σ τ r Q) P (fun z => z)
      obtain ⟨v, e2, r⟩ := h5.look ed
      exact ⟨.ref a, e1, rfl, rfl, dd, fvs, v, rfl, h4, e2, h v H ⟨O, F.addFz r⟩ True.intro⟩
    | _ => rw [q] at P; exact P.elim
  · refine pe_ff fun σ H Q ⟨δ, τ, ⟨O, F⟩, P⟩ => ?_
    unfold xfF at P
    cases q : gS δ i with
    | xc cl' fs =>
      rw [q] at P
      obtain ⟨rfl, _⟩ := xc_slot F q
      simp only [if_neg hc] at P
      exact P
    | _ => rw [q] at P; exact P.elim
theorem xiD_any {K : PySem.W.Frag} {k : Kt} (XE : ∀ c1 t b, xi1 o c1 t = some b → PySem.W.kitOne K (.ref (k.ct c1)) (tyV k t).2 = some b) : ∀ {ts : List Ty} {b : Bool}, xiD o cl ts = some b → PySem.W.kitAny K (.ref (k.ct cl)) (ts.map fun t => (tyV k t).2) = some b
  | [], b, h => by cases h; exact kitAny_nil
  | t :: ts, b, h => by
    simp only [xiD] at h
    split at h
    · rename_i b1 d1 h1 h2
      cases h
      refine kitAny_cons (XE _ _ _ h1) (fun e => ?_) fun e => ?_
      · rw [xiD_any XE h2, e]; rfl
      · rw [e]; rfl
    · cases h
theorem xi_pre {o : Orc} {i : Nat} {ts : List Ty} {σ : St} {H : Hp} {Q : VK} (h : rdE (c.wx (onlyX a cl dd)) W0 (xiF o i ts) σ H Q) : ∃ b fvs O δ τ, xiD o cl ts = some b ∧ σ[i]? = some (some (.ref a)) ∧ H dd = some (.xd fvs) ∧ FO (c.wx (onlyX a cl dd)) O δ τ σ H ∧ ∀ O H', FO (c.wx (onlyX a cl dd)) O δ τ σ H' → Q (.bl b) H' := by
  obtain ⟨δ, τ, ⟨O, F⟩, P⟩ := h
  unfold xiF at P
  cases q : gS δ i with
  | xc cl' fs =>
    rw [q] at P
    obtain ⟨rfl, e1, fvs, h4, h5⟩ := xc_slot F q
    obtain ⟨b, eb, h⟩ := bindO (P := fun r => Post (c.wx (onlyX a cl' dd)) W0 σ τ r Q) P (fun z => z)
    exact ⟨b, fvs, O, δ, τ, eb, e1, h4, F, fun O H' F' => h _ H' ⟨O, F'.addFz (.bl b)⟩ True.intro⟩
  | _ => rw [q] at P; exact P.elim
theorem xi_cls : ∀ {ts : List Ty} {b : Bool}, xiD o cl ts = some b → ts ≠ [] → ∃ t b, xi1 o cl t = some b
  | [], _, _, n => absurd rfl n
  | t :: ts, b, h, _ => by
    simp only [xiD] at h
    split at h
    · rename_i b1 d1 h1 h2; exact ⟨t, b1, h1⟩
    · cases h
theorem s_xi (hK : X.K = c.k.K) (hcn : ∀ c1 x, T.cn[c1]? = some x → X.mg x = some (.ref (c.k.ct c1))) (hbl : ∀ x, T.bl.contains x = true → X.mg x = none) (XE : ∀ c1 t b, xi1 o c1 t = some b → XiC X.K (c.k.ct c1) ∧ PySem.W.kitOne X.K (.ref (c.k.ct c1)) (tyV c.k t).2 = some b)
    (hz : Zc (.ref (c.k.ct cl)) (some dd) oe) (hf : ∃ vs, oe.data = .fields vs) {i : Nat} {ts : List Ty} {te : Expr} {x : Str} {p p2 pos : Pos} (hv : PE (X.suite a ((a, oe) :: pn)) (.Name x p2) (tVar i)) (hts : okTs T X.env.scope ts te = true) (hg : Gl X "isinstance") (hm : X.mg "isinstance" = none) :
    PE (X.suite a ((a, oe) :: pn)) (.Call (.Name "isinstance" p) [.Name x p2, te] [] pos) (rdE (c.wx (onlyX a cl dd)) W0 (xiF o i ts)) := by
  by_cases hF : XiC X.K (c.k.ct cl)
  case neg =>
    refine pe_ff fun σ H Q h => ?_
    obtain ⟨b, fvs, O, δ, τ, eb, _⟩ := xi_pre h
    have ne : ts ≠ [] := fun z => by
      subst z
      cases te <;> simp [okTs] at hts
    obtain ⟨t, b', e1⟩ := xi_cls eb ne
    exact hF (XE _ _ _ e1).1
  case pos =>
  have XA : ∀ c1 t b, xi1 o c1 t = some b → PySem.W.kitOne X.K (.ref (c.k.ct c1)) (tyV c.k t).2 = some b := fun c1 t b h => (XE c1 t b h).2
  cases te with
  | Name y q =>
    cases ts with
    | nil => cases hts
    | cons t ts =>
      cases ts with
      | cons _ _ => cases hts
      | nil =>
        have h1 : PE (X.suite a ((a, oe) :: pn)) (.Name y q) (tC (tyV c.k t).1) := pe_t1 (X := X.suite a ((a, oe) :: pn)) (T := T) hcn hbl hts
        refine peOf (pe_callB (call_isX hF hz hf) hg hm (by decide +kernel) (pa_cons hv (pa_cons h1 pa_nil rfl) rfl) (by decide) (by decide) rfl rfl) fun σ H Q h => ?_
        obtain ⟨b, fvs, O, δ, τ, eb, e1, ed, F, q⟩ := xi_pre h
        have e3 : xi1 o cl t = some b := by
          simp only [xiD] at eb
          split at eb
          · rename_i b1 d1 h1 h2
            cases h2
            cases eb
            rw [h1, Bool.or_false]
          · cases eb
        exact ⟨.ref a, e1, (tyV c.k t).1, (tyV c.k t).2, b, fvs, rfl, ed, tyV_cls, XA _ _ _ e3, q O H F⟩
  | Tuple es j q =>
    simp only [okTs, Bool.and_eq_true, decide_eq_true_eq] at hts
    have h1 : PA (X.suite a ((a, oe) :: pn)) es (fun σ H Q => Q (ts.map fun t => (tyV c.k t).1) H) := pa_tl (X := X.suite a ((a, oe) :: pn)) (T := T) hcn hbl hts.1.1
    refine peOf (pe_callB (call_isXT hF hz hf) hg hm (by decide +kernel) (pa_cons hv (pa_cons (pe_tup h1) pa_nil rfl) rfl) (by decide) (by decide) rfl rfl) fun σ H Q h => ?_
    obtain ⟨b, fvs, O, δ, τ, eb, e1, ed, F, q⟩ := xi_pre h
    refine ⟨.ref a, e1, by rw [List.length_map, sizeLine_eq]; have := hts.1.2; omega, fun tp hp => ?_⟩
    exact ⟨tp, _, _, b, fvs, rfl, by rw [upd_ne (ne_of_none ed hp)]; exact ed, upd_same, tyV_all, xiD_any XA eb, q O _ (F.junk hp _)⟩
  | _ => cases hts
abbrev Tab.hot (T : Tab) : Tab := { T with q := false }
/-- where a suite stands -/
theorem suite_sd (S : Sd X c T N lv o W) (hz : Zc (.ref (c.k.ct cl)) (some dd) oe) (hf : ∃ vs, oe.data = .fields vs) : Sd (X.suite a ((a, oe) :: pn)) (c.wx (onlyX a cl dd)) T.hot N lv o W0 := by
  have pv : ∀ {i : Nat} {x : Str} {p : Pos}, nmOk N X.env.scope i x = true → PE (X.suite a ((a, oe) :: pn)) (.Name x p) (tVar i) := fun {i x p} h => by
    unfold nmOk at h
    simp only [Bool.and_eq_true, decide_eq_true_eq, Bool.not_eq_true'] at h
    exact pe_var (X := X.suite a ((a, oe) :: pn)) (by show X.N[i]? = some x; rw [S.hN]; exact h.1.1.1) (vis_of h.1.1.2) h.1.2 h.2
  refine ⟨⟨⟨S.G.nd, fun h => (nomatch h), fun h => (nomatch h), S.G.un, S.G.K, S.G.kd⟩, S.G.grd⟩, S.hN, takes0, ?_, fun h => (nomatch h), fun _ i f x p pos h => s_xf S.G.K S.ok.x.xq hz hf (pv h), fun _ i ts te x p p2 pos h h2 hg hm => s_xi (T := T.hot) S.G.K S.ok.cn S.ok.bl S.ok.x.xe hz hf (pv h) h2 hg hm⟩
  exact ⟨fun h => (nomatch h), fun g nm d h1 h2 => (S.ok.gl g nm d h1 h2).imp fun u h => h.imp fun v h => ⟨h.1, h.2.1, fun O H => (h.2.2 O H).rek⟩, S.ok.bl, ⟨fun h => (nomatch h), S.ok.x.xq, S.ok.x.xe, S.ok.x.xt⟩, ⟨S.ok.is.cf, S.ok.is.kn, S.ok.is.kb, S.ok.is.ko⟩, S.ok.fl, fun h => (nomatch h), S.ok.cn, fun h => (nomatch h)⟩
end
end B
namespace B
open PySem PySem.Spec L2
open PyProof.Rows hiding St

/-! ## which code is which block -/
def stOk (N : List Str) (sc : Scope) (i : Nat) (x : Str) : Bool := decide (N[i]? = some x) && (match sc.names.lookup x with | some .local => true | some .cell => true | _ => false)
def noTuple : Expr → Bool
  | .Tuple _ _ _ => false
  | _ => true
/-- a comprehension stored by its own name as it ends -/
def swB (sc : Scope) (x : Str) (py : Pos) (scope : Scope) (cp : Pos) : Bool :=
  (match sc.kind with | .function => true | _ => false) && (match sc.names.lookup x with | some .local => true | _ => false) && (py.line == cp.line) && !(scope.names.any fun (n, k) => n == x && (k == .local || k == .cell))
def cellNm (sc : Scope) (x : Str) : Bool := match sc.names.lookup x with
  | some .cell => true
  | _ => false
def asgOk (sc : Scope) (x : Str) (py : Pos) : Expr → Bool
  | .ListComp _ [⟨_, _, _, 0⟩] scope cp => swB sc x py scope cp || cellNm sc x
  | .ListComp _ [⟨_, _, _, 0⟩, ⟨_, _, _, 0⟩] scope cp => swB sc x py scope cp || cellNm sc x
  | _ => false
/-- a, b = x, y: stored from the right -/
def parOk (sc : Scope) (x y : Str) (px py : Pos) (a b : Expr) : Bool := (match sc.kind with | .function => true | _ => false) && (match sc.names.lookup x with | some .local => true | _ => false) && (match sc.names.lookup y with | some .local => true | _ => false) &&
  (py.line == px.line) && !(x == y) && !(foldedForSure 8 a && foldedForSure 8 b) && !(constantsAlone 8 a && constantsAlone 8 b) && noComp a && noComp b
def hdNm (N : List Str) (sc : Scope) : Option Nat → Option Str → Bool
  | some i, some n => decide (N[i]? = some n) && (match sc.names.lookup n with | some .local => true | _ => false)
  | none, none => true
  | _, _ => false
mutual
def okB (T : Tab) (N : List Str) (sc : Scope) : S → List Stmt → Bool
  | .skip, [] => true
  | .seq a b, st :: rest => okS T N sc a st && okB T N sc b rest
  | _, _ => false
termination_by structural s => s
def okS (T : Tab) (N : List Str) (sc : Scope) : S → Stmt → Bool
  | .pass, .Pass _ => true
  | .pass, .Expr (.Constant (.str _) _ _) _ => true
  | .brk, .Break _ => true
  | .cnt, .Continue _ => true
  | .asg i e, .Assign [.Name x py] ea _ => stOk N sc i x && okE T N e sc ea && (noComp ea || asgOk sc x py ea)
  | .par i j as, .Assign [.Tuple [.Name x px, .Name y py] _ _] (.Tuple [a, b] _ _) _ => T.q && decide (N[i]? = some x) && decide (N[j]? = some y) && parOk sc x y px py a b && okA T N as sc [a, b]
  | .unp is e, .Assign [.Tuple es _ _] ea _ => T.q && okTgN N sc is es && okE T N e sc ea && noComp ea && noTuple ea
  | .sti i k e, .Assign [.Subscript (.Name x _) ek _] ea _ => nmOk N sc i x && okE T N k sc ek && noSlice ek && okE T N e sc ea && noComp ea
  | .stf i f e, .Assign [.Attribute (.Name x _) f' _] ea _ => decide (f = f') && nmOk N sc i x && okE T N e sc ea && noComp ea
  | .rai c as, .Raise (some (.Call (.Name x _) (e :: es) [] _)) none _ => T.q && isGl sc x && decide (T.cn[c]? = some x) && okA T N as sc (e :: es)
  | .try_ b hs, .Try body (h0 :: hds) [] [] _ => T.q && okB T N sc b body && okH T N sc hs (h0 :: hds)
  | .iff t a b, .If et sa sb _ => okT T N t sc et && okB T N sc a sa && okB T N sc b sb
  | .for_ tg k is b, .For tgE iter body [] _ => T.q && okTg N sc tg tgE && okI T N is k sc iter && noSet iter && okB T N sc b body
  | .whl t b, .While et body [] _ => T.q && okT T N t sc et && okB T N sc b body
  | .ret e, .Return (some ea) _ => okE T N e sc ea
  | .retN, .Return none _ => true
  | .exp e, .Expr ea _ => okE T N e sc ea && noComp ea
  | _, _ => false
termination_by structural s => s
/-- the except clauses -/
def okH (T : Tab) (N : List Str) (sc : Scope) : S → List ExceptHandler → Bool
  | .skip, [] => true
  | .hnd c oi h r, .ExceptHandler (some (.Name x _)) on (b0 :: suite) _ :: hds => isGl sc x && decide (T.cn[c]? = some x) && hdNm N sc oi on && okB T.hot N sc h (b0 :: suite) && okH T N sc r hds
  | _, _ => false
termination_by structural s => s
end
section
variable {X : Cx} {c : Cst} {T : Tab} {N : List Str} {lv : Nat} {o : Orc} {W : WX}
structure Sb (X : Cx) (c : Cst) (T : Tab) (N : List Str) (lv : Nat) (o : Orc) (W : WX) : Prop extends Sd X c T N lv o W where
  fnT : ∀ x, X.fn x = true
  hp : T.q = true → PassesOwn (model X.prog X.w) X.A X.env X.xe
  kd : X.env.scope.kind = .function
  hs : T.q = true → X.stack = X.env :: X.outer
  hf : T.q = true → X.env.frame = some X.env.locals
theorem Sb.own (S : Sb X c T N lv o W) : OwnIn X X.env.scope := fun x k e _ => ⟨e, fun _ => S.fnT x⟩
theorem stOk_of {sc : Scope} {i : Nat} {x : Str} (h : stOk N sc i x = true) : N[i]? = some x ∧ L2.Loc sc x := by
  unfold stOk at h
  simp only [Bool.and_eq_true, decide_eq_true_eq] at h
  refine ⟨h.1, ?_⟩
  unfold L2.Loc
  have h2 := h.2
  split at h2 <;> simp_all
theorem sw_false {elt : Expr} {gs : List Comprehension} {scope : Scope} {pos py : Pos} {y : Str} {l : Nat} {env : Env} (hy : cellNm env.scope y = true) : swapsWith (.ListComp elt gs scope pos) (some (.Name y py)) l env = pure false := by
  unfold cellNm at hy
  split at hy
  · rename_i e
    have ky : (env.kindOf y == some NameKind.local) = false := by
      have : env.kindOf y = some .cell := e
      rw [this]; rfl
    unfold swapsWith
    simp only [ky, Bool.and_false, Bool.false_and]
  · cases hy
theorem s_setlc {i : Nat} {x : Str} {py spos : Pos} {own : List Nat} {tg : Tg} {fi : En → R (List D × En)} {ft : En → R (Bool × En)} {fe : En → R (Vl × En)} {elt tgE iter : Expr} {ifs : List Expr} {scope : Scope} {pos : Pos} (S : Sb X c T N lv o W) (hq : T.q = true)
    (n1 : X.N[i]? = some x) (hsw : swB X.env.scope x py scope pos = true)
    (h1 : blkC N X.env.scope scope (own.map fun i => (N.getD i "", i)) = true) (hi : PI X tgE iter (rdI c W fi)) (h3 : okTg N scope tg tgE = true) (h4 : ((tgs tg).all fun i => own.contains i) = true)
    (ht : ∀ (s : Shared) (H : Hp) (C : Addr) (cl : List (Str × Addr)) (fp : List Addr), PTs (X.blk s H scope (compEnvC scope cl C X.env) fp) ifs (rdT c (fun _ _ _ _ => False) ft))
    (he : ∀ (s : Shared) (H : Hp) (C : Addr) (cl : List (Str × Addr)) (fp : List Addr), PE (X.blk s H scope (compEnvC scope cl C X.env) fp) elt (rdE c (fun _ _ _ _ => False) fe)) (hs : ∀ x, foldedSetIterable iter X.env x = pure x) :
    PS X (.Assign [.Name x py] (.ListComp elt [⟨tgE, iter, ifs, 0⟩] scope pos) spos) (rdS c W (asgF c.bd i (lcF c.bd own tg fi ft fe))) := by
  have eo : (own.map fun i => (N.getD i "", i)).map (·.2) = own := by
    rw [List.map_map]
    exact (List.map_congr_left fun _ _ => rfl).trans (List.map_id _)
  have hb : BlkOk X.N X.env.scope scope (own.map fun i => (N.getD i "", i)) := blkOk_by (by rw [S.hN]; exact h1)
  have ho : ∀ (s : Shared) (H : Hp) (C : Addr) (cl : List (Str × Addr)) (fp : List Addr), OwnIn (X.blk s H scope (compEnvC scope cl C X.env) fp) scope := fun s H C cl fp x k e hk => by
    refine ⟨lookup_relS_keep (fun z => by subst z; rcases hk with q | q <;> cases q) e, fun z => ?_⟩
    subst z
    show (scope.names.lookup x == some .cell) = true
    rw [e]; rfl
  unfold swB at hsw
  simp only [Bool.and_eq_true, Bool.not_eq_true'] at hsw
  obtain ⟨⟨⟨k1, k2⟩, k3⟩, k4⟩ := hsw
  have k2 : X.env.scope.names.lookup x = some .local := by split at k2 <;> simp_all
  have key := ps_setLc (elt := elt) (g := gT X.K tg) (S.G.calm hq) S.G.nd n1 k2 (sw_true (py := py) (l := spos.line) S.kd k2 k3 k4) hi hb (fun s H C cl fp => pg_ok (X := X.blk s H scope (compEnvC scope cl C X.env) fp) (N := N) S.G.nd S.hN (S.G.calm hq) (ho s H C cl fp) h3) ht he hs (pos := pos)
  rw [eo] at key
  exact psOf key fun D σ H h => s_lcR S.G.K (fun i hi => by simpa using (List.all_eq_true.mp h4 i hi)) σ H _ (s_asgR D σ H h)
theorem s_setlc2 {i : Nat} {x : Str} {py spos : Pos} {own vs : List Nat} {tg tg1 : Tg} {fi fi1 : En → R (List D × En)} {ft ft1 : En → R (Bool × En)} {fe : En → R (Vl × En)} {elt tgE iter tgE1 iter1 : Expr} {ifs ifs1 : List Expr} {scope : Scope} {pos : Pos} (S : Sb X c T N lv o W) (hq : T.q = true)
    (n1 : X.N[i]? = some x) (hsw : swB X.env.scope x py scope pos = true)
    (h1 : blkC N X.env.scope scope (own.map fun i => (N.getD i "", i)) = true) (hi : PI X tgE iter (rdI c W fi)) (h3 : okTg N scope tg tgE = true) (h4 : ((tgs tg).all fun i => own.contains i) = true)
    (ht : ∀ (s : Shared) (H : Hp) (C : Addr) (cl : List (Str × Addr)) (fp : List Addr), PTs (X.blk s H scope (compEnvC scope cl C X.env) fp) ifs (rdT c (fun _ _ _ _ => False) ft))
    (hi1 : ∀ (s : Shared) (H : Hp) (C : Addr) (cl : List (Str × Addr)) (fp : List Addr), PI (X.blk s H scope (compEnvC scope cl C X.env) fp) tgE1 iter1 (rdI c (fun _ _ _ _ => False) fi1)) (q3 : okTg N scope tg1 tgE1 = true) (q4 : ((tgs tg1).all fun i => vs.contains i) = true) (q5 : (vs.all fun i => own.contains i) = true)
    (ht1 : ∀ (s : Shared) (H : Hp) (C : Addr) (cl : List (Str × Addr)) (fp : List Addr), PTs (X.blk s H scope (compEnvC scope cl C X.env) fp) ifs1 (rdT c (fun _ _ _ _ => False) ft1))
    (he : ∀ (s : Shared) (H : Hp) (C : Addr) (cl : List (Str × Addr)) (fp : List Addr), PE (X.blk s H scope (compEnvC scope cl C X.env) fp) elt (rdE c (fun _ _ _ _ => False) fe)) (hs : ∀ x, foldedSetIterable iter X.env x = pure x) (hs1 : ∀ env x, foldedSetIterable iter1 env x = pure x) :
    PS X (.Assign [.Name x py] (.ListComp elt [⟨tgE, iter, ifs, 0⟩, ⟨tgE1, iter1, ifs1, 0⟩] scope pos) spos) (rdS c W (asgF c.bd i (lc2F c.bd own vs tg tg1 fi ft fi1 ft1 fe))) := by
  have eo : (own.map fun i => (N.getD i "", i)).map (·.2) = own := by
    rw [List.map_map]
    exact (List.map_congr_left fun _ _ => rfl).trans (List.map_id _)
  have hb : BlkOk X.N X.env.scope scope (own.map fun i => (N.getD i "", i)) := blkOk_by (by rw [S.hN]; exact h1)
  have ho : ∀ (s : Shared) (H : Hp) (C : Addr) (cl : List (Str × Addr)) (fp : List Addr), OwnIn (X.blk s H scope (compEnvC scope cl C X.env) fp) scope := fun s H C cl fp x k e hk => by
    refine ⟨lookup_relS_keep (fun z => by subst z; rcases hk with q | q <;> cases q) e, fun z => ?_⟩
    subst z
    show (scope.names.lookup x == some .cell) = true
    rw [e]; rfl
  unfold swB at hsw
  simp only [Bool.and_eq_true, Bool.not_eq_true'] at hsw
  obtain ⟨⟨⟨k1, k2⟩, k3⟩, k4⟩ := hsw
  have k2 : X.env.scope.names.lookup x = some .local := by split at k2 <;> simp_all
  have hv : ∀ i ∈ vs, i ∈ own := fun i hi => by simpa using (List.all_eq_true.mp q5 i hi)
  have key := ps_setLc2 (elt := elt) (vs1 := vs) (g := gT X.K tg) (g1 := gT X.K tg1) (S.G.calm hq) S.G.nd n1 k2 (sw_true (py := py) (l := spos.line) S.kd k2 k3 k4) hi hb (fun i hi => by rw [eo]; exact hv i hi) (fun s H C cl fp => pg_ok (X := X.blk s H scope (compEnvC scope cl C X.env) fp) (N := N) S.G.nd S.hN (S.G.calm hq) (ho s H C cl fp) h3) ht hi1 (fun s H C cl fp => pg_ok (X := X.blk s H scope (compEnvC scope cl C X.env) fp) (N := N) S.G.nd S.hN (S.G.calm hq) (ho s H C cl fp) q3) ht1 he hs hs1 (pos := pos)
  rw [eo] at key
  exact psOf key fun D σ H h => s_lc2R S.G.K (fun i hi => by simpa using (List.all_eq_true.mp h4 i hi)) (fun i hi => by simpa using (List.all_eq_true.mp q4 i hi)) hv σ H _ (s_asgR D σ H h)
/-- x = e, by its forms -/
theorem s_asg {i : Nat} {e : C} {x : Str} {py pos : Pos} {ea : Expr} (S : Sb X c T N lv o W) (h1 : stOk N X.env.scope i x = true) (h2 : okE T N e X.env.scope ea = true)
    (h3 : (noComp ea || asgOk X.env.scope x py ea) = true) : PS X (.Assign [.Name x py] ea pos) (rdS c W (asgF c.bd i (evE o c.bd e))) := by
  obtain ⟨n1, loc⟩ := stOk_of h1
  have hN : X.N[i]? = some x := by rw [S.hN]; exact n1
  have hpe := sdE e X W ea S.toSd h2
  rw [Bool.or_eq_true] at h3
  rcases h3 with h3 | h3
  · exact psOf (ps_set S.G.nd hN loc hpe (swap_no h3) (.inl (S.fnT x))) s_asgR
  · have hx : (∃ elt tgE iter ifs scope cp, ea = .ListComp elt [⟨tgE, iter, ifs, 0⟩] scope cp ∧ (swB X.env.scope x py scope cp || cellNm X.env.scope x) = true) ∨ (∃ elt tgE iter ifs tgE1 iter1 ifs1 scope cp, ea = .ListComp elt [⟨tgE, iter, ifs, 0⟩, ⟨tgE1, iter1, ifs1, 0⟩] scope cp ∧ (swB X.env.scope x py scope cp || cellNm X.env.scope x) = true) := by
      unfold asgOk at h3
      split at h3
      · exact .inl ⟨_, _, _, _, _, _, rfl, h3⟩
      · exact .inr ⟨_, _, _, _, _, _, _, _, _, rfl, h3⟩
      · cases h3
    rcases hx with hx | hx
    rotate_left
    · obtain ⟨elt, tgE, iter, ifs, tgE1, iter1, ifs1, scope, cp, rfl, h3'⟩ := hx
      replace h3 := h3'
      rw [Bool.or_eq_true] at h3
      rcases h3 with h3 | h3
      · clear hpe
        cases e with
        | lc2 own vs tg k is t tg1 k1 is1 t1 e' =>
          unfold okE at h2
          simp only [Bool.and_eq_true] at h2
          obtain ⟨⟨⟨⟨⟨⟨⟨⟨⟨⟨⟨⟨⟨hq, q1⟩, q2⟩, q3⟩, q4⟩, q5⟩, r2⟩, r3⟩, r4⟩, r5⟩, r6⟩, q6⟩, q7⟩, r7⟩ := h2
          exact s_setlc2 S hq hN h3 q1 (sdI is k X W _ _ S.toSd q2) q3 q4 (fun s H C cl fp => sdC t _ _ _ (S.toSd.blk hq s H _ C cl fp) q5) (fun s H C cl fp => sdI is1 k1 _ _ _ _ (S.toSd.blk hq s H _ C cl fp) r2) r3 r4 r5 (fun s H C cl fp => sdC t1 _ _ _ (S.toSd.blk hq s H _ C cl fp) r6) (fun s H C cl fp => sdE e' _ _ _ (S.toSd.blk hq s H _ C cl fp) q6) (fold_set q7) (fun _ => fold_set r7)
        | xt k' _ _ => cases k' <;> (unfold okE at h2; cases h2)
        | _ => unfold okE at h2; cases h2
      · exact psOf (ps_set S.G.nd hN loc hpe (sw_false h3) (.inl (S.fnT x))) s_asgR
    obtain ⟨elt, tgE, iter, ifs, scope, cp, rfl, h3'⟩ := hx
    replace h3 := h3'
    · rw [Bool.or_eq_true] at h3
      rcases h3 with h3 | h3
      · -- stored as the block ends
        clear hpe
        cases e with
        | lc own tg k is t e' =>
          unfold okE at h2
          simp only [Bool.and_eq_true] at h2
          obtain ⟨⟨⟨⟨⟨⟨⟨hq, q1⟩, q2⟩, q3⟩, q4⟩, q5⟩, q6⟩, q7⟩ := h2
          exact s_setlc S hq hN h3 q1 (sdI is k X W _ _ S.toSd q2) q3 q4 (fun s H C cl fp => sdC t _ _ _ (S.toSd.blk hq s H _ C cl fp) q5) (fun s H C cl fp => sdE e' _ _ _ (S.toSd.blk hq s H _ C cl fp) q6) (fold_set q7)
        | xt k' _ _ => cases k' <;> (unfold okE at h2; cases h2)
        | _ => unfold okE at h2; cases h2
      · exact psOf (ps_set S.G.nd hN loc hpe (sw_false h3) (.inl (S.fnT x))) s_asgR
theorem swap_tup {e : Expr} {es : List Expr} {k : Nat} {p : Pos} {l : Nat} {env : Env} (h : noComp e = true) : swapsWithSole [.Tuple es k p] e l env = pure false := by
  show swapsWith e (some (.Tuple es k p)) l env = _
  exact swap_no h
theorem swapped_none {e : Expr} {es : List Expr} {k : Nat} {p : Pos} {env : Env} (h : noTuple e = true) : swappedStores [.Tuple es k p] e env = pure none := by
  cases e <;> first | rfl | simp [noTuple] at h
theorem swap_sub {e : Expr} {a b : Expr} {p : Pos} {l : Nat} {env : Env} (h : noComp e = true) : swapsWithSole [.Subscript a b p] e l env = pure false := by
  show swapsWith e (some (.Subscript a b p)) l env = _
  exact swap_no h
theorem sub_assign {o i : Expr} {p : Pos} {env : Env} (h : noSlice i = true) : ∀ v, assign (.Subscript o i p) env v = (do
      let ov ← holding [v] (eval o env)
      let iv ← holding [v, ov] (eval i env)
      standAt p
      holding [v, ov, iv] (setItem ov iv v)
      release [v, ov, iv] []) := by
  intro v
  cases i <;> first | rfl | simp [noSlice] at h
theorem okA_hd2 {T : Tab} {N : List Str} {as : C} {sc : Scope} {a b : Expr} (h : okA T N as sc [a, b] = true) : noStar b = true := by
  cases as <;> simp [okA] at h
  exact okA_hd h.2
theorem par_stores {env : Env} {x y : Str} {px py pt : Pos} {a b : Expr} {kt k2 : Nat} {pt2 : Pos} (h : parOk env.scope x y px py a b = true) (ha : noStar a = true) (hb : noStar b = true) :
    swappedStores [.Tuple [.Name x px, .Name y py] kt pt] (.Tuple [a, b] k2 pt2) env = pure (some [x, y]) := by
  unfold parOk at h
  simp only [Bool.and_eq_true, Bool.not_eq_true', Bool.and_eq_false_iff] at h
  obtain ⟨⟨⟨⟨⟨⟨⟨⟨h1, h2⟩, h3⟩, h4⟩, h5⟩, h6⟩, h7⟩, h8⟩, h9⟩ := h
  have k1 : env.scope.kind = .function := by split at h1 <;> simp_all
  have kx : env.kindOf x = some .local := by
    unfold Env.kindOf
    split at h2 <;> simp_all
  have ky : env.kindOf y = some .local := by
    unfold Env.kindOf
    split at h3 <;> simp_all
  have kb : env.blockKind = .function := by unfold Env.blockKind; rw [k1]; rfl
  have ns : ([a, b].any fun | .Starred .. => true | _ => false) = false := by
    have e1 : ∀ z : Expr, noStar z = true → (match z with | .Starred .. => true | _ => false) = false := fun z hz => by cases z <;> first | rfl | simp [noStar] at hz
    simp only [List.any_cons, List.any_nil, Bool.or_false, Bool.or_eq_false_iff]
    exact ⟨e1 a ha, e1 b hb⟩
  have nms : ([Expr.Name x px, Expr.Name y py].filterMap fun
    | .Name id pos => if env.kindOf id == some .local && pos.line == px.line then some id else none
    | _ => none) = [x, y] := by
    simp only [List.filterMap_cons, List.filterMap_nil, kx, ky, beq_self_eq_true, Bool.and_self, if_true, h4]
  have ed : [x, y].eraseDups.length = 2 := by
    have : (y == x) = false := by
      rw [beq_eq_false_iff_ne] at h5 ⊢
      exact fun z => h5 z.symm
    simp [List.eraseDups_cons, this]
  have f1 : [a, b].all (foldedForSure 8) = false := by
    simp only [List.all_cons, List.all_nil, Bool.and_true, Bool.and_eq_false_iff]
    exact h6
  have f2 : [a, b].all (constantsAlone 8) = false := by
    simp only [List.all_cons, List.all_nil, Bool.and_true, Bool.and_eq_false_iff]
    exact h7
  have key : ∀ l : List Str, l = [x, y] → ¬ ((l.length != 2 || l.eraseDups.length != l.length) = true) := fun l hl => by
    subst hl
    rw [ed]
    simp
  unfold swappedStores
  dsimp only
  rw [kb]
  refine (if_neg (by simp)).trans ((if_neg (by rw [Bool.not_eq_true]; exact ns)).trans ((if_neg (key _ nms)).trans ((if_neg (by rw [f1]; simp)).trans ((if_neg (by rw [f2]; simp)).trans ?_))))
  exact congrArg (fun l => (pure (some l) : Sem (Option (List Str)))) nms
theorem s_unp {is : List Nat} {e : C} {es : List Expr} {k : Nat} {p pos : Pos} {ea : Expr} (S : Sb X c T N lv o W) (hq : T.q = true) (h1 : okTgN N X.env.scope is es = true) (h2 : okE T N e X.env.scope ea = true) (h3 : noComp ea = true) (h4 : noTuple ea = true) :
    PS X (.Assign [.Tuple es k p] ea pos) (rdS c W (unpF c.bd is (evE o c.bd e))) := by
  obtain ⟨a, b, c'⟩ := pgs_ok S.G.nd S.hN S.own h1
  have hpe := sdE e X W ea S.toSd h2
  have g1 : PG X (.Tuple es k p) (gTup X.K is.length (gNs is)) := pg_tup (S.G.calm hq) a b c'
  have g2 : PG X (.Tuple es k p) (gLst X.K is.length (gNs is)) := pg_lst (S.G.calm hq) a b c'
  have r1 := ps_asg (pos := pos) hpe g1 (swap_tup h3) (swapped_none h4) rfl
  have r2 := ps_asg (pos := pos) hpe g2 (swap_tup h3) (swapped_none h4) rfl
  exact ⟨fun pins s σ H D I q => (s_unpR S.G.K D σ H q).elim (fun z => r1.run pins s σ H D I z) fun z => r2.run pins s σ H D I z⟩
theorem s_sti {i : Nat} {k e : C} {x : Str} {px p pos : Pos} {ek ea : Expr} (S : Sb X c T N lv o W) (h1 : nmOk N X.env.scope i x = true) (h2 : okE T N k X.env.scope ek = true) (h3 : noSlice ek = true) (h4 : okE T N e X.env.scope ea = true) (h5 : noComp ea = true) :
    PS X (.Assign [.Subscript (.Name x px) ek p] ea pos) (rdS c W (stiF i (evE o c.bd k) (evE o c.bd e))) := psOf (ps_asg (sdE e X W ea S.toSd h4) (pg_sub (S.toSd.pv h1) (sdE k X W ek S.toSd h2) set_list (sub_assign h3)) (swap_sub h5) rfl rfl) s_stiR
end
mutual
theorem sdB {c : Cst} {T : Tab} {N : List Str} {lv : Nat} {o : Orc} : ∀ (cd : S) (X : Cx) (W : WX) (sts : List Stmt), Sb X c T N lv o W → okB T N X.env.scope cd sts = true → PSs X sts (rdS c W (evS o c.bd cd))
  | .skip, X, W, sts, S, h => by
    cases sts with
    | nil => exact s_skip
    | cons _ _ => unfold okB at h; cases h
  | .seq a b, X, W, sts, S, h => by
    cases sts with
    | nil => unfold okB at h; cases h
    | cons st rest =>
      unfold okB at h
      rw [Bool.and_eq_true] at h
      exact s_seq2 (sdS a X W st S h.1) (sdB b X W rest S h.2)
  | .asg _ _, X, W, sts, S, h => by unfold okB at h; cases h
  | .unp _ _, X, W, sts, S, h => by unfold okB at h; cases h
  | .sti _ _ _, X, W, sts, S, h => by unfold okB at h; cases h
  | .stf _ _ _, X, W, sts, S, h => by unfold okB at h; cases h
  | .aug _ _ _, X, W, sts, S, h => by unfold okB at h; cases h
  | .iff _ _ _, X, W, sts, S, h => by unfold okB at h; cases h
  | .for_ _ _ _ _, X, W, sts, S, h => by unfold okB at h; cases h
  | .whl _ _, X, W, sts, S, h => by unfold okB at h; cases h
  | .ret _, X, W, sts, S, h => by unfold okB at h; cases h
  | .retN, X, W, sts, S, h => by unfold okB at h; cases h
  | .exp _, X, W, sts, S, h => by unfold okB at h; cases h
  | .pass, X, W, sts, S, h => by unfold okB at h; cases h
  | .brk, X, W, sts, S, h => by unfold okB at h; cases h
  | .cnt, X, W, sts, S, h => by unfold okB at h; cases h
  | .rai _ _, X, W, sts, S, h => by unfold okB at h; cases h
  | .par _ _ _, X, W, sts, S, h => by unfold okB at h; cases h
  | .try_ _ _, X, W, sts, S, h => by unfold okB at h; cases h
  | .hnd _ _ _ _, X, W, sts, S, h => by unfold okB at h; cases h
termination_by structural cd => cd
theorem sdS {c : Cst} {T : Tab} {N : List Str} {lv : Nat} {o : Orc} : ∀ (cd : S) (X : Cx) (W : WX) (st : Stmt), Sb X c T N lv o W → okS T N X.env.scope cd st = true → PS X st (rdS c W (evS o c.bd cd))
  | .pass, X, W, st, S, h => by
    unfold okS at h
    split at h <;> first | contradiction | skip
    all_goals (rename_i heq; first | cases heq | skip)
    all_goals first | exact s_pass | exact s_doc
  | .brk, X, W, st, S, h => by
    unfold okS at h
    split at h <;> first | contradiction | skip
    exact s_brk
  | .cnt, X, W, st, S, h => by
    unfold okS at h
    split at h <;> first | contradiction | skip
    exact s_cnt
  | .asg i e, X, W, st, S, h => by
    unfold okS at h
    split at h <;> first | contradiction | skip
    rename_i heq
    injection heq with e0 e1
    subst e0
    subst e1
    rw [Bool.and_eq_true, Bool.and_eq_true] at h
    exact s_asg S h.1.1 h.1.2 h.2
  | .unp is e, X, W, st, S, h => by
    unfold okS at h
    split at h <;> first | contradiction | skip
    rename_i heq
    injection heq with e0 e1
    subst e0
    subst e1
    simp only [Bool.and_eq_true] at h
    exact s_unp S h.1.1.1.1 h.1.1.1.2 h.1.1.2 h.1.2 h.2
  | .sti i k e, X, W, st, S, h => by
    unfold okS at h
    split at h <;> first | contradiction | skip
    rename_i heq
    injection heq with e0 e1 e2
    subst e0
    subst e1
    subst e2
    simp only [Bool.and_eq_true] at h
    exact s_sti S h.1.1.1.1 h.1.1.1.2 h.1.1.2 h.1.2 h.2
  | .iff t a b, X, W, st, S, h => by
    unfold okS at h
    split at h <;> first | contradiction | skip
    rename_i heq
    injection heq with e0 e1 e2
    subst e0
    subst e1
    subst e2
    simp only [Bool.and_eq_true] at h
    exact s_iff (sdT t X W _ S.toSd h.1.1) (sdB a X W _ S h.1.2) (sdB b X W _ S h.2)
  | .for_ tg k is b, X, W, st, S, h => by
    unfold okS at h
    split at h <;> first | contradiction | skip
    rename_i heq
    injection heq with e0 e1 e2 e3
    subst e0
    subst e1
    subst e2
    subst e3
    simp only [Bool.and_eq_true] at h
    obtain ⟨⟨⟨⟨hq, h1⟩, h2⟩, h3⟩, h4⟩ := h
    exact psOf (ps_for (S.hp hq) (S.G.calm hq) (sdI is k X W _ _ S.toSd h2) (pg_ok S.G.nd S.hN (S.G.calm hq) S.own h1) (sdB b X W _ S h4) (fold_set h3)) (s_forR S.G.K)
  | .whl t b, X, W, st, S, h => by
    unfold okS at h
    split at h <;> first | contradiction | skip
    rename_i heq
    injection heq with e0 e1
    subst e0
    subst e1
    simp only [Bool.and_eq_true] at h
    exact psOf (ps_while (S.hp h.1.1) (sdT t X W _ S.toSd h.1.2) (sdB b X W _ S h.2)) s_whlR
  | .ret e, X, W, st, S, h => by
    unfold okS at h
    split at h <;> first | contradiction | skip
    rename_i heq
    injection heq with e0
    subst e0
    exact s_ret (sdE e X W _ S.toSd h)
  | .retN, X, W, st, S, h => by
    unfold okS at h
    split at h <;> first | contradiction | skip
    exact s_retN
  | .exp e, X, W, st, S, h => by
    unfold okS at h
    split at h <;> first | contradiction | skip
    rename_i heq
    injection heq with e0
    subst e0
    rw [Bool.and_eq_true] at h
    exact s_exp (sdE e X W _ S.toSd h.1) (swap_no h.2)
  | .skip, X, W, st, S, h => by unfold okS at h; cases h
  | .seq _ _, X, W, st, S, h => by unfold okS at h; cases h
  | .stf i f e, X, W, st, S, h => by
    unfold okS at h
    split at h <;> first | contradiction | skip
    rename_i heq
    injection heq with e0 e1 e2
    subst e0
    subst e1
    subst e2
    simp only [Bool.and_eq_true, decide_eq_true_eq] at h
    obtain ⟨⟨⟨rfl, h1⟩, h2⟩, h3⟩ := h
    exact s_stf S.ok.fl S.G.K (S.toSd.pv h1) (sdE e X W _ S.toSd h2) (swap_no h3)
  | .aug _ _ _, X, W, st, S, h => by unfold okS at h; cases h
  | .par i j as, X, W, st, S, h => by
    unfold okS at h
    split at h <;> first | contradiction | skip
    rename_i heq
    injection heq with e0 e1 e2
    subst e0
    subst e1
    subst e2
    simp only [Bool.and_eq_true, decide_eq_true_eq] at h
    obtain ⟨⟨⟨⟨hq, h1⟩, h2⟩, h3⟩, h4⟩ := h
    have h4' := h4
    have hs1 := okA_hd h4
    have hs2 := okA_hd2 h4'
    have h3' := h3
    unfold parOk at h3'
    simp only [Bool.and_eq_true, Bool.not_eq_true'] at h3'
    obtain ⟨⟨⟨⟨⟨⟨⟨⟨g1, g2⟩, g3⟩, g4⟩, g5⟩, g6⟩, g7⟩, g8⟩, g9⟩ := h3'
    have n1 := h1
    rw [← S.hN] at n1
    have n2 := h2
    rw [← S.hN] at n2
    have hij : i ≠ j := fun z => by
      subst z
      rw [n1] at n2
      cases n2
      simp at g5
    exact psOf (ps_par (S.G.calm hq) S.G.nd n1 n2 hij (by split at g2 <;> simp_all) (by split at g3 <;> simp_all) (sdA as X W _ S.toSd h4) (par_stores h3 hs1 hs2) rfl) s_parR
  | .rai cl as, X, W, st, S, h => by
    unfold okS at h
    split at h <;> first | contradiction | skip
    rename_i heq
    injection heq with e0 e1
    subst e0
    subst e1
    simp only [Bool.and_eq_true, decide_eq_true_eq] at h
    obtain ⟨⟨⟨hq, h1⟩, h2⟩, h3⟩ := h
    obtain ⟨hg, hd⟩ := S.toSd.gl h1
    exact s_rai S.toSd hq h2 hg hd (sdA as X W _ S.toSd h3) (star_cons (okA_hd h3)) (okA_tl h3)
  | .hnd _ _ _ _, X, W, st, S, h => by unfold okS at h; cases h
  | .try_ b hs, X, W, st, S, h => by
    unfold okS at h
    split at h <;> first | contradiction | skip
    rename_i heq
    injection heq with e0 e1
    subst e0
    subst e1
    simp only [Bool.and_eq_true] at h
    obtain ⟨⟨hq, h1⟩, h2⟩ := h
    refine s_try (S.xk hq) (S.hs hq) (S.hf hq) (fun W' pn xe tk po => ?_) (sdH hs X W _ S hq h2)
    exact sdB b (X.tr pn xe) W' _ ⟨⟨⟨⟨S.G.nd, S.G.calm, S.G.room, S.G.un, S.G.K, S.G.kd⟩, S.G.grd⟩, S.hN, tk, S.ok, S.xk, fun z => absurd z (by rw [hq]; exact Bool.noConfusion), fun z => absurd z (by rw [hq]; exact Bool.noConfusion)⟩, S.fnT, fun _ => po, S.kd, S.hs, S.hf⟩ h1
termination_by structural cd => cd
theorem sdH {c : Cst} {T : Tab} {N : List Str} {lv : Nat} {o : Orc} : ∀ (cd : S) (X : Cx) (W : WX) (hds : List ExceptHandler), Sb X c T N lv o W → T.q = true → okH T N X.env.scope cd hds = true → Zh.HdS X hds (rdH c W (evH o c.bd cd))
  | .skip, X, W, hds, S, hq, h => by
    cases hds with
    | nil => exact hd_nil (S.hs hq) (S.hf hq) S.tk
    | cons _ _ => unfold okH at h; cases h
  | .hnd cl oi hh r, X, W, hds, S, hq, h => by
    unfold okH at h
    split at h <;> first | contradiction | skip
    rename_i heq
    injection heq with e0 e1 e2 e3
    subst e0
    subst e1
    subst e2
    subst e3
    simp only [Bool.and_eq_true, decide_eq_true_eq] at h
    obtain ⟨⟨⟨⟨h1, h2⟩, h3⟩, h4⟩, h5⟩ := h
    obtain ⟨hg, hd⟩ := S.toSd.gl h1
    refine hd_step S.G.K (S.xk hq) S.ok.x.xt (S.hf hq) S.G.nd ?_ ⟨hg, hd, .inl (S.ok.cn cl _ h2)⟩ (fun a oe cl' dd pn hz hf => ?_) (sdH r X W _ S hq h5)
    · unfold hdNm at h3
      split at h3
      · simp only [Bool.and_eq_true, decide_eq_true_eq] at h3
        refine ⟨by rw [S.hN]; exact h3.1, ?_⟩
        have h3 := h3.2
        unfold Env.kindOf
        split at h3 <;> simp_all
      · exact True.intro
      · cases h3
    · exact sdB hh (X.suite a ((a, oe) :: pn)) W0 _ ⟨suite_sd S.toSd hz hf, S.fnT, fun z => (nomatch z), S.kd, fun z => (nomatch z), fun z => (nomatch z)⟩ h4
  | .seq _ _, X, W, hds, S, hq, h => by unfold okH at h; cases h
  | .asg _ _, X, W, hds, S, hq, h => by unfold okH at h; cases h
  | .par _ _ _, X, W, hds, S, hq, h => by unfold okH at h; cases h
  | .unp _ _, X, W, hds, S, hq, h => by unfold okH at h; cases h
  | .sti _ _ _, X, W, hds, S, hq, h => by unfold okH at h; cases h
  | .stf _ _ _, X, W, hds, S, hq, h => by unfold okH at h; cases h
  | .aug _ _ _, X, W, hds, S, hq, h => by unfold okH at h; cases h
  | .iff _ _ _, X, W, hds, S, hq, h => by unfold okH at h; cases h
  | .for_ _ _ _ _, X, W, hds, S, hq, h => by unfold okH at h; cases h
  | .whl _ _, X, W, hds, S, hq, h => by unfold okH at h; cases h
  | .ret _, X, W, hds, S, hq, h => by unfold okH at h; cases h
  | .retN, X, W, hds, S, hq, h => by unfold okH at h; cases h
  | .exp _, X, W, hds, S, hq, h => by unfold okH at h; cases h
  | .pass, X, W, hds, S, hq, h => by unfold okH at h; cases h
  | .brk, X, W, hds, S, hq, h => by unfold okH at h; cases h
  | .cnt, X, W, hds, S, hq, h => by unfold okH at h; cases h
  | .rai _ _, X, W, hds, S, hq, h => by unfold okH at h; cases h
  | .try_ _ _, X, W, hds, S, hq, h => by unfold okH at h; cases h
termination_by structural cd => cd
end
end B
namespace B
open PySem PySem.Spec L2
open PyProof.Rows hiding St

/-! ## a def, run -/
def ownB : Sl → Bool
  | .ow _ => true
  | .ob _ _ => true
  | _ => false
theorem ownB_iff {s : Sl} : ownB s = true ↔ isOwn s := by cases s <;> simp [ownB, isOwn]
def outS (d : Def) (δ : En) : List Sl := (List.range d.np).map fun j => if j ∈ d.bor then gS δ j else .un
def finD (d : Def) : R (Fl × En) → R (Vl × List Sl)
  | .ok (.rt v, δ) => if d.np ≤ δ.length then .ok (v, outS d δ) else .no
  | .ok (.nx, δ) => if d.np ≤ δ.length then .ok (.pl .non, outS d δ) else .no
  | .ex c fs δ => if d.np ≤ δ.length then .ex c fs (outS d δ) else .no
  | _ => .no
def runD (o : Orc) (d : Def) (as : List Sl) : R (Vl × List Sl) :=
  if as.length = d.np ∧ ((List.range d.np).all fun j => d.bor.contains j == ownB (gS as j)) = true then
    match finD d (evS o d.bor d.body (as ++ List.replicate (d.n - d.np) .un)) with
    | .ok (.al _, _) => .no
    | r => r
  else .no
theorem runD_np {o : Orc} {d : Def} : ∀ as, as.length ≠ d.np → runD o d as = .no := fun as h => by
  unfold runD
  rw [if_neg fun q => h q.1]
theorem runD_al {o : Orc} {d : Def} : ∀ as v ss, runD o d as = .ok (v, ss) → noAl v := fun as v ss h => by
  unfold runD at h
  split at h
  · split at h
    · cases h
    · rename_i hn
      cases v with
      | al i => exact (hn i ss h).elim
      | _ => exact True.intro
  · cases h

def adr (vs : List V) (j : Nat) : Addr := match vs[j]? with
  | some (.ref a) => a
  | _ => 0
/-- the frame at a def's entry -/
def cst0 (k : Kt) (O : Addr → Prop) (H : Hp) (tr : ∀ a, O a → ∃ u, H a = some u) (vs : List V) (bor : List Nat) : Cst := ⟨k, H, O, bor.map fun j => (j, adr vs j), tr⟩
theorem bd0 {k : Kt} {O : Addr → Prop} {H : Hp} {tr : ∀ a, O a → ∃ u, H a = some u} {vs : List V} {bor : List Nat} : (cst0 k O H tr vs bor).bd = bor := by
  unfold Cst.bd cst0
  rw [List.map_map]
  exact (List.map_congr_left fun _ _ => rfl).trans (List.map_id _)
section
variable {k : Kt} {O : Addr → Prop} {H : Hp} {vs : List V} {as : List Sl}
theorem zip_at {j : Nat} {v : V} {s : Sl} (h1 : vs[j]? = some v) (h2 : as[j]? = some s) : (some v, s) ∈ (vs.map some).zip as :=
  List.mem_of_getElem? (i := j) (by rw [List.getElem?_zip_eq_some, List.getElem?_map, h1]; exact ⟨rfl, h2⟩)
theorem own_at (ok : ∀ e ∈ (vs.map some).zip as, EtOk k O H e) (hl : as.length = vs.length) {j : Nat} (ho : isOwn (gS as j)) : ∃ s, as[j]? = some s ∧ vs[j]? = some (.ref (adr vs j)) ∧ isOwn s ∧ gS as j = s := by
  have hs : gS as j ≠ .un := fun z => by rw [z] at ho; exact ho
  have e := gS_get rfl hs
  obtain ⟨hj, _⟩ := List.getElem?_eq_some_iff.mp e
  have hv : j < vs.length := by rw [← hl]; exact hj
  have ev : vs[j]? = some vs[j] := List.getElem?_eq_getElem hv
  have q := ok _ (zip_at ev e)
  refine ⟨_, e, ?_, ho, rfl⟩
  cases hg : gS as j with
  | un => rw [hg] at ho; exact ho.elim
  | fz d => rw [hg] at ho; exact ho.elim
  | xc _ _ => rw [hg] at ho; exact ho.elim
  | ow ds =>
    rw [hg] at q
    cases hvj : vs[j] with
    | ref a => rw [ev, hvj]; unfold adr; rw [ev, hvj]
    | _ => rw [hvj] at q; exact q.elim
  | ob cl fs =>
    rw [hg] at q
    cases hvj : vs[j] with
    | ref a => rw [ev, hvj]; unfold adr; rw [ev, hvj]
    | _ => rw [hvj] at q; exact q.elim
theorem oa_own {a : Addr} {s : Sl} (h : isOwn s) : oa (some (.ref a), s) = [a] := by cases s <;> first | exact h.elim | rfl
theorem oa_no {e : Et} (h : ¬ isOwn e.2) : oa e = [] := by
  obtain ⟨ov, s⟩ := e
  cases s with
  | ow _ => exact (h True.intro).elim
  | ob _ _ => exact (h True.intro).elim
  | _ => cases ov with
    | none => rfl
    | some v => cases v <;> rfl
theorem zip_rep (n : Nat) : ((List.replicate n (none : Option V)).zip (List.replicate n Sl.un)).flatMap oa = [] := by
  induction n with
  | zero => rfl
  | succ n ih => simp only [List.replicate_succ, List.zip_cons_cons, List.flatMap_cons, ih]; rfl
theorem gS_app {n : Nat} {j : Nat} (h : j < as.length) : gS (as ++ List.replicate n .un) j = gS as j := by
  unfold gS
  rw [List.getD_eq_getElem?_getD, List.getD_eq_getElem?_getD, List.getElem?_append_left h]
theorem start_fo {N : List Str} {bor : List Nat} {np n : Nat} (tr : ∀ a, O a → ∃ u, H a = some u) (ok : ∀ e ∈ (vs.map some).zip as, EtOk k O H e) (nd : (((vs.map some).zip as).flatMap oa).Nodup) (hl : as.length = vs.length) (hnp : as.length = np)
    (hn : n = N.length) (hle : np ≤ n) (hb : ((List.range np).all fun j => bor.contains j == ownB (gS as j)) = true) (hlt : ∀ j ∈ bor, j < np) :
    FO (cst0 k O H tr vs bor) O (as ++ List.replicate (n - np) .un) [] (L2.start N vs) H := by
  have hbor : ∀ j, j < np → (j ∈ bor ↔ isOwn (gS as j)) := fun j hj => by
    have q := List.all_eq_true.mp hb j (List.mem_range.mpr hj)
    rw [beq_iff_eq] at q
    rw [← ownB_iff, ← q]
    simp
  have lentO : ∀ a, (cst0 k O H tr vs bor).lent a → ∃ j ∈ bor, a = adr vs j ∧ ∃ s, as[j]? = some s ∧ vs[j]? = some (.ref a) ∧ isOwn s := fun a ha => by
    obtain ⟨p, hp, rfl⟩ := List.mem_map.mp ha
    obtain ⟨j, hj, rfl⟩ := List.mem_map.mp hp
    obtain ⟨s, e1, e2, e3, _⟩ := own_at ok hl ((hbor j (hlt j hj)).mp hj)
    exact ⟨j, hj, rfl, s, e1, e2, e3⟩
  have zz : (L2.start N vs).zip (as ++ List.replicate (n - np) .un) = (vs.map some).zip as ++ (List.replicate (n - np) none).zip (List.replicate (n - np) Sl.un) := by
    unfold L2.start
    rw [List.zip_append (by rw [List.length_map]; exact hl.symm)]
    have : N.length - vs.length = n - np := by omega
    rw [this]
  refine ⟨⟨fun a h => h, fun a h => ?_, tr, fun e he => ?_, ?_, fun a ha => ?_, fun a u e _ => e, fun a h => .inl h⟩, ?_, fun p hp => ?_⟩
  · obtain ⟨j, _, rfl, s, e1, e2, e3⟩ := lentO a h
    exact oa_O (ok _ (zip_at e2 e1)) (by rw [oa_own e3]; simp)
  · rw [List.nil_append, zz] at he
    rcases List.mem_append.mp he with q | q
    · exact ok e q
    · obtain ⟨i, hi⟩ := List.getElem?_of_mem q
      rw [List.getElem?_zip_eq_some] at hi
      obtain ⟨e1, e2⟩ := e
      have h2 := hi.2
      rw [List.getElem?_replicate] at h2
      split at h2
      · have h3 : Sl.un = e2 := Option.some.inj h2
        subst h3
        exact True.intro
      · cases h2
  · rw [List.nil_append, zz, List.flatMap_append, zip_rep, List.append_nil]
    exact nd
  · rw [List.nil_append, zz, List.flatMap_append, zip_rep, List.append_nil] at ha
    obtain ⟨e, he, hae⟩ := List.mem_flatMap.mp ha
    obtain ⟨j, hj⟩ := List.getElem?_of_mem he
    rw [List.getElem?_zip_eq_some, List.getElem?_map] at hj
    have ho : isOwn e.2 := by
      apply Classical.byContradiction
      intro z
      rw [oa_no z] at hae
      cases hae
    obtain ⟨hjl, _⟩ := List.getElem?_eq_some_iff.mp hj.2
    have hg : gS as j = e.2 := get_gS hj.2
    have hbj : j ∈ bor := (hbor j (by omega)).mpr (by rw [hg]; exact ho)
    obtain ⟨s, e1, e2, e3, _⟩ := own_at ok hl (j := j) (by rw [hg]; exact ho)
    rw [e2] at hj
    have e4 : e = (some (.ref (adr vs j)), e.2) := by
      obtain ⟨x, y⟩ := e
      have := hj.1
      simp only [Option.map_some, Option.some.injEq] at this
      rw [← this]
    rw [e4, oa_own ho] at hae
    have : a = adr vs j := by simpa using hae
    subst this
    exact .inl (List.mem_map.mpr ⟨(j, adr vs j), List.mem_map.mpr ⟨j, hbj, rfl⟩, rfl⟩)
  · unfold L2.start
    simp only [List.length_append, List.length_map, List.length_replicate]
    omega
  · obtain ⟨j, hj, rfl⟩ := List.mem_map.mp hp
    have hjn := hlt j hj
    obtain ⟨s, e1, e2, e3, e4⟩ := own_at ok hl ((hbor j hjn).mp hj)
    refine ⟨?_, ?_⟩
    · unfold L2.start
      rw [List.getElem?_append_left (by rw [List.length_map]; omega), List.getElem?_map, e2]
      rfl
    · rw [gS_app (by omega), e4]
      exact e3
theorem flat_sub {f g : Nat → List Addr} : ∀ {m : Nat}, (∀ j, j < m → (f j).Sublist (g j)) → ((List.range m).flatMap f).Sublist ((List.range m).flatMap g) := by
  intro m
  induction m with
  | zero => intro _; exact List.Sublist.refl _
  | succ m ih =>
    intro h
    rw [List.range_succ, List.flatMap_append, List.flatMap_append]
    refine (ih fun j hj => h j (Nat.lt_succ_of_lt hj)).append ?_
    simpa using h m (Nat.lt_succ_self m)
theorem range_sub {g : Nat → List Addr} {m n : Nat} (h : m ≤ n) : ((List.range m).flatMap g).Sublist ((List.range n).flatMap g) := by
  obtain ⟨d, rfl⟩ := Nat.exists_eq_add_of_le h
  rw [List.range_add, List.flatMap_append]
  exact List.sublist_append_left _ _
/-- behind the body -/
theorem end_of {d : Def} {en : List Et} {O' : Addr → Prop} {H' : Hp} {σ' : St} {δ' : En} (tr : ∀ a, O a → ∃ u, H a = some u) (ok : ∀ e ∈ (vs.map some).zip as, EtOk k O H e) (hl : as.length = vs.length) (hnp : as.length = d.np)
    (hb : ((List.range d.np).all fun j => d.bor.contains j == ownB (gS as j)) = true) (hlt : ∀ j ∈ d.bor, j < d.np) (hδ : d.np ≤ δ'.length) (hen : en.length ≤ 1) (F : FO (cst0 k O H tr vs d.bor) O' δ' en σ' H') : CallEnd k O H vs as en (outS d δ') O' H' := by
  have hbor : ∀ j, j < d.np → (j ∈ d.bor ↔ isOwn (gS as j)) := fun j hj => by
    have q := List.all_eq_true.mp hb j (List.mem_range.mpr hj)
    rw [beq_iff_eq] at q
    rw [← ownB_iff, ← q]
    simp
  have outl : (outS d δ').length = d.np := by unfold outS; simp
  have outj : ∀ j, j < d.np → (outS d δ')[j]? = some (if j ∈ d.bor then gS δ' j else .un) := fun j hj => by
    unfold outS
    rw [List.getElem?_map, List.getElem?_range hj]
    rfl
  -- a lent slot, at the entry and at the end
  have lent : ∀ j ∈ d.bor, vs[j]? = some (.ref (adr vs j)) ∧ eAt σ' δ' j = (some (.ref (adr vs j)), gS δ' j) ∧ isOwn (gS δ' j) ∧ ∃ s, as[j]? = some s ∧ isOwn s := fun j hj => by
    obtain ⟨s, e1, e2, e3, _⟩ := own_at ok hl ((hbor j (hlt j hj)).mp hj)
    obtain ⟨b1, b2⟩ := F.bs (j, adr vs j) (List.mem_map.mpr ⟨j, hj, rfl⟩)
    refine ⟨e2, ?_, b2, s, e1, e3⟩
    unfold eAt
    rw [List.getD_eq_getElem?_getD, b1]
    rfl
  have zo : ∀ e ∈ (vs.map some).zip (outS d δ'), (∃ j ∈ d.bor, e = eAt σ' δ' j ∧ oa e = [adr vs j]) ∨ e.2 = .un := fun e he => by
    obtain ⟨j, hj⟩ := List.getElem?_of_mem he
    rw [List.getElem?_zip_eq_some, List.getElem?_map] at hj
    obtain ⟨hjl, _⟩ := List.getElem?_eq_some_iff.mp hj.2
    rw [outl] at hjl
    rw [outj j hjl] at hj
    by_cases q : j ∈ d.bor
    · rw [if_pos q] at hj
      obtain ⟨l1, l2, l3, _⟩ := lent j q
      rw [l1] at hj
      refine .inl ⟨j, q, ?_, ?_⟩
      · rw [l2]
        obtain ⟨x, y⟩ := e
        simp only [Option.map_some, Option.some.injEq] at hj
        rw [hj.1, hj.2]
      · obtain ⟨x, y⟩ := e
        simp only [Option.map_some, Option.some.injEq] at hj
        rw [← hj.1, ← hj.2, oa_own l3]
    · rw [if_neg q] at hj
      exact .inr (Option.some.inj hj.2).symm
  refine ⟨F.fr.o0, F.fr.tr, F.fr.on, fun a u e n => F.fr.pr a u e fun z => n ?_, fun e he => ?_, ?_, fun a ha => ?_, fun a ha => ?_, by rw [outl]; exact hnp.symm, fun j s e ho => ?_⟩
  · obtain ⟨p, hp, rfl⟩ := List.mem_map.mp z
    obtain ⟨j, hj, rfl⟩ := List.mem_map.mp hp
    obtain ⟨l1, _, _, s, l4, l5⟩ := lent j hj
    exact List.mem_flatMap.mpr ⟨_, zip_at l1 l4, by rw [oa_own l5]; simp⟩
  · rcases List.mem_append.mp he with q | q
    · exact F.fr.ok e (List.mem_append_left _ q)
    · rcases zo e q with ⟨j, _, rfl, _⟩ | z
      · exact eAt_ok F j
      · obtain ⟨x, y⟩ := e
        simp only at z
        subst z
        exact True.intro
  · have nd := F.fr.nd
    rw [zip_range _ _ F.len, List.flatMap_append, List.flatMap_map] at nd
    rw [List.flatMap_append]
    refine nd.sublist ((List.Sublist.refl _).append ?_)
    have zl : (vs.map some).zip (outS d δ') = (List.range d.np).map fun j => ((vs.map some).getD j none, if j ∈ d.bor then gS δ' j else .un) := by
      apply List.ext_getElem
      · simp only [List.length_zip, List.length_map, List.length_range, outl]; omega
      · intro j h1 h2
        simp only [List.length_map, List.length_range] at h2
        have h3 : j < vs.length := by omega
        have h4 := outj j h2
        rw [List.getElem?_eq_getElem (by rw [outl]; exact h2)] at h4
        simp only [List.getElem_zip, List.getElem_map, List.getElem_range, Option.some.inj h4, List.getD_eq_getElem?_getD, List.getElem?_map, List.getElem?_eq_getElem h3]
        rfl
    rw [zl, List.flatMap_map]
    refine (flat_sub fun j hj => ?_).trans (range_sub hδ)
    by_cases q : j ∈ d.bor
    · obtain ⟨l1, l2, l3, _⟩ := lent j q
      rw [if_pos q, l2]
      have : (vs.map some).getD j none = some (V.ref (adr vs j)) := by rw [List.getD_eq_getElem?_getD, List.getElem?_map, l1]; rfl
      rw [this]
      exact List.Sublist.refl _
    · rw [if_neg q, oa_no (e := ((vs.map some).getD j none, Sl.un)) (fun z => z)]
      exact List.nil_sublist _
  · obtain ⟨e, he, hae⟩ := List.mem_flatMap.mp ha
    rcases zo e he with ⟨j, hj, rfl, ho⟩ | z
    · rw [ho] at hae
      have : a = adr vs j := by simpa using hae
      subst this
      obtain ⟨l1, _, _, s, l4, l5⟩ := lent j hj
      exact List.mem_flatMap.mpr ⟨_, zip_at l1 l4, by rw [oa_own l5]; simp⟩
    · rw [oa_no (by rw [z]; exact fun q => q)] at hae
      cases hae
  · obtain ⟨e, he, hae⟩ := List.mem_flatMap.mp ha
    have hp : ∃ τ', en.Perm (e :: τ') := by
      match en, hen, he with
      | [x], _, he =>
        have : e = x := by simpa using he
        exact ⟨[], by rw [this]⟩
    obtain ⟨τ', hp⟩ := hp
    exact (F.fr.nw a (List.mem_flatMap.mpr ⟨e, List.mem_append_left _ he, hae⟩)).resolve_left (F.temp_nl hp hae)
  · obtain ⟨hj, _⟩ := List.getElem?_eq_some_iff.mp e
    have hj' : j < d.np := by omega
    have hg : gS as j = s := get_gS e
    have hbj : j ∈ d.bor := (hbor j hj').mpr (by rw [hg]; exact ho)
    obtain ⟨_, _, l3, _⟩ := lent j hbj
    exact ⟨_, outj j hj', by rw [if_pos hbj]; exact l3⟩
end
end B
namespace B
open PySem PySem.Spec L2
open PyProof.Rows hiding St
section
variable {P : Program} {w : World} {K : PySem.W.Frag} {mg : Str → Option Value} {base : Heap} {k : Kt} {T : Tab} {lv : Nat} {o : Orc}

theorem evS_len {bd : List Nat} : True := True.intro

/-- the body's reading gives the promise -/
theorem body_pre {d : Def} {N : List Str} {vs : List V} {H : Hp} {Q : VK} {E : XK} {W : WX} (hW : W = fun cls dd _ H' => E cls dd H') (hn : d.n = N.length) (hle : d.np ≤ d.n) (hlt : ∀ j ∈ d.bor, j < d.np) (h : spB k (runD o d) d.np vs H Q E) :
    ∃ c : Cst, c.k = k ∧ c.bd = d.bor ∧ rdS c W (evS o d.bor d.body) { nx := fun _ H' => Q .non H', rt := Q } (L2.start N vs) H := by
  obtain ⟨O, as, hl, hvn, tr, ok, nd, h⟩ := h
  unfold runD at h
  by_cases hc : as.length = d.np ∧ ((List.range d.np).all fun j => d.bor.contains j == ownB (gS as j)) = true
  case neg => rw [if_neg hc] at h; exact h.elim
  rw [if_pos hc] at h
  obtain ⟨hnp, hb⟩ := hc
  have F0 := start_fo (N := N) (bor := d.bor) tr ok nd hl hnp hn hle hb hlt
  refine ⟨cst0 k O H tr vs d.bor, rfl, bd0, _, [], ⟨O, F0⟩, ?_⟩
  have hgr : ∀ {en : List Et} {O' : Addr → Prop} {H' : Hp} {σ' : St} {δ' : En}, en.length ≤ 1 → FO (cst0 k O H tr vs d.bor) O' δ' en σ' H' → d.np ≤ δ'.length → CallEnd k O H vs as en (outS d δ') O' H' := fun he F hd => end_of tr ok hl hnp hb hlt hd he F
  cases e : evS o d.bor d.body (as ++ List.replicate (d.n - d.np) .un) with
  | no => rw [e] at h; exact h.elim
  | ex cl fs δ' =>
    rw [e] at h
    simp only [finD] at h
    by_cases hd : d.np ≤ δ'.length
    · rw [if_pos hd] at h
      intro σ H' dd fvs O' F e1 r n
      subst hW
      exact h H' O' dd fvs (hgr (by simp) F hd) e1 r n
    · rw [if_neg hd] at h; exact h.elim
  | ok p =>
    obtain ⟨fl, δ'⟩ := p
    rw [e] at h
    cases fl with
    | bk => exact h.elim
    | ct => exact h.elim
    | nx =>
      simp only [finD] at h
      by_cases hd : d.np ≤ δ'.length
      · rw [if_pos hd] at h
        exact fun σ' H' ⟨O', F⟩ => h.2 .non H' O' (hgr (by simp) (F.addFz .non) hd)
      · rw [if_neg hd] at h; exact h.elim
    | rt v =>
      simp only [finD] at h
      by_cases hd : d.np ≤ δ'.length
      · rw [if_pos hd] at h
        cases v with
        | al i => exact h.elim
        | pl d' => exact ⟨True.intro, fun σ' y H' ⟨O', F⟩ => h.2 y H' O' (hgr (by simp) F hd)⟩
        | fr ds => exact ⟨True.intro, fun σ' y H' ⟨O', F⟩ => h.2 y H' O' (hgr (by simp) F hd)⟩
      · rw [if_neg hd] at h; exact h.elim

/-! ## each def keeps its promise -/
/-- a def of the text and its code -/
structure DG (K : PySem.W.Frag) (T : Tab) (d : Def) (nm qn : Str) (fa : Addr) (fd : FuncData) (ps N : List Str) (st : Stmt) : Prop where
  fn : Fun K nm qn st fa fd
  sc : FnScope N ps (defScope st)
  bi : Binds K fd ps []
  okb : okB T N (defScope st) d.body (defBody st) = true
  n : d.n = N.length
  np : d.np = ps.length
  lt : ∀ j ∈ d.bor, j < d.np
  kw : KwB K fd ps
theorem fn_ok {d : Def} {nm qn : Str} {fa : Addr} {fd : FuncData} {ps N : List Str} {st : Stmt} (hkd : ∀ a ps, k.kd a ps → KdF K w a ps) (hK : K = k.K) (hq : T.q = true) (hx : ∀ a cl dd, ¬ k.xd a cl dd) (D : DG K T d nm qn fa fd ps N st) (ok : TOk P w K mg base k T lv o) : FnG P w K mg base (lv + 1) fa fd ps (spB k (runD o d) d.np) := by
  obtain ⟨oc, od, kV, dc, pm, an, cv0, ct, osl, rfl, lk, hcd⟩ := D.fn.ex
  have hle : d.np ≤ d.n := by
    have q := congrArg List.length D.sc.pre
    rw [List.length_take] at q
    rw [D.n, D.np]
    omega
  refine ⟨fun vs H Q E h => ?_, fun A outer s H args us vs Q E room grd e0 hb rv hsp => ?_⟩
  · obtain ⟨_, _, _, h2, _⟩ := h
    rw [h2]; exact D.np
  have lenV : vs.length = ps.length := by
    obtain ⟨_, _, _, h2, _⟩ := hsp
    rw [h2]; exact D.np
  have kin : K.In s.heap := e0.mod.kin.keeps fun b ob q => (e0.bs b ob q).1
  have lim : s.heap.NoLimit := e0.mod.nolimit.keeps fun b ob q => (e0.bs b ob q).1
  have names : ∀ y ∈ ps.zip us, (defScope st).names.lookup y.1 = some .local ∨ ((defScope st).names.lookup y.1 = some .cell ∧ ((cellsFrom (s.heap.objs.size + 1) (defScope st).names []).lookup y.1).isSome = true) := by
    rintro ⟨y, u⟩ hy
    rcases D.sc.par y (List.of_mem_zip hy).1 with q | q
    · exact .inl q
    · exact .inr ⟨q, PySem.W.cellsFrom_some _ _ _ (.inl q)⟩
  refine codeAny_call_function room.depth (kin _ _ lk) rfl D.sc.co D.sc.gen rfl (PySem.W.codeRec_of kin hcd) (hb _ _ _ _ ?_)
  refine wpAny_newFunctionEnv_cells D.sc.kind names fun env he s1 start1 => ?_
  subst he
  refine ⟨lim.keeps start1.toInCall.keep, codeAny_func ?_⟩
  obtain ⟨c, rfl, hbd, rd⟩ := body_pre (W := fun cls dd _ H' => E cls dd H') rfl (N := N) D.n hle D.lt hsp
  have I := inv_start (CX := L2.CX P w) (E := E) D.sc room.hd e0 lenV rv start1
  have sb : Sb (cxOf (L2.CX P w) P w K mg base N qn (defScope st) fa cv0 A outer s H E) c T N lv o (fun cls dd _ H' => E cls dd H') :=
    ⟨⟨⟨⟨D.sc.nd, fun _ => rfl, fun _ => room.deeper _, (by have := (room.deeper (envOfC qn (defScope st) s.heap.objs.size fa cv0)).un; show (A.deeper (envOfC qn (defScope st) s.heap.objs.size fa cv0)).units + 150 < cLine; omega), hK, hkd⟩, grd⟩, rfl, takes_of rfl rfl rfl rfl, ok, fun _ => hx, fun z => absurd z (by rw [hq]; exact Bool.noConfusion), fun z => absurd z (by rw [hq]; exact Bool.noConfusion)⟩, fun _ => rfl, fun _ => passes_of rfl, D.sc.kind, fun _ => rfl, fun _ => rfl⟩
  have body := sdB d.body _ _ (defBody st) sb D.okb
  rw [hbd] at body
  refine wpAny_mono (body.run [] s1 (L2.start N vs) H _ I rd) (fun fl s2 hs => ?_) fun er s2 hs => hs
  match fl, hs with
  | .ret u, ⟨v, σ2, H2, J, r2, q2⟩ => exact ⟨v, H2, J.os, J.bare, J.base, J.hok, r2, q2⟩
  | .next, ⟨σ2, H2, J, q2⟩ => exact ⟨V.non, H2, J.os, J.bare, J.base, J.hok, rfl, q2⟩
  | .brk, ⟨_, _, _, q2⟩ => exact q2.elim
  | .cont, ⟨_, _, _, q2⟩ => exact q2.elim

/-- the defs at each depth; what raises stands two deep at least -/
def orc (ds : List Def) (G : Gv) : Nat → Orc
  | 0 => { G with xf := fun _ => none, cl := fun _ _ => .no, mkc := fun _ _ => .no }
  | n + 1 => { G with xf := (match n with | 0 => fun _ => none | _ + 1 => G.xf), cl := fun f as => match ds[f]? with | some d => runD (orc ds G n) d as | none => .no, mkc := fun c => match G.ini c with | some f => (orc ds G n).cl f | none => fun _ => .no }
/-- what the text is, as one reads it once -/
structure TxF (K : PySem.W.Frag) (mg : Str → Option Value) (k : Kt) (T : Tab) (ds : List Def) (G : Gv) (A : Nat → Addr) (FD : Nat → FuncData) (PS : Nat → List Str) : Prop where
  hK : K = k.K
  hq : T.q = true
  hx : ∀ a cl dd, ¬ k.xd a cl dd
  df : ∀ f d, ds[f]? = some d → ∃ nm qn N st, DG K T d nm qn (A f) (FD f) (PS f) N st
  fn : ∀ f nm np, T.fn[f]? = some (nm, np) → mg nm = some (.ref (A f)) ∧ ∃ d, ds[f]? = some d ∧ d.np = np
  pn : ∀ f q, T.pn[f]? = some q → q = PS f
  gl : ∀ g nm d, T.gn[g]? = some nm → G.gl g = some d → ∃ u v, mg nm = some u ∧ RelV v u ∧ ∀ O H, Rep k O H v d
  bl : ∀ x, T.bl.contains x = true → mg x = none
  is : IsF k G.nc T.cn.length G.sub
  fl : ∀ c f, c < G.nc → G.fl c f = true → NoAttr k.K (k.ct c) f
  mt : ∀ c m f, c < G.nc → G.mt c m = some f → Meth K (k.ct c) m (A f) ∧ ∃ d, ds[f]? = some d
  cn : ∀ c x, T.cn[c]? = some x → mg x = some (.ref (k.ct c))
  xq : ∀ c f, G.nc ≤ c → G.fl c f = true → XfC K (k.ct c) ∧ PySem.W.findIn K (.ref (k.ct c)) f = some none
  xe : ∀ c t b, xi1 (orc ds G 0) c t = some b → XiC K (k.ct c) ∧ PySem.W.kitOne K (.ref (k.ct c)) (tyV k t).2 = some b
  xt : ∀ c c' b, G.xs c c' = some b → PySem.W.exmOne K (.ref (k.ct c)) (.ref (k.ct c')) = some b
  mks : ∀ c x, T.cn[c]? = some x → T.mks.contains c = true → ∃ f, G.ini c = some f ∧ Mk K (k.ct c) (A f) ∧ ∃ d, ds[f]? = some d
section
variable {ds : List Def} {G : Gv} {A : Nat → Addr} {FD : Nat → FuncData} {PS : Nat → List Str}
theorem orc_at {f : Nat} {d : Def} {n : Nat} (h : ds[f]? = some d) : (orc ds G (n + 1)).cl f = runD (orc ds G n) d := by
  funext as
  show (match ds[f]? with | some d => runD (orc ds G n) d as | none => .no) = _
  rw [h]
theorem orc_np {f : Nat} {d : Def} (h : ds[f]? = some d) : ∀ n as, as.length ≠ d.np → (orc ds G n).cl f as = .no
  | 0, _, _ => rfl
  | n + 1, as, q => by rw [orc_at h]; exact runD_np as q
theorem orc_al {f : Nat} {d : Def} (h : ds[f]? = some d) : ∀ n as v ss, (orc ds G n).cl f as = .ok (v, ss) → noAl v
  | 0, _, _, _, q => by cases q
  | n + 1, as, v, ss, q => by rw [orc_at h] at q; exact runD_al as v ss q
theorem fng0 {f : Addr} {fd : FuncData} {ps : List Str} {np lv : Nat} {g : List Sl → R (Vl × List Sl)} (h : ∀ as, g as = .no) : FnG P w K mg base lv f fd ps (spB k g np) := by
  refine ⟨fun vs H Q E h' => ?_, fun A outer s H args us vs Q E _ _ _ _ _ h' => ?_⟩
  · obtain ⟨_, as, _, _, _, _, _, z⟩ := h'; rw [h as] at z; exact z.elim
  · obtain ⟨_, as, _, _, _, _, _, z⟩ := h'; rw [h as] at z; exact z.elim
theorem xok (F : TxF K mg k T ds G A FD PS) (xm : XmOk P w K mg base k T 2 G.xf) : ∀ n, XOk P w K mg base k T n (orc ds G n)
  | 0 => ⟨fun _ X _ _ _ _ _ _ c x ns _ h => (nomatch h), F.xq, F.xe, F.xt⟩
  | 1 => ⟨fun _ X _ _ _ _ _ _ c x ns _ h => (nomatch h), F.xq, fun c t b h => F.xe c t b (by cases t <;> exact h), F.xt⟩
  | n + 2 => ⟨fun _ X h1 h2 h3 h4 h5 r => xm X h1 h2 h3 h4 h5 (r.mono (by omega)), F.xq, fun c t b h => F.xe c t b (by cases t <;> exact h), F.xt⟩
theorem tok (hkd : ∀ a ps, k.kd a ps → KdF K w a ps) (F : TxF K mg k T ds G A FD PS) (xm : XmOk P w K mg base k T 2 G.xf) : ∀ n, TOk P w K mg base k T n (orc ds G n) ∧ ∀ f d, ds[f]? = some d → FnG P w K mg base n (A f) (FD f) (PS f) (spB k ((orc ds G n).cl f) d.np)
  | 0 => by
    have c0 : ∀ f d, ds[f]? = some d → FnG P w K mg base 0 (A f) (FD f) (PS f) (spB k ((orc ds G 0).cl f) d.np) := fun f d _ => fng0 fun _ => rfl
    refine ⟨⟨fun _ f nm np e => ?_, F.gl, F.bl, xok F xm _, F.is, fun c f h1 h2 => ⟨(F.is.cf c h1).cl, F.fl c f h1 h2⟩, fun _ c m f h1 h2 => ?_, F.cn, fun _ c x h1 h2 => ?_⟩, c0⟩
    · obtain ⟨m1, d, e1, rfl⟩ := F.fn f nm np e
      obtain ⟨_, _, N, st, D⟩ := F.df f d e1
      exact ⟨A f, FD f, PS f, m1, D.fn.kp, D.bi, c0 f d e1, orc_np e1 0, orc_al e1 0, fun q e => ⟨F.pn f q e, D.kw⟩⟩
    · obtain ⟨m1, d, e1⟩ := F.mt c m f h1 h2
      obtain ⟨_, _, N, st, D⟩ := F.df f d e1
      exact ⟨A f, FD f, PS f, d.np, F.hK ▸ (F.is.cf c h1).cl, m1, D.bi, c0 f d e1, orc_np e1 0, orc_al e1 0⟩
    · obtain ⟨f, e0, M, d, e1⟩ := F.mks c x h1 h2
      obtain ⟨_, _, N, st, D⟩ := F.df f d e1
      exact ⟨A f, FD f, PS f, d.np, 0, .inl fun _ => rfl, M, D.bi, fng0 fun _ => rfl, fun _ _ => rfl, fun _ _ _ h => by cases h⟩
  | n + 1 => by
    obtain ⟨ok, cn⟩ := tok hkd F xm n
    have c1 : ∀ f d, ds[f]? = some d → FnG P w K mg base (n + 1) (A f) (FD f) (PS f) (spB k ((orc ds G (n + 1)).cl f) d.np) := fun f d e => by
      obtain ⟨_, _, N, st, D⟩ := F.df f d e
      rw [orc_at e]
      exact fn_ok hkd F.hK F.hq F.hx D ok
    refine ⟨⟨fun _ f nm np e => ?_, F.gl, F.bl, xok F xm _, F.is, fun c f h1 h2 => ⟨(F.is.cf c h1).cl, F.fl c f h1 h2⟩, fun _ c m f h1 h2 => ?_, F.cn, fun _ c x h1 h2 => ?_⟩, c1⟩
    · obtain ⟨m1, d, e1, rfl⟩ := F.fn f nm np e
      obtain ⟨_, _, N, st, D⟩ := F.df f d e1
      exact ⟨A f, FD f, PS f, m1, D.fn.kp, D.bi, c1 f d e1, orc_np e1 _, orc_al e1 _, fun q e => ⟨F.pn f q e, D.kw⟩⟩
    · obtain ⟨m1, d, e1⟩ := F.mt c m f h1 h2
      obtain ⟨_, _, N, st, D⟩ := F.df f d e1
      exact ⟨A f, FD f, PS f, d.np, F.hK ▸ (F.is.cf c h1).cl, m1, D.bi, c1 f d e1, orc_np e1 _, orc_al e1 _⟩
    · obtain ⟨f, e0, M, d, e1⟩ := F.mks c x h1 h2
      obtain ⟨_, _, N, st, D⟩ := F.df f d e1
      have em : (orc ds G (n + 1)).mkc c = (orc ds G n).cl f := by
        show (match G.ini c with | some f => (orc ds G n).cl f | none => fun _ => .no) = _
        rw [e0]
      rw [em]
      exact ⟨A f, FD f, PS f, d.np, n, .inr (Nat.le_refl _), M, D.bi, cn f d e1, orc_np e1 _, orc_al e1 _⟩
end
end
end B
namespace B
open PySem PySem.Spec L2
open PyProof.Rows hiding St

/-! ## from what k_is tells to what the layer asks -/
section
variable {K : PySem.W.Frag} {C D : Addr} {t : Value} {b : Bool} {T : String}
theorem kit_own (hd : PySem.W.hasDictIn K C = true) (ht : PySem.W.typeIn K (.ref C) = some (.type "type")) (hr : PySem.W.subIn K (.ref C) (.ref C) = some true) (hs : PySem.W.subIn K t (.ref C) = some b) : PySem.W.kitOne K t (.ref C) = some b := by
  obtain ⟨cd, hc, _⟩ := PySem.W.any_some hd
  unfold PySem.W.kitOne
  by_cases e : (t == Value.ref C) = true
  · have e' := beq_iff_eq.mp e
    subst e'
    rw [hr] at hs
    cases hs
    rw [if_pos e]
  · rw [if_neg e]
    show (if ((PySem.W.clsIn K C).isSome && PySem.W.typeIn K (.ref C) == some (.type "type")) = true then PySem.W.subIn K t (.ref C) else none) = some b
    rw [hc, ht, hs]
    rfl
theorem kit_blt (hm : PySem.W.kitMeta T = true) (hs : PySem.W.subIn K (.ref C) (.type T) = some b) : PySem.W.kitOne K (.ref C) (.type T) = some b := by
  unfold PySem.W.kitOne
  rw [if_neg (by simp)]
  show (if PySem.W.kitMeta T = true then PySem.W.subIn K (.ref C) (.type T) else none) = some b
  rw [if_pos hm]
  exact hs
theorem xi_of (hd : PySem.W.hasDictIn K C = true) (ga : PySem.W.findIn K (.ref C) "__getattribute__" = some (some (.builtin "BaseException.__getattribute__"))) (gt : PySem.W.findIn K (.ref C) "__getattr__" = some none) (sb : PySem.W.subIn K (.ref C) (.type "BaseException") = some true)
    (ha : PySem.W.findIn K (.ref C) "__class__" = some (some (.builtin "object.__class__"))) (hn : PySem.W.specialIn K (.builtin "object.__class__") "__get__" = some (some (.builtin "getset_descriptor.__get__"))) (tk : PySem.W.takesIn K (.builtin "object.__class__") = some true) (hm : PySem.W.mroIn K C (.type "object") = some true) : XiC K C :=
  ⟨by obtain ⟨cd, hc, _⟩ := PySem.W.any_some hd; rw [hc]; rfl, ga, gt, sb, ha, hn, tk, hm⟩
theorem xf_of (hd : PySem.W.hasDictIn K C = true) (ga : PySem.W.findIn K (.ref C) "__getattribute__" = some (some (.builtin "BaseException.__getattribute__"))) (gt : PySem.W.findIn K (.ref C) "__getattr__" = some none) (sb : PySem.W.subIn K (.ref C) (.type "BaseException") = some true) : XfC K C := ⟨ga, gt, sb, hd⟩
end
/-! ## defs by lists -/
def AllD (K : PySem.W.Frag) (T : Tab) : List Def → List Addr → List FuncData → List (List Str) → Prop
  | [], [], [], [] => True
  | d :: ds, a :: as, fd :: fds, ps :: pss => (∃ nm qn N st, DG K T d nm qn a fd ps N st) ∧ AllD K T ds as fds pss
  | _, _, _, _ => False
theorem AllD.at {K : PySem.W.Frag} {T : Tab} {a0 : Addr} {f0 : FuncData} : ∀ {ds : List Def} {as : List Addr} {fds : List FuncData} {pss : List (List Str)}, AllD K T ds as fds pss → ∀ f d, ds[f]? = some d → ∃ nm qn N st, DG K T d nm qn (as.getD f a0) (fds.getD f f0) (pss.getD f []) N st
  | [], [], [], [], _, f, d, e => by simp at e
  | d0 :: ds, a :: as, fd :: fds, ps :: pss, h, 0, d, e => by
    have e : d0 = d := by simpa using e
    subst e
    exact h.1
  | d0 :: ds, a :: as, fd :: fds, ps :: pss, h, f + 1, d, e => AllD.at h.2 f d (by simpa using e)
  | [], _ :: _, _, _, h, _, _, _ => by simp [AllD] at h
  | [], [], _ :: _, _, h, _, _, _ => by simp [AllD] at h
  | [], [], [], _ :: _, h, _, _, _ => by simp [AllD] at h
  | _ :: _, [], _, _, h, _, _, _ => by simp [AllD] at h
  | _ :: _, _ :: _, [], _, h, _, _, _ => by simp [AllD] at h
  | _ :: _, _ :: _, _ :: _, [], h, _, _, _ => by simp [AllD] at h
end B
namespace B
open PySem PySem.Spec L2
open PyProof.Rows hiding St

/-! ## an error class with one field -/
def upA (ta : TA) : TA := fun σ H Q => ∃ Q0 : List V → Hp → Prop, ta σ H Q0 ∧ ∀ vs H1, Q0 vs H1 → Q vs H1
theorem pa_up {X : Cx} {es : List Expr} {ta : TA} (h : PA X es ta) : PA X es (upA ta) := ⟨fun pos pins s σ H Q I ⟨Q0, q, m⟩ => wpAny_mono (h.run pos pins s σ H Q0 I q) (fun us s' ⟨vs, H1, I1, r, z⟩ => ⟨vs, H1, I1, r, m vs H1 z⟩) fun _ _ z => z⟩
def spX1 (C : Addr) (f : Str) : Sp := fun vs H Q _ => ∃ (a : Addr) (y : V), vs = [.ref a, y] ∧ H a = some (exo a C none) ∧ ∀ dx, H dx = none → dx ≠ a → Q .non (upd (upd H dx (exd dx [(f, y)])) a (exo a C (some dx)))
section
variable {P : Program} {w : World} {K : PySem.W.Frag} {mg : Str → Option Value} {base : Heap} {C fI : Addr} {fd : FuncData} {st : Stmt} {qn x0 x1 f : Str} {p1 p2 p3 p4 : Pos}
theorem fn_x1 (F : Fun K "__init__" qn st fI fd) (S : FnScope [x0, x1] [x0, x1] (defScope st)) (T : OexC K C) (hno : PySem.W.findIn K (.ref C) f = some none) (hb : defBody st = [.Assign [.Attribute (.Name x0 p1) f p2] (.Name x1 p3) p4])
    (h0 : nmOk [x0, x1] (defScope st) 0 x0 = true) (h1 : nmOk [x0, x1] (defScope st) 1 x1 = true) : FnOk P w K mg base (L2.CX P w) 1 fI fd [x0, x1] (spX1 C f) := by
  refine F.okX S (fun vs H Q E h => ?_) fun cdv A outer s H vs Q E hr h => ?_
  · obtain ⟨a, y, rfl, _⟩ := h; rfl
  · rw [hb]
    unfold nmOk at h0 h1
    simp only [Bool.and_eq_true, decide_eq_true_eq, Bool.not_eq_true'] at h0 h1
    refine ⟨_, pss_one (ps_ost (pe_var (i := 0) rfl (vis_of h0.1.1.2) h0.1.2 h0.2) (pe_var (i := 1) rfl (vis_of h1.1.1.2) h1.1.2 h1.2) rfl), ?_⟩
    obtain ⟨a, y, rfl, ea, q⟩ := h
    exact ⟨y, rfl, .ref a, rfl, a, C, rfl, T, hno, .inl ⟨ea, fun dx n ne => q dx n ne⟩⟩
/-- raise C(e) -/
theorem xm_x1 (F : FnOk P w K mg base (L2.CX P w) 1 fI fd [x0, x1] (spX1 C f)) (T : OexC K C) (iC : PySem.W.findIn K (.ref C) "__init__" = some (some (.ref fI))) (tI : PySem.W.typeIn K (.ref fI) = some (.type "function")) (bi : Binds K fd [x0, x1] [])
    {X : Cx} (e1 : X.prog = P) (e2 : X.w = w) (e3 : X.K = K) (e4 : X.mg = mg) (e5 : X.base = base) (r : Room 2 X.A) {x : Str} (hm : mg x = some (.ref C)) (hg : Gl X x) (hd : (x == ("__debug__" : Str)) = false) {e : Expr} {es : List Expr} {ta : TA} {p pos : Pos} (ha : PA X (e :: es) ta)
    (he : starEach (e :: es) X.env = (false, eval e X.env) :: starEach es X.env) (hpl : (backTo pos (starEach es X.env)).any (·.1) = false) :
    PMk X (.Call (.Name x p) (e :: es) [] pos) (fun σ H Q => ta σ H fun vs H1 => vs.length = [f].length ∧ ∀ d, H1 d = none → Q (.ref C) (some d) (upd H1 d (.xd ([f].zip vs).reverse))) := by
  subst e1 e2 e3 e4 e5
  intro pins s σ H Q I h
  refine pmk_oex (dvs := []) (ds := []) T iC tI F r bi .nil passL hg hm (pa_up ha) hd he hpl pins s σ H Q I ?_
  refine ⟨_, h, fun vs H1 hv => ?_⟩
  obtain ⟨hl, q⟩ := hv
  match vs, hl, q with
  | [y], _, q =>
    refine ⟨by show 1 ≤ 1000; decide, fun a na => ⟨a, y, rfl, upd_same, fun dx nd ne => ?_⟩⟩
    have nd' : H1 dx = none := by rw [upd_ne ne] at nd; exact nd
    refine ⟨rfl, dx, [(f, y)], upd_same, by rw [upd_ne ne]; exact upd_same, nd', ?_⟩
    have eh : upd (del (upd (upd (upd H1 a (exo a C none)) dx (exd dx [(f, y)])) a (exo a C (some dx))) a) dx (.xd [(f, y)]) = upd H1 dx (.xd [(f, y)]) := by
      funext b
      by_cases b1 : b = dx
      · rw [b1, upd_same, upd_same]
      · rw [upd_ne b1, upd_ne b1]
        by_cases b2 : b = a
        · rw [b2, del_same, na]
        · rw [del_ne b2, upd_ne b2, upd_ne b1, upd_ne b2]
    rw [eh]
    exact q dx nd'
variable {x2 f2 : Str} {p5 p6 p7 p8 : Pos}
def spX2 (C : Addr) (f f2 : Str) : Sp := fun vs H Q _ => ∃ (a : Addr) (y z : V), vs = [.ref a, y, z] ∧ H a = some (exo a C none) ∧ ∀ dx, H dx = none → dx ≠ a → Q .non (upd (upd (upd H dx (exd dx [(f, y)])) a (exo a C (some dx))) dx (exd dx [(f2, z), (f, y)]))
theorem fn_x2 (F : Fun K "__init__" qn st fI fd) (S : FnScope [x0, x1, x2] [x0, x1, x2] (defScope st)) (T : OexC K C) (hno : PySem.W.findIn K (.ref C) f = some none) (hno2 : PySem.W.findIn K (.ref C) f2 = some none)
    (hb : defBody st = [.Assign [.Attribute (.Name x0 p1) f p2] (.Name x1 p3) p4, .Assign [.Attribute (.Name x0 p5) f2 p6] (.Name x2 p7) p8])
    (h0 : nmOk [x0, x1, x2] (defScope st) 0 x0 = true) (h1 : nmOk [x0, x1, x2] (defScope st) 1 x1 = true) (h2 : nmOk [x0, x1, x2] (defScope st) 2 x2 = true) : FnOk P w K mg base (L2.CX P w) 1 fI fd [x0, x1, x2] (spX2 C f f2) := by
  refine F.okX S (fun vs H Q E h => ?_) fun cdv A outer s H vs Q E hr h => ?_
  · obtain ⟨a, y, z, rfl, _⟩ := h; rfl
  · rw [hb]
    unfold nmOk at h0 h1 h2
    simp only [Bool.and_eq_true, decide_eq_true_eq, Bool.not_eq_true'] at h0 h1 h2
    refine ⟨_, pss_cons (ps_ost (pe_var (i := 0) rfl (vis_of h0.1.1.2) h0.1.2 h0.2) (pe_var (i := 1) rfl (vis_of h1.1.1.2) h1.1.2 h1.2) rfl) (pss_one (ps_ost (pe_var (i := 0) rfl (vis_of h0.1.1.2) h0.1.2 h0.2) (pe_var (i := 2) rfl (vis_of h2.1.1.2) h2.1.2 h2.2) rfl)), ?_⟩
    obtain ⟨a, y, z, rfl, ea, q⟩ := h
    refine ⟨y, rfl, .ref a, rfl, a, C, rfl, T, hno, .inl ⟨ea, fun dx n ne => ?_⟩⟩
    exact ⟨z, rfl, .ref a, rfl, a, C, rfl, T, hno2, .inr ⟨dx, [(f, y)], upd_same, by rw [upd_ne ne]; exact upd_same, by show 1 ≤ 900; decide, q dx n ne⟩⟩
theorem xm_x2 (F : FnOk P w K mg base (L2.CX P w) 1 fI fd [x0, x1, x2] (spX2 C f f2)) (T : OexC K C) (iC : PySem.W.findIn K (.ref C) "__init__" = some (some (.ref fI))) (tI : PySem.W.typeIn K (.ref fI) = some (.type "function")) (bi : Binds K fd [x0, x1, x2] [])
    {X : Cx} (e1 : X.prog = P) (e2 : X.w = w) (e3 : X.K = K) (e4 : X.mg = mg) (e5 : X.base = base) (r : Room 2 X.A) {x : Str} (hm : mg x = some (.ref C)) (hg : Gl X x) (hd : (x == ("__debug__" : Str)) = false) {e : Expr} {es : List Expr} {ta : TA} {p pos : Pos} (ha : PA X (e :: es) ta)
    (he : starEach (e :: es) X.env = (false, eval e X.env) :: starEach es X.env) (hpl : (backTo pos (starEach es X.env)).any (·.1) = false) :
    PMk X (.Call (.Name x p) (e :: es) [] pos) (fun σ H Q => ta σ H fun vs H1 => vs.length = [f, f2].length ∧ ∀ d, H1 d = none → Q (.ref C) (some d) (upd H1 d (.xd ([f, f2].zip vs).reverse))) := by
  subst e1 e2 e3 e4 e5
  intro pins s σ H Q I h
  refine pmk_oex (dvs := []) (ds := []) T iC tI F r bi .nil passL hg hm (pa_up ha) hd he hpl pins s σ H Q I ?_
  refine ⟨_, h, fun vs H1 hv => ?_⟩
  obtain ⟨hl, q⟩ := hv
  match vs, hl, q with
  | [y, z], _, q =>
    refine ⟨by show 2 ≤ 1000; decide, fun a na => ⟨a, y, z, rfl, upd_same, fun dx nd ne => ?_⟩⟩
    have nd' : H1 dx = none := by rw [upd_ne ne] at nd; exact nd
    refine ⟨rfl, dx, [(f2, z), (f, y)], by rw [upd_ne (Ne.symm ne)]; exact upd_same, upd_same, nd', ?_⟩
    have eh : upd (del (upd (upd (upd (upd H1 a (exo a C none)) dx (exd dx [(f, y)])) a (exo a C (some dx))) dx (exd dx [(f2, z), (f, y)])) a) dx (.xd [(f2, z), (f, y)]) = upd H1 dx (.xd [(f2, z), (f, y)]) := by
      funext b
      by_cases b1 : b = dx
      · rw [b1, upd_same, upd_same]
      · rw [upd_ne b1, upd_ne b1]
        by_cases b2 : b = a
        · rw [b2, del_same, na]
        · rw [del_ne b2, upd_ne b1, upd_ne b2, upd_ne b1, upd_ne b2]
    rw [eh]
    exact q dx nd'
end
end B
namespace B
open PySem PySem.Spec L2
open PyProof.Rows hiding St

/-- the script as an argument -/
def scr (ns : List Int) : D := .ro (ns.map .int)
theorem rep_ints {k : Kt} {O : Addr → Prop} {H : Hp} : ∀ ns : List Int, RepL k O H (ns.map V.int) (ns.map D.int)
  | [] => .nil
  | n :: ns => .cons (.int n) (rep_ints ns)
section
variable {P : Program} {w : World} {K : PySem.W.Frag} {mg mb : Str → Option Value} {fa a : Addr} {fd : FuncData} {x : Str} {s1 : Shared} {vs : List Value} {ns : List Int} {k : Kt} {lv np : Nat} {g : List Sl → R (Vl × List Sl)}
/-- over an abstract heap with the script alone -/
theorem law_core {H : Hp} (hK : K = k.K) (kin : K.In s1.heap) (hns : s1.heap.Ns mainGlobals mg) (hmb : s1.heap.Ns builtinsNs mb) (hbb : ∀ y : Str, y ≠ "__name__" → mb y = bootBuiltins y) (hlim : s1.heap.NoLimit) (hgen : s1.gens = #[])
    (room : Room lv callerA) (F : ∀ base : Heap, K.In base → base.Ns mainGlobals mg → FnG P w K mg base lv fa fd [x] (spB k g 1)) (hbind : ∀ (s : Shared) (u : Value), BindsTo s fd ⟨[u], []⟩ [(x, u)])
    (run : ∃ ss, g [.fz (scr ns)] = .ok (.pl (.bl true), ss)) (hok : HOk P w H s1.heap) (only : ∀ b u, H b = some u → b = a ∧ ∃ ob zs, u = .frz ob (.lst zs)) (notK : H a ≠ none → K.lookup a = none)
    (isObj : ∀ b u, H b = some u → ∃ ob, s1.heap.get? b = some ob ∧ ∀ es ep, ob.data ≠ .dict es ep) (hro : RoAt k (fun _ => False) H a (ns.map V.int)) :
    codeAny (model P w) callerA (.call (.ref fa) ⟨[.ref a], []⟩) (fun r s' => r = .ok (.ret (.bool true)) ∧ OldK s1.heap s'.heap ∧ s'.os = s1.os ∧ AllBare s'.gens) s1 := by
  have free : ∀ {b : Addr} {ob : Obj} {es : Array DictEntry} {ep : Nat}, s1.heap.get? b = some ob → ob.data = .dict es ep → H b = none := fun {b ob es ep} e d => by
    cases q : H b with
    | none => rfl
    | some u =>
      obtain ⟨ob', e', nd⟩ := isObj b u q
      rw [e] at e'; cases e'
      exact (nd es ep d).elim
  have nsH : ∀ {b : Addr} {m : Str → Option Value}, s1.heap.Ns b m → (hidT s1.heap H).Ns b m := fun {b m} h => by
    obtain ⟨ob, es, ep, e, d, r⟩ := h
    exact ⟨ob, es, ep, hidT_get e (free e d), d, r⟩
  have kinH : K.In (hidT s1.heap H) := fun b ob e => by
    refine hidT_get (kin b ob e) ?_
    cases q : H b with
    | none => rfl
    | some u =>
      have e' := (only b u q).1
      rw [e'] at e q
      rw [notK (by rw [q]; exact fun z => nomatch z)] at e
      cases e
  have md : Mod K mg (hidT s1.heap H) := by
    obtain ⟨mc, c1, c2⟩ := hlim
    exact ⟨kinH, nsH hns, ⟨mb, nsH hmb, hbb⟩, mc, nsH c1, c2⟩
  have e0 : Env0 P w K mg (hidT s1.heap H) callerA [] s1 H := by
    refine ⟨rfl, md, fun b ob e => of_hidT e, Nat.le_of_eq (hidT_size _ _), trivial, fun b hb => ?_, hok, .of_eq hgen⟩
    exact absurd hb (by simp [frs])
  obtain ⟨ss, hg⟩ := run
  have sp : spB k g 1 [.ref a] H (fun v _ => v = .bl true) (fun _ _ _ => False) := by
    refine ⟨fun _ => False, [.fz (scr ns)], rfl, rfl, fun b h => h.elim, fun e he => ?_, by simp [oa], ?_⟩
    · have : e = (some (.ref a), .fz (scr ns)) := by simpa using he
      subst this
      exact Rep.ro hro (rep_ints ns)
    · rw [hg]
      refine ⟨True.intro, fun y H' O' E => ?_⟩
      have := E.ok (ent y (.pl (.bl true))) (by simp)
      cases this
      rfl
  refine codeAny_mono ((F _ kinH (nsH hns)).run callerA [] s1 H ⟨[.ref a], []⟩ [.ref a] [.ref a] _ _ room rfl e0 (hbind s1 (.ref a)) (.cons rfl .nil) sp) fun r s' h => ?_
  match r, h with
  | .error e, h =>
    obtain ⟨_, _, _, _, _, _, _, _, _, _, _, _, z⟩ := h
    exact z.elim
  | .ok .next, h => exact h.elim
  | .ok .brk, h => exact h.elim
  | .ok .cont, h => exact h.elim
  | .ok (.ret u), ⟨v, H', os, bare, un, hok', rv, ev⟩ =>
    have ev : v = .bl true := ev
    subst ev
    have hu : u = Value.bool true := rv
    subst hu
    refine ⟨rfl, OldK.of_keep fun b ob e => ?_, os, bare⟩
    cases q : H b with
    | none => exact un.keep b ob e q (by simp [frs]) (by simp)
    | some t =>
      obtain ⟨rfl, of, zs, rfl⟩ := only b t q
      have z2 := un.frzs b of _ q
      obtain ⟨e1, _⟩ := hok b _ q
      obtain ⟨e2, _⟩ := hok' b _ z2
      rw [e] at e1
      cases e1
      exact e2
theorem law_run (hK : K = k.K) (kin : K.In s1.heap) (hns : s1.heap.Ns mainGlobals mg) (hmb : s1.heap.Ns builtinsNs mb) (hbb : ∀ y : Str, y ≠ "__name__" → mb y = bootBuiltins y) (hlim : s1.heap.NoLimit) (hgen : s1.gens = #[])
    (ha : s1.heap.get? a = some { cls := .type "list", data := .seq vs.toArray }) (hi : IntsAre vs ns) (hl : ns.length ≤ sizeLine)
    (room : Room lv callerA) (F : ∀ base : Heap, K.In base → base.Ns mainGlobals mg → FnG P w K mg base lv fa fd [x] (spB k g 1)) (hbind : ∀ (s : Shared) (u : Value), BindsTo s fd ⟨[u], []⟩ [(x, u)])
    (run : ∃ ss, g [.fz (scr ns)] = .ok (.pl (.bl true), ss)) :
    codeAny (model P w) callerA (.call (.ref fa) ⟨[.ref a], []⟩) (fun r s' => r = .ok (.ret (.bool true)) ∧ OldK s1.heap s'.heap ∧ s'.os = s1.os ∧ AllBare s'.gens) s1 := by
  have rv : Vals (ns.map V.int) vs := vals_ints hi
  have hlen : vs.length = ns.length := by
    have := rv.length
    rw [List.length_map] at this
    exact this.symm
  cases hk : K.lookup a with
  | some ob =>
    have e := kin a ob hk
    rw [ha] at e
    cases e
    refine law_core (a := a) (H := fun _ => none) hK kin hns hmb hbb hlim hgen room F hbind run (fun b u z => nomatch z) (fun b u z => nomatch z) (fun z => absurd rfl z) (fun b u z => nomatch z) ?_
    refine .inr ⟨_, vs.toArray, _, hK ▸ hk, rfl, rfl, rfl, ?_, by simpa using rv⟩
    rw [List.size_toArray, hlen]
    exact hl
  | none =>
    have at_ : ∀ {b : Addr} {u : HO}, (if b = a then some (HO.frz { cls := .type "list", data := .seq vs.toArray } (.lst (ns.map V.int))) else none) = some u → b = a ∧ u = .frz { cls := .type "list", data := .seq vs.toArray } (.lst (ns.map V.int)) := fun {b u} z => by
      split at z
      · rename_i e
        exact ⟨e, (Option.some.inj z).symm⟩
      · cases z
    refine law_core (a := a) (H := fun b => if b = a then some (.frz { cls := .type "list", data := .seq vs.toArray } (.lst (ns.map V.int))) else none) hK kin hns hmb hbb hlim hgen room F hbind run (fun b u z => ?_) (fun b u z => ?_) (fun _ => hk) (fun b u z => ?_) (.inl ⟨fun q => q, _, if_pos rfl⟩)
    · obtain ⟨rfl, rfl⟩ := at_ z
      exact ⟨ha, by rw [List.length_map]; exact hl, vs, _, rv, ha⟩
    · obtain ⟨rfl, rfl⟩ := at_ z
      exact ⟨rfl, _, _, rfl⟩
    · obtain ⟨rfl, rfl⟩ := at_ z
      exact ⟨_, ha, fun es ep q => nomatch q⟩
end
/-- THE END of a law row -/
theorem walk_law {l : PySem.W.OpenLaw} {n lv : Nat} {q : Program} {loose : List Str} {XP : (Str → Option Value) → Heap → Prop} {YP : World → Heap → Prop} {d : DefRec} {KK : Params → PySem.W.Frag} {x : Str} {g : List Sl → R (Vl × List Sl)}
    (hn : l.most = some n) (hn2 : n ≤ sizeLine) (hdf : d.params.defaults = []) (room : Room lv callerA) (hY : ∀ (w : World) (h : Heap), YP w h → (KK w.params).In h)
    (F : ∀ (w : World) (mg : Str → Option Value) (fa : Addr) (h : Heap), (KK w.params).In h → h.Ns mainGlobals mg → mg d.name = some (.ref fa) →
      ∃ (k : Kt) (fd : FuncData), KK w.params = k.K ∧ (∀ (s : Shared) (u : Value), BindsTo s fd ⟨[u], []⟩ [(x, u)]) ∧ ∀ base : Heap, (KK w.params).In base → base.Ns mainGlobals mg → FnG l.prog w (KK w.params) mg base lv fa fd [x] (spB k g 1))
    (run : ∀ ns : List Int, ns.length ≤ n → ∃ ss, g [.fz (scr ns)] = .ok (.pl (.bl true), ss)) :
    PySem.W.WalkO q loose XP YP l.row.toRowW d [] (fun f vs => PySem.call f vs) := by
  refine Att.attach_call hn hdf fun w s0 s1 mg mb fa ob pm cd doc a vs ns G Y ho hd hcd hmg hobj hints hlen hg => ?_
  obtain ⟨k, fd, hK, hb, hF⟩ := F w mg fa _ (hY w _ Y) G.T.g hmg
  exact law_run hK (hY w _ Y) G.T.g G.T.b G.T.builtins G.T.nolimit hg hobj hints (Nat.le_trans hlen hn2) room hF hb (run ns hlen)
end B
namespace B
open PySem PySem.Spec L2
open PyProof.Rows hiding St

/-! ## a text of plain defs -/
def FnL (mg : Str → Option Value) : List (Str × Nat) → List Addr → List Def → Prop
  | [], [], [] => True
  | p :: ps, a :: as, d :: ds => mg p.1 = some (.ref a) ∧ d.np = p.2 ∧ FnL mg ps as ds
  | _, _, _ => False
theorem FnL.at {mg : Str → Option Value} {a0 : Addr} : ∀ {ps : List (Str × Nat)} {as : List Addr} {ds : List Def}, FnL mg ps as ds → ∀ f nm np, ps[f]? = some (nm, np) → mg nm = some (.ref (as.getD f a0)) ∧ ∃ d, ds[f]? = some d ∧ d.np = np
  | [], [], [], _, f, nm, np, e => by simp at e
  | p :: ps, a :: as, d :: ds, h, 0, nm, np, e => by
    have e : p = (nm, np) := by simpa using e
    subst e
    exact ⟨h.1, d, rfl, h.2.1⟩
  | p :: ps, a :: as, d :: ds, h, f + 1, nm, np, e => FnL.at h.2.2 f nm np (by simpa using e)
  | [], _ :: _, _, h, _, _, _, _ => by simp [FnL] at h
  | [], [], _ :: _, h, _, _, _, _ => by simp [FnL] at h
  | _ :: _, [], _, h, _, _, _, _ => by simp [FnL] at h
  | _ :: _, _ :: _, [], h, _, _, _, _ => by simp [FnL] at h
def NoneL (mg : Str → Option Value) : List Str → Prop
  | [] => True
  | x :: xs => mg x = none ∧ NoneL mg xs
theorem NoneL.at {mg : Str → Option Value} : ∀ {xs : List Str}, NoneL mg xs → ∀ x, xs.contains x = true → mg x = none
  | [], _, x, h => by simp at h
  | y :: xs, h, x, e => by
    simp only [List.contains_cons, Bool.or_eq_true, beq_iff_eq] at e
    rcases e with rfl | e
    · exact h.1
    · exact NoneL.at h.2 x e
theorem AllD.nil' {K : PySem.W.Frag} {T : Tab} : AllD K T [] [] [] [] := True.intro
theorem AllD.cons' {K : PySem.W.Frag} {T : Tab} {d : Def} {ds : List Def} {a : Addr} {as : List Addr} {fd : FuncData} {fds : List FuncData} {ps N : List Str} {pss : List (List Str)} {nm qn : Str} {st : Stmt} (D : DG K T d nm qn a fd ps N st) (r : AllD K T ds as fds pss) : AllD K T (d :: ds) (a :: as) (fd :: fds) (ps :: pss) := ⟨⟨_, _, _, _, D⟩, r⟩
theorem FnL.nil' {mg : Str → Option Value} : FnL mg [] [] [] := True.intro
theorem FnL.cons' {mg : Str → Option Value} {p : Str × Nat} {ps : List (Str × Nat)} {a : Addr} {as : List Addr} {d : Def} {ds : List Def} (h : mg p.1 = some (.ref a)) (e : d.np = p.2) (r : FnL mg ps as ds) : FnL mg (p :: ps) (a :: as) (d :: ds) := ⟨h, e, r⟩
theorem NoneL.nil' {mg : Str → Option Value} : NoneL mg [] := True.intro
theorem NoneL.cons' {mg : Str → Option Value} {x : Str} {xs : List Str} (h : mg x = none) (r : NoneL mg xs) : NoneL mg (x :: xs) := ⟨h, r⟩
/-- no constants, no classes, no errors -/
def gv0 : Gv := ⟨fun _ => none, 0, fun _ _ => false, fun _ _ => false, fun _ _ => none, fun _ => none, fun _ => none, fun _ _ => none⟩
theorem xm_none {P : Program} {w : World} {K : PySem.W.Frag} {mg : Str → Option Value} {base : Heap} {k : Kt} {T : Tab} {lv : Nat} : XmOk P w K mg base k T lv gv0.xf := fun X _ _ _ _ _ _ c x ns _ h => nomatch h
theorem txf_plain {K : PySem.W.Frag} {mg : Str → Option Value} {k : Kt} {T : Tab} {ds : List Def} {as : List Addr} {fds : List FuncData} {pss : List (List Str)} (hK : K = k.K) (hq : T.q = true) (hx : k.xd = fun _ _ _ => False) (hgn : T.gn = []) (hcn : T.cn = []) (hpn : T.pn = pss)
    (D : AllD K T ds as fds pss) (F : FnL mg T.fn as ds) (N : NoneL mg T.bl) {f0 : FuncData} : TxF K mg k T ds gv0 (fun f => as.getD f 0) (fun f => fds.getD f f0) (fun f => pss.getD f []) := by
  refine ⟨hK, hq, fun a cl dd h => by rw [hx] at h; exact h, fun f d e => D.at f d e, fun f nm np e => F.at f nm np e, fun f q e => ?_, fun g nm d e => by rw [hgn] at e; simp at e, fun x e => N.at x e, ⟨fun c h => absurd h (Nat.not_lt_zero _), fun c h => ?_, fun c h => absurd h (Nat.not_lt_zero _), fun c h => absurd h (Nat.not_lt_zero _)⟩,
    fun c f h => absurd h (Nat.not_lt_zero _), fun c m f h => absurd h (Nat.not_lt_zero _), fun c x e => by rw [hcn] at e; simp at e, fun c f _ h => (nomatch h), fun c t b h => ?_, fun c c' b h => (nomatch h), fun c x e => by rw [hcn] at e; simp at e⟩
  · rw [hpn] at e
    rw [List.getD_eq_getElem?_getD, e]; rfl
  · rw [hcn] at h; exact absurd h (Nat.not_lt_zero _)
  · cases t <;> simp [xi1, orc, gv0] at h
end B
namespace B
open PySem PySem.Spec L2
open PyProof.Rows hiding St

/-! ## a written dict -/
def KdE (w : World) : List DictEntry → List (Str × V) → Prop
  | [], [] => True
  | e :: es, p :: ps => (∃ t, e.key = .str p.1 t) ∧ e.hash = PyData.keyHash w.params p.1 ∧ RelV p.2 e.val ∧ KdE w es ps
  | _, _ => False
theorem KdE.lit {w : World} : ∀ {es : List DictEntry} {ps : List (Str × V)}, KdE w es ps → PySem.W.KeysLit w.params es
  | [], [], _ => True.intro
  | _ :: _, _ :: _, ⟨⟨t, e⟩, hh, _, r⟩ => ⟨⟨_, t, e, hh⟩, r.lit⟩
  | [], _ :: _, h => h.elim
  | _ :: _, [], h => h.elim
theorem KdE.keys {w : World} : ∀ {es : List DictEntry} {ps : List (Str × V)}, KdE w es ps → Zk.KeyTs es (ps.map (·.1))
  | [], [], _ => True.intro
  | _ :: _, _ :: _, ⟨e, _, _, r⟩ => ⟨e, r.keys⟩
  | [], _ :: _, h => h.elim
  | _ :: _, [], h => h.elim
theorem KdE.any {w : World} : ∀ {es : List DictEntry} {ps : List (Str × V)}, KdE w es ps → (es.any (·.refKey)) = false
  | [], [], _ => rfl
  | e :: _, _ :: _, ⟨⟨t, q⟩, _, _, r⟩ => by
    rw [List.any_cons, r.any, Bool.or_false]
    obtain ⟨a, b, c⟩ := e
    subst q
    rfl
  | [], _ :: _, h => h.elim
  | _ :: _, [], h => h.elim
theorem KdE.find {w : World} {z : Str} : ∀ {es : List DictEntry} {ps : List (Str × V)}, KdE w es ps → (∀ v, ps.lookup z = some v → ∃ e, es.find? (fun e => e.key.isStr z) = some e ∧ RelV v e.val) ∧ (ps.lookup z = none → es.find? (fun e => e.key.isStr z) = none)
  | [], [], _ => ⟨fun v h => (nomatch h), fun _ => rfl⟩
  | e :: es, p :: ps, ⟨⟨t, q⟩, _, rv, r⟩ => by
    have ih := KdE.find (z := z) r
    have hk : e.key.isStr z = (p.1 == z) := by rw [q]; rfl
    rw [List.lookup_cons, List.find?_cons, hk]
    cases hz : z == p.1 with
    | true =>
      rw [show (p.1 == z) = true from by rw [beq_iff_eq] at hz ⊢; exact hz.symm]
      exact ⟨fun v h => by cases h; exact ⟨e, rfl, rv⟩, fun h => by cases h⟩
    | false =>
      rw [show (p.1 == z) = false from by rw [beq_eq_false_iff_ne] at hz ⊢; exact fun y => hz y.symm]
      exact ih
  | [], _ :: _, h => h.elim
  | _ :: _, [], h => h.elim
theorem kdf_of {K : PySem.W.Frag} {w : World} {a : Addr} {es : Array DictEntry} {n : Nat} {ps : List (Str × V)} (hl : K.lookup a = some ⟨.type "dict", none, .dict es n, #[]⟩) (low : (a == sysModules) = false) (he : KdE w es.toList ps) : KdF K w a ps := by
  refine ⟨es, n, ⟨hl, he.lit, low⟩, he.keys, fun z => ⟨fun v h => ?_, fun h => ?_⟩⟩
  · obtain ⟨e, e1, rv⟩ := he.find.1 v h
    refine ⟨e.val, ?_, rv⟩
    unfold PySem.W.nsIn
    rw [hl]
    simp only [e1]
  · have e1 := he.find.2 h
    unfold PySem.W.nsIn
    rw [hl]
    simp only [e1]
    have := he.any
    split
    · rename_i q; first | (rw [this] at q; cases q) | (simp_all)
    · rfl
theorem KdE.nil' {w : World} : KdE w [] [] := True.intro
theorem KdE.cons' {w : World} {e : DictEntry} {es : List DictEntry} {p : Str × V} {ps : List (Str × V)} {t : Tok} (h : e.key = .str p.1 t) (hh : e.hash = PyData.keyHash w.params p.1) (rv : RelV p.2 e.val) (r : KdE w es ps) : KdE w (e :: es) (p :: ps) := ⟨⟨t, h⟩, hh, rv, r⟩

/-! ## error classes -/
theorem ty_own {K : PySem.W.Frag} : ∀ t ∈ baseT, ∀ C : Addr, PySem.W.subIn K (.type t) (.ref C) = some false := by
  intro t ht C
  simp only [baseT, List.mem_cons, List.not_mem_nil, or_false] at ht
  rcases ht with rfl | rfl | rfl | rfl | rfl | rfl <;> rfl
/-- what an error class is -/
structure XcF (K : PySem.W.Frag) (C : Addr) : Prop where
  di : PySem.W.hasDictIn K C = true
  ty : PySem.W.typeIn K (.ref C) = some (.type "type")
  se : PySem.W.subIn K (.ref C) (.ref C) = some true
  ve : PySem.W.subIn K (.ref C) (.type "ValueError") = some true
  be : PySem.W.subIn K (.ref C) (.type "BaseException") = some true
  ga : PySem.W.findIn K (.ref C) "__getattribute__" = some (some (.builtin "BaseException.__getattribute__"))
  gt : PySem.W.findIn K (.ref C) "__getattr__" = some none
  sa : PySem.W.findIn K (.ref C) "__setattr__" = some (some (.builtin "object.__setattr__"))
  cc : PySem.W.findIn K (.ref C) "__class__" = some (some (.builtin "object.__class__"))
  ob : PySem.W.mroIn K C (.type "object") = some true
  kp : PySem.W.keepIn K (.ref C) = true
theorem XcF.oex {K : PySem.W.Frag} {C : Addr} (h : XcF K C) {nm q : Str} {N : Addr} {bs bm : List Value} {sn : List Str} {sub : List Value} {ab : Bool} {col : Option Bool} {dd : Option Addr} {k0 k1 k2 k3 k5 : Option Value}
    (hl : K.lookup C = some (excClassObj nm q C N bs bm true sn sub ab col dd k0 k1 k2 k3 k5 "ValueError.__new__")) (hr : PySem.HandSPX.refsVE bm = true) : OexC K C := ⟨⟨nm, q, N, bs, bm, sn, sub, ab, col, dd, k0, k1, k2, k3, k5, hl, hr⟩, h.sa, h.be, h.ty, h.kp⟩
theorem XcF.kit {K : PySem.W.Frag} {C D : Addr} {b : Bool} (d : XcF K D) (h : PySem.W.subIn K (.ref C) (.ref D) = some b) : PySem.W.kitOne K (.ref C) (.ref D) = some b := kit_own d.di d.ty d.se h
theorem XcF.exm {K : PySem.W.Frag} {C D : Addr} {b : Bool} (d : XcF K D) (h : PySem.W.subIn K (.ref C) (.ref D) = some b) : PySem.W.exmOne K (.ref C) (.ref D) = some b := by
  obtain ⟨cd, hc, _⟩ := PySem.W.any_some d.di
  unfold PySem.W.exmOne
  rw [d.be]
  show (if ((PySem.W.clsIn K D).isSome && PySem.W.typeIn K (.ref D) == some (.type "type")) = true then PySem.W.subIn K (.ref C) (.ref D) else none) = some b
  rw [hc, d.ty, h]
  rfl
theorem XcF.xi {K : PySem.W.Frag} {C : Addr} (c : XcF K C) (hn : PySem.W.specialIn K (.builtin "object.__class__") "__get__" = some (some (.builtin "getset_descriptor.__get__"))) (tk : PySem.W.takesIn K (.builtin "object.__class__") = some true) : XiC K C := xi_of c.di c.ga c.gt c.be c.cc hn tk c.ob
theorem XcF.xf {K : PySem.W.Frag} {C : Addr} (c : XcF K C) : XfC K C := xf_of c.di c.ga c.gt c.be

/-! ## a text of defs, constants and error classes -/
/-- constants, errors' fields, the fields asked, the errors' order -/
def gvx (gls : List (Option D)) (xfs : List (Option (List Str))) (fls : List (Nat × Str)) (xss : List ((Nat × Nat) × Bool)) : Gv :=
  ⟨fun g => (gls[g]?).join, 0, fun _ _ => false, fun c f => fls.contains (c, f), fun _ _ => none, fun _ => none, fun c => (xfs[c]?).join, fun c c' => xss.lookup (c, c')⟩
def GlL (k : Kt) (mg : Str → Option Value) : List Str → List (Option D) → Prop
  | [], [] => True
  | x :: xs, d :: ds => (∀ z, d = some z → ∃ u v, mg x = some u ∧ RelV v u ∧ ∀ O H, Rep k O H v z) ∧ GlL k mg xs ds
  | _, _ => False
theorem GlL.at {k : Kt} {mg : Str → Option Value} : ∀ {xs : List Str} {ds : List (Option D)}, GlL k mg xs ds → ∀ (g : Nat) (nm : Str) (d : D), xs[g]? = some nm → (ds[g]?).join = some d → ∃ u v, mg nm = some u ∧ RelV v u ∧ ∀ O H, Rep k O H v d
  | [], [], _, g, nm, d, e, _ => by simp at e
  | x :: xs, d0 :: ds, h, 0, nm, d, e, e2 => by
    simp at e e2
    subst e
    exact h.1 d e2
  | x :: xs, d0 :: ds, h, g + 1, nm, d, e, e2 => GlL.at h.2 g nm d (by simpa using e) (by simpa using e2)
  | [], _ :: _, h, _, _, _, _, _ => h.elim
  | _ :: _, [], h, _, _, _, _, _ => h.elim
def ClL (K : PySem.W.Frag) (mg : Str → Option Value) : List Str → List Addr → Prop
  | [], [] => True
  | x :: xs, a :: as => (mg x = some (.ref a) ∧ XcF K a) ∧ ClL K mg xs as
  | _, _ => False
theorem ClL.at {K : PySem.W.Frag} {mg : Str → Option Value} : ∀ {xs : List Str} {as : List Addr}, ClL K mg xs as → ∀ c x, xs[c]? = some x → mg x = some (.ref (as.getD c 0)) ∧ XcF K (as.getD c 0)
  | [], [], _, c, x, e => by simp at e
  | x :: xs, a :: as, h, 0, y, e => by simp at e; subst e; exact h.1
  | x :: xs, a :: as, h, c + 1, y, e => ClL.at h.2 c y (by simpa using e)
  | [], _ :: _, h, _, _, _ => h.elim
  | _ :: _, [], h, _, _, _ => h.elim
def FdL (K : PySem.W.Frag) (ct : Nat → Addr) (n : Nat) : List (Nat × Str) → Prop
  | [] => True
  | p :: r => (p.1 < n ∧ PySem.W.findIn K (.ref (ct p.1)) p.2 = some none) ∧ FdL K ct n r
theorem FdL.at {K : PySem.W.Frag} {ct : Nat → Addr} {n : Nat} : ∀ {l : List (Nat × Str)}, FdL K ct n l → ∀ c f, l.contains (c, f) = true → c < n ∧ PySem.W.findIn K (.ref (ct c)) f = some none
  | [], _, c, f, e => by simp at e
  | p :: r, h, c, f, e => by
    simp only [List.contains_cons, Bool.or_eq_true, beq_iff_eq] at e
    rcases e with rfl | e
    · exact h.1
    · exact FdL.at h.2 c f e
def XsL (K : PySem.W.Frag) (ct : Nat → Addr) (n : Nat) : List ((Nat × Nat) × Bool) → Prop
  | [] => True
  | p :: r => (p.1.1 < n ∧ p.1.2 < n ∧ PySem.W.subIn K (.ref (ct p.1.1)) (.ref (ct p.1.2)) = some p.2) ∧ XsL K ct n r
theorem XsL.at {K : PySem.W.Frag} {ct : Nat → Addr} {n : Nat} : ∀ {l : List ((Nat × Nat) × Bool)}, XsL K ct n l → ∀ c c' b, l.lookup (c, c') = some b → c < n ∧ c' < n ∧ PySem.W.subIn K (.ref (ct c)) (.ref (ct c')) = some b
  | [], _, c, c', b, e => by simp at e
  | ((a1, a2), b0) :: r, h, c, c', b, e => by
    rw [List.lookup_cons] at e
    split at e
    · rename_i q
      rw [beq_iff_eq] at q
      cases e
      cases q
      exact h.1
    · exact XsL.at h.2 c c' b e
theorem txf_x {K : PySem.W.Frag} {mg : Str → Option Value} {k : Kt} {T : Tab} {ds : List Def} {as cs : List Addr} {fds : List FuncData} {pss : List (List Str)} {gls : List (Option D)} {xfs : List (Option (List Str))} {fls : List (Nat × Str)} {xss : List ((Nat × Nat) × Bool)} (hK : K = k.K) (hq : T.q = true) (hx : k.xd = fun _ _ _ => False) (hct : k.ct = fun c => cs.getD c 0) (hpn : T.pn = pss) (hmk : T.mks = [])
    (D : AllD K T ds as fds pss) (F : FnL mg T.fn as ds) (N : NoneL mg T.bl) (Gl : GlL k mg T.gn gls) (Cl : ClL K mg T.cn cs) (Fd : FdL K k.ct T.cn.length fls) (Xs : XsL K k.ct T.cn.length xss)
    (hn : PySem.W.specialIn K (.builtin "object.__class__") "__get__" = some (some (.builtin "getset_descriptor.__get__"))) (tk : PySem.W.takesIn K (.builtin "object.__class__") = some true) {f0 : FuncData} :
    TxF K mg k T ds (gvx gls xfs fls xss) (fun f => as.getD f 0) (fun f => fds.getD f f0) (fun f => pss.getD f []) := by
  have cl : ∀ c, c < T.cn.length → XcF K (k.ct c) := fun c h => by
    rw [hct]
    exact (Cl.at c T.cn[c] (by simp [h])).2
  refine ⟨hK, hq, fun a cl dd h => by rw [hx] at h; exact h, fun f d e => D.at f d e, fun f nm np e => F.at f nm np e, fun f q e => ?_, fun g nm d e e2 => Gl.at g nm d e e2, fun x e => N.at x e, ⟨fun c h => absurd h (Nat.not_lt_zero _), fun c h t ht => ?_, fun c h => absurd h (Nat.not_lt_zero _), fun c h => absurd h (Nat.not_lt_zero _)⟩,
    fun c f h => absurd h (Nat.not_lt_zero _), fun c m f h => absurd h (Nat.not_lt_zero _), fun c x e => by rw [hct]; exact (Cl.at c x e).1, fun c f _ h => ?_, fun c t b h => ?_, fun c c' b h => ?_, fun c x e h => by rw [hmk] at h; simp at h⟩
  · rw [hpn] at e
    rw [List.getD_eq_getElem?_getD, e]; rfl
  · have z := cl c h
    subst hK
    exact kit_own z.di z.ty z.se (ty_own t ht _)
  · obtain ⟨h1, h2⟩ := Fd.at c f h
    exact ⟨(cl c h1).xf, h2⟩
  · cases t with
    | own c' =>
      obtain ⟨h1, h2, h3⟩ := Xs.at c c' b (show xss.lookup (c, c') = some b from h)
      exact ⟨(cl c h1).xi hn tk, (cl c' h2).kit h3⟩
    | verr =>
      have h : (xss.lookup (c, c)).map (fun _ => true) = some b := h
      obtain ⟨b', e, rfl⟩ := Option.map_eq_some_iff.mp h
      obtain ⟨h1, _, _⟩ := Xs.at c c b' e
      exact ⟨(cl c h1).xi hn tk, kit_blt rfl (cl c h1).ve⟩
    | _ => simp [xi1] at h
  · obtain ⟨h1, h2, h3⟩ := Xs.at c c' b h
    exact (cl c' h2).exm h3

/-- raising C with its fields -/
def XmO (P : Program) (w : World) (K : PySem.W.Frag) (mg : Str → Option Value) (base : Heap) (C : Addr) (ns : List Str) : Prop := ∀ (X : Cx), X.prog = P → X.w = w → X.K = K → X.mg = mg → X.base = base → Room 2 X.A → ∀ {x : Str}, mg x = some (.ref C) → Gl X x → (x == ("__debug__" : Str)) = false →
  ∀ {e : Expr} {es : List Expr} {ta : TA} {p pos : Pos}, PA X (e :: es) ta → starEach (e :: es) X.env = (false, eval e X.env) :: starEach es X.env → (backTo pos (starEach es X.env)).any (·.1) = false →
  PMk X (.Call (.Name x p) (e :: es) [] pos) (fun σ H Q => ta σ H fun vs H1 => vs.length = ns.length ∧ ∀ d, H1 d = none → Q (.ref C) (some d) (upd H1 d (.xd (ns.zip vs).reverse)))
def XmL (P : Program) (w : World) (K : PySem.W.Frag) (mg : Str → Option Value) (base : Heap) : List (Option (List Str)) → List Addr → Prop
  | [], [] => True
  | o :: os, a :: as => (∀ ns, o = some ns → XmO P w K mg base a ns) ∧ XmL P w K mg base os as
  | _, _ => False
theorem XmL.at {P : Program} {w : World} {K : PySem.W.Frag} {mg : Str → Option Value} {base : Heap} : ∀ {os : List (Option (List Str))} {as : List Addr}, XmL P w K mg base os as → ∀ (c : Nat) (ns : List Str), (os[c]?).join = some ns → XmO P w K mg base (as.getD c 0) ns
  | [], [], _, c, ns, e => by simp at e
  | o :: os, a :: as, h, 0, ns, e => h.1 ns (by simpa using e)
  | o :: os, a :: as, h, c + 1, ns, e => XmL.at h.2 c ns (by simpa using e)
  | [], _ :: _, h, _, _, _ => h.elim
  | _ :: _, [], h, _, _, _ => h.elim
theorem xm_of {P : Program} {w : World} {K : PySem.W.Frag} {mg : Str → Option Value} {base : Heap} {k : Kt} {T : Tab} {cs : List Addr} {gls : List (Option D)} {xfs : List (Option (List Str))} {fls : List (Nat × Str)} {xss : List ((Nat × Nat) × Bool)} (hct : k.ct = fun c => cs.getD c 0) (Cl : ClL K mg T.cn cs) (h : XmL P w K mg base xfs cs) : XmOk P w K mg base k T 2 (gvx gls xfs fls xss).xf := fun X e1 e2 e3 e4 e5 r c x ns hc hx hg hd e es ta p pos ha he hpl => by
  have key := h.at c ns hx X e1 e2 e3 e4 e5 r (Cl.at c x hc).1 hg hd (p := p) ha he hpl
  rw [hct]
  exact key
theorem ClL.nil' {K : PySem.W.Frag} {mg : Str → Option Value} : ClL K mg [] [] := True.intro
theorem ClL.cons' {K : PySem.W.Frag} {mg : Str → Option Value} {x : Str} {xs : List Str} {a : Addr} {as : List Addr} (h : mg x = some (.ref a)) (c : XcF K a) (r : ClL K mg xs as) : ClL K mg (x :: xs) (a :: as) := ⟨⟨h, c⟩, r⟩
theorem GlL.nil' {k : Kt} {mg : Str → Option Value} : GlL k mg [] [] := True.intro
theorem GlL.cons' {k : Kt} {mg : Str → Option Value} {x : Str} {xs : List Str} {d : D} {ds : List (Option D)} {u : Value} {v : V} (h : mg x = some u) (r : RelV v u) (p : ∀ O H, Rep k O H v d) (t : GlL k mg xs ds) : GlL k mg (x :: xs) (some d :: ds) := ⟨fun z e => by cases e; exact ⟨u, v, h, r, p⟩, t⟩
theorem GlL.skip' {k : Kt} {mg : Str → Option Value} {x : Str} {xs : List Str} {ds : List (Option D)} (t : GlL k mg xs ds) : GlL k mg (x :: xs) (none :: ds) := ⟨fun z e => (nomatch e), t⟩
theorem FdL.nil' {K : PySem.W.Frag} {ct : Nat → Addr} {n : Nat} : FdL K ct n [] := True.intro
theorem FdL.cons' {K : PySem.W.Frag} {ct : Nat → Addr} {n : Nat} {p : Nat × Str} {r : List (Nat × Str)} (h : p.1 < n) (e : PySem.W.findIn K (.ref (ct p.1)) p.2 = some none) (t : FdL K ct n r) : FdL K ct n (p :: r) := ⟨⟨h, e⟩, t⟩
theorem XsL.nil' {K : PySem.W.Frag} {ct : Nat → Addr} {n : Nat} : XsL K ct n [] := True.intro
theorem XsL.cons' {K : PySem.W.Frag} {ct : Nat → Addr} {n : Nat} {p : (Nat × Nat) × Bool} {r : List ((Nat × Nat) × Bool)} (h1 : p.1.1 < n) (h2 : p.1.2 < n) (e : PySem.W.subIn K (.ref (ct p.1.1)) (.ref (ct p.1.2)) = some p.2) (t : XsL K ct n r) : XsL K ct n (p :: r) := ⟨⟨h1, h2, e⟩, t⟩
theorem XmL.nil' {P : Program} {w : World} {K : PySem.W.Frag} {mg : Str → Option Value} {base : Heap} : XmL P w K mg base [] [] := True.intro
theorem XmL.skip' {P : Program} {w : World} {K : PySem.W.Frag} {mg : Str → Option Value} {base : Heap} {os : List (Option (List Str))} {a : Addr} {as : List Addr} (t : XmL P w K mg base os as) : XmL P w K mg base (none :: os) (a :: as) := ⟨fun ns e => (nomatch e), t⟩
theorem XmL.cons' {P : Program} {w : World} {K : PySem.W.Frag} {mg : Str → Option Value} {base : Heap} {ns : List Str} {os : List (Option (List Str))} {a : Addr} {as : List Addr} (h : XmO P w K mg base a ns) (t : XmL P w K mg base os as) : XmL P w K mg base (some ns :: os) (a :: as) := ⟨fun ns' e => by cases e; exact h, t⟩
/-- a written tuple -/
theorem rep_tup {k : Kt} {O : Addr → Prop} {H : Hp} {a : Addr} {its : Array Value} {n : Nat} {sl : Array (Option Value)} {xs : List V} {ds : List D} (h : k.K.lookup a = some ⟨.type "tuple", none, .seq its n, sl⟩) (hs : its.size ≤ sizeLine) (v : Vals xs its.toList) (r : RepL k O H xs ds) : Rep k O H (.ref a) (.tup ds) := .tup (.inr ⟨_, its, n, h, rfl, rfl, rfl, hs, v⟩) r
end B
namespace B
open PySem PySem.Spec L2
open PyProof.Rows hiding St

/-! ## a text with classes of its own -/
/-- what a plain class is -/
structure PcF (K : PySem.W.Frag) (C : Addr) : Prop where
  pg : PySem.W.plainGet K C Str.empty = true
  di : PySem.W.hasDictIn K C = true
  po : PySem.W.plainOver K C = true
  sa : PySem.W.findIn K (.ref C) "__setattr__" = some (some (.builtin "object.__setattr__"))
  cc : PySem.W.findIn K (.ref C) "__class__" = some (some (.builtin "object.__class__"))
  ob : PySem.W.mroIn K C (.type "object") = some true
  ty : PySem.W.typeIn K (.ref C) = some (.type "type")
  se : PySem.W.subIn K (.ref C) (.ref C) = some true
  n0 : PySem.W.subIn K (.ref C) (.type "ValueError") = some false
  n1 : PySem.W.subIn K (.ref C) (.type "NoneType") = some false
  n2 : PySem.W.subIn K (.ref C) (.type "bool") = some false
  n3 : PySem.W.subIn K (.ref C) (.type "int") = some false
  n4 : PySem.W.subIn K (.ref C) (.type "str") = some false
  n5 : PySem.W.subIn K (.ref C) (.type "tuple") = some false
  n6 : PySem.W.subIn K (.ref C) (.type "list") = some false
theorem PcF.ni {K : PySem.W.Frag} {C : Addr} (h : PcF K C) : ∀ t ∈ "ValueError" :: baseT, PySem.W.subIn K (.ref C) (.type t) = some false := by
  intro t ht
  simp only [baseT, List.mem_cons, List.not_mem_nil, or_false] at ht
  rcases ht with rfl | rfl | rfl | rfl | rfl | rfl | rfl
  · exact h.n0
  · exact h.n1
  · exact h.n2
  · exact h.n3
  · exact h.n4
  · exact h.n5
  · exact h.n6
theorem kmB : ∀ t ∈ "ValueError" :: baseT, PySem.W.kitMeta t = true := by decide +kernel
def PlL (K : PySem.W.Frag) (mg : Str → Option Value) : List Str → List Addr → Prop
  | [], [] => True
  | x :: xs, a :: as => (mg x = some (.ref a) ∧ PcF K a) ∧ PlL K mg xs as
  | _, _ => False
theorem PlL.len {K : PySem.W.Frag} {mg : Str → Option Value} : ∀ {xs : List Str} {as : List Addr}, PlL K mg xs as → xs.length = as.length
  | [], [], _ => rfl
  | x :: xs, a :: as, h => by simp [PlL.len h.2]
  | [], _ :: _, h => h.elim
  | _ :: _, [], h => h.elim
theorem PlL.at {K : PySem.W.Frag} {mg : Str → Option Value} : ∀ {xs : List Str} {as : List Addr}, PlL K mg xs as → ∀ (c : Nat) x, xs[c]? = some x → ∃ a, as[c]? = some a ∧ mg x = some (.ref a) ∧ PcF K a
  | [], [], _, c, x, e => by simp at e
  | x :: xs, a :: as, h, 0, y, e => by simp at e; subst e; exact ⟨a, rfl, h.1⟩
  | x :: xs, a :: as, h, c + 1, y, e => by simpa using PlL.at h.2 c y (by simpa using e)
  | [], _ :: _, h, _, _, _ => h.elim
  | _ :: _, [], h, _, _, _ => h.elim
theorem PlL.nil' {K : PySem.W.Frag} {mg : Str → Option Value} : PlL K mg [] [] := True.intro
theorem PlL.cons' {K : PySem.W.Frag} {mg : Str → Option Value} {x : Str} {xs : List Str} {a : Addr} {as : List Addr} (h : mg x = some (.ref a)) (c : PcF K a) (r : PlL K mg xs as) : PlL K mg (x :: xs) (a :: as) := ⟨⟨h, c⟩, r⟩
/-- one class below another -/
def SbL (K : PySem.W.Frag) (ct : Nat → Addr) : List ((Nat × Nat) × Bool) → Prop
  | [] => True
  | p :: r => PySem.W.subIn K (.ref (ct p.1.1)) (.ref (ct p.1.2)) = some p.2 ∧ SbL K ct r
theorem SbL.at {K : PySem.W.Frag} {ct : Nat → Addr} : ∀ {l : List ((Nat × Nat) × Bool)}, SbL K ct l → ∀ c c' b, l.lookup (c, c') = some b → PySem.W.subIn K (.ref (ct c)) (.ref (ct c')) = some b
  | [], _, c, c', b, e => by simp at e
  | ((a1, a2), b0) :: r, h, c, c', b, e => by
    rw [List.lookup_cons] at e
    split at e
    · rename_i q
      rw [beq_iff_eq] at q
      cases e
      cases q
      exact h.1
    · exact SbL.at h.2 c c' b e
theorem SbL.nil' {K : PySem.W.Frag} {ct : Nat → Addr} : SbL K ct [] := True.intro
theorem SbL.cons' {K : PySem.W.Frag} {ct : Nat → Addr} {p : (Nat × Nat) × Bool} {r : List ((Nat × Nat) × Bool)} (e : PySem.W.subIn K (.ref (ct p.1.1)) (.ref (ct p.1.2)) = some p.2) (t : SbL K ct r) : SbL K ct (p :: r) := ⟨e, t⟩
/-- methods -/
def MtL (K : PySem.W.Frag) (ct A : Nat → Addr) (n : Nat) : List ((Nat × Str) × Nat) → Prop
  | [] => True
  | p :: r => (Meth K (ct p.1.1) p.1.2 (A p.2) ∧ p.2 < n) ∧ MtL K ct A n r
theorem MtL.at {K : PySem.W.Frag} {ct A : Nat → Addr} {n : Nat} : ∀ {l : List ((Nat × Str) × Nat)}, MtL K ct A n l → ∀ c m f, l.lookup (c, m) = some f → Meth K (ct c) m (A f) ∧ f < n
  | [], _, c, m, f, e => by simp at e
  | ((a1, a2), b0) :: r, h, c, m, f, e => by
    rw [List.lookup_cons] at e
    split at e
    · rename_i q
      rw [beq_iff_eq] at q
      cases e
      cases q
      exact h.1
    · exact MtL.at h.2 c m f e
theorem MtL.nil' {K : PySem.W.Frag} {ct A : Nat → Addr} {n : Nat} : MtL K ct A n [] := True.intro
theorem MtL.cons' {K : PySem.W.Frag} {ct A : Nat → Addr} {n : Nat} {p : (Nat × Str) × Nat} {r : List ((Nat × Str) × Nat)} (h : PySem.W.findIn K (.ref (ct p.1.1)) p.1.2 = some (some (.ref (A p.2)))) (fn : PySem.W.isFn K (.ref (A p.2)) = true) (kp : PySem.W.keepIn K (.ref (A p.2)) = true) (hn : p.2 < n) (t : MtL K ct A n r) : MtL K ct A n (p :: r) := ⟨⟨⟨h, fn, kp⟩, hn⟩, t⟩
/-- what makes one -/
def InL (K : PySem.W.Frag) (ct A : Nat → Addr) (n : Nat) : List (Nat × Nat) → Prop
  | [] => True
  | p :: r => (Mk K (ct p.1) (A p.2) ∧ p.2 < n) ∧ InL K ct A n r
theorem InL.at {K : PySem.W.Frag} {ct A : Nat → Addr} {n : Nat} : ∀ {l : List (Nat × Nat)}, InL K ct A n l → ∀ c, (l.map (·.1)).contains c = true → ∃ f, l.lookup c = some f ∧ Mk K (ct c) (A f) ∧ f < n
  | [], _, c, e => by simp at e
  | (a, b) :: r, h, c, e => by
    rw [List.lookup_cons]
    cases q : c == a with
    | true =>
      rw [beq_iff_eq] at q
      subst q
      exact ⟨b, rfl, h.1⟩
    | false =>
      refine InL.at h.2 c ?_
      simp only [List.map_cons, List.contains_cons, q, Bool.false_or] at e
      exact e
theorem InL.nil' {K : PySem.W.Frag} {ct A : Nat → Addr} {n : Nat} : InL K ct A n [] := True.intro
theorem InL.cons' {K : PySem.W.Frag} {ct A : Nat → Addr} {n : Nat} {p : Nat × Nat} {r : List (Nat × Nat)} (mk : PySem.W.makesIn K (ct p.1) = true) (i : PySem.W.findIn K (.ref (ct p.1)) "__init__" = some (some (.ref (A p.2)))) (fn : PySem.W.isFn K (.ref (A p.2)) = true) (kp : PySem.W.keepIn K (.ref (ct p.1)) = true) (hn : p.2 < n) (t : InL K ct A n r) : InL K ct A n (p :: r) := ⟨⟨⟨mk, i, fn, kp⟩, hn⟩, t⟩
/-- the defs of the text's head; methods stand behind them -/
def FnP (mg : Str → Option Value) : List (Str × Nat) → List Addr → List Def → Prop
  | [], _, _ => True
  | p :: ps, a :: as, d :: ds => mg p.1 = some (.ref a) ∧ d.np = p.2 ∧ FnP mg ps as ds
  | _, _, _ => False
theorem FnP.at {mg : Str → Option Value} {a0 : Addr} : ∀ {ps : List (Str × Nat)} {as : List Addr} {ds : List Def}, FnP mg ps as ds → ∀ f nm np, ps[f]? = some (nm, np) → mg nm = some (.ref (as.getD f a0)) ∧ ∃ d, ds[f]? = some d ∧ d.np = np
  | [], _, _, _, f, nm, np, e => by simp at e
  | p :: ps, a :: as, d :: ds, h, 0, nm, np, e => by
    have e : p = (nm, np) := by simpa using e
    subst e
    exact ⟨h.1, d, rfl, h.2.1⟩
  | p :: ps, a :: as, d :: ds, h, f + 1, nm, np, e => FnP.at h.2.2 f nm np (by simpa using e)
  | _ :: _, [], _, h, _, _, _, _ => by simp [FnP] at h
  | _ :: _, _ :: _, [], h, _, _, _, _ => by simp [FnP] at h
theorem FnP.nil' {mg : Str → Option Value} {as : List Addr} {ds : List Def} : FnP mg [] as ds := True.intro
theorem FnP.cons' {mg : Str → Option Value} {p : Str × Nat} {ps : List (Str × Nat)} {a : Addr} {as : List Addr} {d : Def} {ds : List Def} (h : mg p.1 = some (.ref a)) (e : d.np = p.2) (r : FnP mg ps as ds) : FnP mg (p :: ps) (a :: as) (d :: ds) := ⟨h, e, r⟩
/-- constants, plain classes, errors' fields, the fields asked, the errors' order, methods, makers -/
def gvp (gls : List (Option D)) (np : Nat) (sbs : List ((Nat × Nat) × Bool)) (xfs : List (Option (List Str))) (fls : List (Nat × Str)) (xss : List ((Nat × Nat) × Bool)) (mts : List ((Nat × Str) × Nat)) (ins : List (Nat × Nat)) : Gv :=
  ⟨fun g => (gls[g]?).join, np, fun c c' => (sbs.lookup (c, c')).getD false, fun c f => fls.contains (c, f), fun c m => mts.lookup (c, m), fun c => ins.lookup c, fun c => (xfs[c]?).join, fun c c' => xss.lookup (c, c')⟩
section
variable {K : PySem.W.Frag} {mg : Str → Option Value} {k : Kt} {T : Tab} {ds : List Def} {as ps xs : List Addr} {pn xn : List Str} {fds : List FuncData} {pss : List (List Str)} {gls : List (Option D)} {xfs : List (Option (List Str))} {fls : List (Nat × Str)} {xss sbs : List ((Nat × Nat) × Bool)} {mts : List ((Nat × Str) × Nat)} {ins : List (Nat × Nat)}
theorem cn_at (hcn : T.cn = pn ++ xn) (hct : k.ct = fun c => (ps ++ xs).getD c 0) (Pl : PlL K mg pn ps) (Cl : ClL K mg xn xs) :
    (∀ c x, T.cn[c]? = some x → mg x = some (.ref (k.ct c))) ∧ (∀ c, c < pn.length → PcF K (k.ct c)) ∧ (∀ c, pn.length ≤ c → c < T.cn.length → XcF K (k.ct c)) := by
  have hl := Pl.len
  have low : ∀ c x, pn[c]? = some x → mg x = some (.ref (k.ct c)) ∧ PcF K (k.ct c) := fun c x e => by
    obtain ⟨a, ea, h1, h2⟩ := Pl.at c x e
    have : k.ct c = a := by
      rw [hct]
      show (ps ++ xs).getD c 0 = a
      rw [List.getD_eq_getElem?_getD, List.getElem?_append_left (by have := (List.getElem?_eq_some_iff.mp ea).1; exact this), ea]
      rfl
    rw [this]
    exact ⟨h1, h2⟩
  have high : ∀ c x, pn.length ≤ c → xn[c - pn.length]? = some x → mg x = some (.ref (k.ct c)) ∧ XcF K (k.ct c) := fun c x hc e => by
    have h := Cl.at (c - pn.length) x e
    have : k.ct c = xs.getD (c - pn.length) 0 := by
      rw [hct]
      show (ps ++ xs).getD c 0 = _
      rw [List.getD_eq_getElem?_getD, List.getElem?_append_right (by omega), List.getD_eq_getElem?_getD, hl]
    rw [this]
    exact h
  refine ⟨fun c x e => ?_, fun c h => ?_, fun c h1 h2 => ?_⟩
  · rw [hcn] at e
    by_cases hc : c < pn.length
    · rw [List.getElem?_append_left hc] at e
      exact (low c x e).1
    · rw [List.getElem?_append_right (by omega)] at e
      exact (high c x (by omega) e).1
  · exact (low c pn[c] (by simp [h])).2
  · rw [hcn, List.length_append] at h2
    exact (high c xn[c - pn.length] h1 (List.getElem?_eq_getElem (by omega))).2
theorem txf_p (hK : K = k.K) (hq : T.q = true) (hx : k.xd = fun _ _ _ => False) (hcn : T.cn = pn ++ xn) (hct : k.ct = fun c => (ps ++ xs).getD c 0) (hpn : T.pn = pss) (hmk : T.mks = ins.map (·.1)) (hln : as.length = ds.length)
    (D : AllD K T ds as fds pss) (F : FnP mg T.fn as ds) (N : NoneL mg T.bl) (Gl : GlL k mg T.gn gls) (Pl : PlL K mg pn ps) (Cl : ClL K mg xn xs) (Fd : FdL K k.ct T.cn.length fls) (Xs : XsL K k.ct T.cn.length xss) (hxs : xss.all (fun p => decide (pn.length ≤ p.1.1) && decide (pn.length ≤ p.1.2)) = true)
    (Sb : SbL K k.ct sbs) (hsb : ((List.range pn.length).all fun c => (List.range T.cn.length).all fun c' => (sbs.lookup (c, c')).isSome) = true) (Mt : MtL K k.ct (fun f => as.getD f 0) ds.length mts) (In : InL K k.ct (fun f => as.getD f 0) ds.length ins)
    (hn : PySem.W.specialIn K (.builtin "object.__class__") "__get__" = some (some (.builtin "getset_descriptor.__get__"))) (tk : PySem.W.takesIn K (.builtin "object.__class__") = some true) {f0 : FuncData} :
    TxF K mg k T ds (gvp gls pn.length sbs xfs fls xss mts ins) (fun f => as.getD f 0) (fun f => fds.getD f f0) (fun f => pss.getD f []) := by
  obtain ⟨c1, c2, c3⟩ := cn_at hcn hct Pl Cl
  have le : pn.length ≤ T.cn.length := by rw [hcn, List.length_append]; omega
  have xsp : ∀ c c' b, xss.lookup (c, c') = some b → pn.length ≤ c ∧ pn.length ≤ c' := fun c c' b h => by
    have hm : ((c, c'), b) ∈ xss := by
      clear Xs hxs
      induction xss with
      | nil => simp at h
      | cons p r ih =>
        obtain ⟨q, v⟩ := p
        rw [List.lookup_cons] at h
        split at h
        · rename_i e
          rw [beq_iff_eq] at e
          cases h; subst e
          exact List.mem_cons_self
        · exact List.mem_cons_of_mem _ (ih h)
    have := List.all_eq_true.mp hxs _ hm
    simpa [Bool.and_eq_true, decide_eq_true_eq] using this
  have dat : ∀ f, f < ds.length → ∃ d, ds[f]? = some d := fun f h => ⟨ds[f], by simp [h]⟩
  have anyC : ∀ c, c < T.cn.length → PySem.W.hasDictIn K (k.ct c) = true ∧ PySem.W.typeIn K (.ref (k.ct c)) = some (.type "type") ∧ PySem.W.subIn K (.ref (k.ct c)) (.ref (k.ct c)) = some true := fun c h => by
    by_cases hc : c < pn.length
    · have z := c2 c hc; exact ⟨z.di, z.ty, z.se⟩
    · have z := c3 c (by omega) h; exact ⟨z.di, z.ty, z.se⟩
  refine ⟨hK, hq, fun a cl dd h => by rw [hx] at h; exact h, fun f d e => D.at f d e, fun f nm np e => F.at f nm np e, fun f q e => ?_, fun g nm d e e2 => Gl.at g nm d e e2, fun x e => N.at x e, ?_,
    fun c f h e => ?_, fun c m f h e => ?_, c1, fun c f h e => ?_, fun c t b h => ?_, fun c c' b h => ?_, fun c x e h => ?_⟩
  · rw [hpn] at e
    rw [List.getD_eq_getElem?_getD, e]; rfl
  · subst hK
    refine ⟨fun c h => ?_, fun c h t ht => ?_, fun c h t ht => ?_, fun c h c' h' => ?_⟩
    · have z := c2 c h
      exact ⟨⟨z.pg, z.di, z.po, z.sa⟩, z.cc, hn, tk, z.ob⟩
    · obtain ⟨a1, a2, a3⟩ := anyC c h
      exact kit_own a1 a2 a3 (ty_own t ht _)
    · exact kit_blt (kmB t ht) ((c2 c h).ni t ht)
    · have hs := List.all_eq_true.mp (List.all_eq_true.mp hsb c (List.mem_range.mpr h)) c' (List.mem_range.mpr h')
      obtain ⟨b, eb⟩ := Option.isSome_iff_exists.mp hs
      obtain ⟨a1, a2, a3⟩ := anyC c' h'
      show PySem.W.kitOne k.K _ _ = some ((sbs.lookup (c, c')).getD false)
      rw [eb]
      exact kit_own a1 a2 a3 (Sb.at c c' b eb)
  · have := (Fd.at c f e).2
    rw [hK] at this
    exact this
  · obtain ⟨a, b⟩ := Mt.at c m f e
    exact ⟨a, dat f b⟩
  · obtain ⟨h1, h2⟩ := Fd.at c f e
    exact ⟨(c3 c h h1).xf, h2⟩
  · cases t with
    | own c' =>
      have h : xss.lookup (c, c') = some b := h
      obtain ⟨h1, h2, h3⟩ := Xs.at c c' b h
      obtain ⟨p1, p2⟩ := xsp c c' b h
      exact ⟨(c3 c p1 h1).xi hn tk, (c3 c' p2 h2).kit h3⟩
    | verr =>
      have h : (xss.lookup (c, c)).map (fun _ => true) = some b := h
      obtain ⟨b', e, rfl⟩ := Option.map_eq_some_iff.mp h
      obtain ⟨h1, _, _⟩ := Xs.at c c b' e
      obtain ⟨p1, p2⟩ := xsp c c b' e
      exact ⟨(c3 c p1 h1).xi hn tk, kit_blt rfl (c3 c p1 h1).ve⟩
    | _ => simp [xi1] at h
  · obtain ⟨h1, h2, h3⟩ := Xs.at c c' b h
    obtain ⟨p1, p2⟩ := xsp c c' b h
    exact (c3 c' p2 h2).exm h3
  · rw [hmk] at h
    obtain ⟨f, e1, e2, e3⟩ := In.at c h
    exact ⟨f, e1, e2, dat f e3⟩
/-- raising, beside plain classes -/
def xfp (np : Nat) (xfs : List (Option (List Str))) : List (Option (List Str)) := List.replicate np none ++ xfs
theorem xm_p {P : Program} {w : World} {base : Heap} (hct : k.ct = fun c => (ps ++ xs).getD c 0) (hcn : T.cn = pn ++ xn) (hl : pn.length = ps.length) (Cl : ClL K mg xn xs) (h : XmL P w K mg base xfs xs) : XmOk P w K mg base k T 2 (gvp gls pn.length sbs (xfp pn.length xfs) fls xss mts ins).xf := fun X e1 e2 e3 e4 e5 r c x ns hc hx hg hd e es ta p pos ha he hpl => by
  have hx : ((xfp pn.length xfs)[c]?).join = some ns := hx
  have hc2 : pn.length ≤ c := by
    by_cases q : c < pn.length
    · rw [xfp, List.getElem?_append_left (by simpa using q), List.getElem?_replicate, if_pos q] at hx
      cases hx
    · omega
  rw [xfp, List.getElem?_append_right (by simpa using hc2), List.length_replicate] at hx
  rw [hcn, List.getElem?_append_right hc2] at hc
  have ea : k.ct c = xs.getD (c - pn.length) 0 := by
    rw [hct]
    show (ps ++ xs).getD c 0 = _
    rw [List.getD_eq_getElem?_getD, List.getElem?_append_right (by omega), List.getD_eq_getElem?_getD, hl]
  have key := h.at (c - pn.length) ns hx X e1 e2 e3 e4 e5 r (Cl.at _ x hc).1 hg hd (p := p) ha he hpl
  rw [ea]
  exact key
end
end B
/-! Lemmas for runs of codes. -/
namespace B
open PySem L2
theorem R.bind_ok {α β : Type} (a : α) (f : α → R β) : (R.ok a).bind f = f a := rfl
theorem R.ofO_some {α : Type} (a : α) : R.ofO (some a) = .ok a := rfl
theorem R.calm_ok {α : Type} (a : α) : (R.ok a).calm = .ok a := rfl
section
variable {o : Orc} {bd : List Nat} {a b : S} {δ δ' : En}
theorem seq_nx (h : evS o bd a δ = .ok (.nx, δ')) : evS o bd (.seq a b) δ = evS o bd b δ' := by
  simp only [evS]; rw [h]
theorem seq_rt {v : Vl} (h : evS o bd a δ = .ok (.rt v, δ')) : evS o bd (.seq a b) δ = .ok (.rt v, δ') := by
  simp only [evS]; rw [h]
theorem seq_ct (h : evS o bd a δ = .ok (.ct, δ')) : evS o bd (.seq a b) δ = .ok (.ct, δ') := by
  simp only [evS]; rw [h]
end
/-- a loop by an invariant -/
theorem loop_inv {bind : D → En → Option En} {f : En → R (Fl × En)} (P : Nat → En → Prop) {items : List D} (step : ∀ (i : Nat) d δ, items[i]? = some d → P i δ → ∃ δ1 δ2, bind d δ = some δ1 ∧ (f δ1 = .ok (.nx, δ2) ∨ f δ1 = .ok (.ct, δ2)) ∧ P (i + 1) δ2) :
    ∀ {j : Nat} {δ : En}, P j δ → ∃ δ', loop bind f (items.drop j) δ = .ok (.nx, δ') ∧ P (max j items.length) δ' := by
  intro j
  induction h : items.length - j generalizing j with
  | zero =>
    intro δ p
    rw [List.drop_eq_nil_of_le (by omega)]
    exact ⟨δ, rfl, by rw [Nat.max_eq_left (by omega)]; exact p⟩
  | succ k ih =>
    intro δ p
    have hj : j < items.length := by omega
    rw [List.drop_eq_getElem_cons hj]
    obtain ⟨δ1, δ2, e1, e2, p2⟩ := step j _ δ (List.getElem?_eq_getElem hj) p
    obtain ⟨δ', e3, p3⟩ := ih (j := j + 1) (by omega) p2
    refine ⟨δ', ?_, by rw [show max j items.length = max (j + 1) items.length by omega]; exact p3⟩
    simp only [loop, e1, R.ofO_some, R.bind_ok]
    rcases e2 with e2 | e2 <;> rw [e2] <;> exact e3
theorem loop_inv0 {bind : D → En → Option En} {f : En → R (Fl × En)} (P : Nat → En → Prop) {items : List D} {δ : En} (p0 : P 0 δ) (step : ∀ (i : Nat) d δ, items[i]? = some d → P i δ → ∃ δ1 δ2, bind d δ = some δ1 ∧ (f δ1 = .ok (.nx, δ2) ∨ f δ1 = .ok (.ct, δ2)) ∧ P (i + 1) δ2) :
    ∃ δ', loop bind f items δ = .ok (.nx, δ') ∧ P items.length δ' := by
  have := loop_inv P step (j := 0) p0
  simpa using this
/-- a comprehension without tests, by an invariant -/
theorem lc_inv {own : List Nat} {bind : D → En → Option En} {ft : En → R (Bool × En)} {fe : En → R (Vl × En)} (P : List D → En → Prop) {items : List D} :
    ∀ {acc : List D} {δ : En}, acc.length + items.length ≤ sizeLine → P acc δ → (∀ (i : Nat) d acc δ, items[i]? = some d → P acc δ → ∃ δ1 δ2 δ3 v e, bind d δ = some δ1 ∧ ft δ1 = .ok (true, δ2) ∧ fe δ2 = .ok (v, δ3) ∧ cv v = some e ∧ P (acc ++ [e]) (wipeS δ3 own)) →
    ∃ zs δ', lcLoop own bind ft fe items acc δ = .ok (acc ++ zs, δ') ∧ zs.length = items.length ∧ P (acc ++ zs) δ' := by
  induction items with
  | nil => intro acc δ _ p _; exact ⟨[], δ, by simp [lcLoop], rfl, by simpa using p⟩
  | cons d r ih =>
    intro acc δ hl p step
    obtain ⟨δ1, δ2, δ3, v, e, e1, e2, e3, e4, p2⟩ := step 0 d acc δ rfl p
    simp only [List.length_cons] at hl
    obtain ⟨zs, δ', q1, q2, q3⟩ := ih (acc := acc ++ [e]) (δ := wipeS δ3 own) (by simp; omega) p2 fun i d acc δ hi p => step (i + 1) d acc δ (by simpa using hi) p
    refine ⟨e :: zs, δ', ?_, by simp [q2], by simpa using q3⟩
    simp only [lcLoop, e1, e2, e3, e4, R.ofO_some, R.bind_ok, if_true]
    rw [if_pos (by omega), q1]
    simp
/-- a comprehension that leaves the slots as they are -/
theorem lc_map {own : List Nat} {bind : D → En → Option En} {ft : En → R (Bool × En)} {fe : En → R (Vl × En)} (g : D → D) {δ : En} : ∀ {items acc : List D}, acc.length + items.length ≤ sizeLine → (∀ d ∈ items, ∃ δ1 δ2 δ3 v, bind d δ = some δ1 ∧ ft δ1 = .ok (true, δ2) ∧ fe δ2 = .ok (v, δ3) ∧ cv v = some (g d) ∧ wipeS δ3 own = δ) →
    lcLoop own bind ft fe items acc δ = .ok (acc ++ items.map g, δ) := by
  intro items
  induction items with
  | nil => intro acc _ _; simp [lcLoop]
  | cons d r ih =>
    intro acc hl step
    obtain ⟨δ1, δ2, δ3, v, e1, e2, e3, e4, e5⟩ := step d List.mem_cons_self
    simp only [List.length_cons] at hl
    simp only [lcLoop, e1, e2, e3, e4, R.ofO_some, R.bind_ok, if_true]
    rw [if_pos (by omega), e5, ih (by simp; omega) fun d hd => step d (List.mem_cons_of_mem _ hd)]
    simp
/-- the range's numbers -/
theorem rng_at {n : Nat} {i : Nat} {d : D} (h : ((List.range n).map fun (i : Nat) => D.int (0 + (i : Int)))[i]? = some d) : d = .int i ∧ i < n := by
  rw [List.getElem?_map] at h
  cases e : (List.range n)[i]? with
  | none => rw [e] at h; cases h
  | some j =>
    rw [e] at h; cases h
    obtain ⟨hi, e'⟩ := List.getElem?_eq_some_iff.mp e
    simp at e' hi
    subst e'
    exact ⟨by simp, hi⟩
theorem ints_at {ns : List Int} {i : Nat} {d : D} (h : (ns.map D.int)[i]? = some d) : ∃ v, ns[i]? = some v ∧ d = .int v := by
  rw [List.getElem?_map] at h
  cases e : ns[i]? with
  | none => rw [e] at h; cases h
  | some j => rw [e] at h; cases h; exact ⟨j, rfl, rfl⟩
/-- a value's own draws: the hand holds draws and a place -/
abbrev hd (ds : List Int) (p : Nat) : Sl := .ow [.lst (ds.map .int), .int p]
end B
namespace B
open PySem L2
section
variable {o : Orc} {bd own : List Nat} {tg : Tg} {k : It} {is e : C} {δ δ1 : En} {vs : List Vl} {dd items : List D}
/-- a comprehension without tests whose slots are its own -/
theorem lc_pure (g : D → D) (h1 : evA o bd is δ = .ok (vs, δ1)) (h2 : cvs vs = some dd) (h3 : itD k dd = some items) (hp : (own.all (fun i => plainS (gS δ1 i)) && own.all (fun i => !bd.contains i)) = true) (hl : items.length ≤ sizeLine)
    (step : ∀ d ∈ items, ∃ δa δb v, bindT bd tg d (wipeS δ1 own) = some δa ∧ evE o bd e δa = .ok (v, δb) ∧ cv v = some (g d) ∧ wipeS δb own = wipeS δ1 own) (hb : backS δ1 own (wipeS δ1 own) = δ1) :
    evE o bd (.lc own tg k is .yes e) δ = .ok (.fr (items.map g), δ1) := by
  have q := lc_map (own := own) (bind := bindT bd tg) (ft := evT o bd .yes) (fe := evE o bd e) g (δ := wipeS δ1 own) (items := items) (acc := []) (by simpa using hl) fun d hd => by
    obtain ⟨δa, δb, v, q1, q2, q3, q4⟩ := step d hd
    exact ⟨δa, δa, δb, v, q1, rfl, q2, q3, q4⟩
  simp only [evE, h1, R.bind_ok, h2, R.ofO_some, h3]
  rw [if_pos hp, q]
  simp only [R.calm_ok, R.bind_ok, List.nil_append, hb]
/-- a comprehension without tests, by an invariant -/
theorem lc_run (P : List D → En → Prop) (h1 : evA o bd is δ = .ok (vs, δ1)) (h2 : cvs vs = some dd) (h3 : itD k dd = some items) (hp : (own.all (fun i => plainS (gS δ1 i)) && own.all (fun i => !bd.contains i)) = true) (hl : items.length ≤ sizeLine)
    (p0 : P [] (wipeS δ1 own)) (step : ∀ (i : Nat) d acc δ, items[i]? = some d → P acc δ → ∃ δa δb v x, bindT bd tg d δ = some δa ∧ evE o bd e δa = .ok (v, δb) ∧ cv v = some x ∧ P (acc ++ [x]) (wipeS δb own)) :
    ∃ zs δ', evE o bd (.lc own tg k is .yes e) δ = .ok (.fr zs, backS δ1 own δ') ∧ zs.length = items.length ∧ P zs δ' := by
  obtain ⟨zs, δ', q1, q2, q3⟩ := lc_inv (own := own) (bind := bindT bd tg) (ft := evT o bd .yes) (fe := evE o bd e) P (items := items) (acc := []) (by simpa using hl) p0 fun i d acc δ hi p => by
    obtain ⟨δa, δb, v, x, q1, q2, q3, q4⟩ := step i d acc δ hi p
    exact ⟨δa, δa, δb, v, x, q1, rfl, q2, q3, q4⟩
  refine ⟨zs, δ', ?_, q2, by simpa using q3⟩
  simp only [evE, h1, R.bind_ok, h2, R.ofO_some, h3]
  rw [if_pos hp, q1]
  simp only [R.calm_ok, R.bind_ok, List.nil_append]
/-- a for, by an invariant over its turns -/
theorem for_run {b : S} (P : Nat → En → Prop) (h1 : evA o bd is δ = .ok (vs, δ1)) (h2 : cvs vs = some dd) (h3 : itD k dd = some items) (p0 : P 0 δ1)
    (step : ∀ (i : Nat) d δ, items[i]? = some d → P i δ → ∃ δa δb, bindT bd tg d δ = some δa ∧ (evS o bd b δa = .ok (.nx, δb) ∨ evS o bd b δa = .ok (.ct, δb)) ∧ P (i + 1) δb) :
    ∃ δ', evS o bd (.for_ tg k is b) δ = .ok (.nx, δ') ∧ P items.length δ' := by
  obtain ⟨δ', q1, q2⟩ := loop_inv0 (bind := bindT bd tg) (f := evS o bd b) P p0 step
  refine ⟨δ', ?_, q2⟩
  simp only [evS, h1, R.bind_ok, h2, R.ofO_some, h3]
  exact q1
theorem asg_of {i : Nat} {v : Vl} {δ2 : En} (h : evE o bd e δ = .ok (v, δ1)) (h2 : putS bd i v δ1 = some δ2) : evS o bd (.asg i e) δ = .ok (.nx, δ2) := by
  simp only [evS, h, R.bind_ok, h2, R.ofO_some]
theorem ret_of {v : Vl} {s : Sl} (h : evE o bd e δ = .ok (v, δ1)) (h2 : slV v = some s) : evS o bd (.ret e) δ = .ok (.rt v, δ1) := by
  simp only [evS, h, R.bind_ok, h2, R.ofO_some]
end
end B
namespace B
open PySem L2
theorem runD_rt {o : Orc} {d : Def} {as : List Sl} {v : Vl} {δ' : En} (hc : as.length = d.np ∧ ((List.range d.np).all fun j => d.bor.contains j == ownB (gS as j)) = true) (h : evS o d.bor d.body (as ++ List.replicate (d.n - d.np) .un) = .ok (.rt v, δ')) (hn : d.np ≤ δ'.length) (ha : noAl v) : runD o d as = .ok (v, outS d δ') := by
  unfold runD
  rw [if_pos hc, h]
  simp only [finD]
  rw [if_pos hn]
  cases v <;> first | rfl | exact ha.elim
theorem mul_l {i j : Int} (h : -(2 ^ 64) < i ∧ i < 2 ^ 64) : mulD (.int i) (.int j) = some (.pl (.int (i * j))) := if_pos (.inl h)
theorem mul_r {i j : Int} (h : -(2 ^ 64) < j ∧ j < 2 ^ 64) : mulD (.int i) (.int j) = some (.pl (.int (i * j))) := if_pos (.inr h)
theorem mod_p {i j : Int} (h : 0 < j) : modD (.int i) (.int j) = some (.pl (.int (i % j))) := if_pos h
theorem div_p {i j : Int} (h : 0 < j ∧ j < 1073741824) : divD (.int i) (.int j) = some (.pl (.int (i / j))) := if_pos h
end B
/-! repr and == of plain data. -/
namespace B
open PySem L2
open PySem.PyData
/-- plain data whose repr takes at most n characters, at most k deep -/
structure Rp (d : D) (k n : Nat) : Prop where
  pu : d.pure = true
  lay : d.py.canLay0 = true
  dep : d.py.depth ≤ k
  sh : d.py.showable = true
  len : d.py.shown.length ≤ n
  ok : PyData.strOk d.py.shown = true
structure RpL (xs : List D) (k n : Nat) : Prop where
  pu : D.pures xs = true
  lay : PyData.canLayAll0 (D.pys xs) = true
  dep : PyData.depthAll (D.pys xs) ≤ k
  sh : PyData.showableAll (D.pys xs) = true
  len : ∀ t ∈ PyData.shownAll (D.pys xs), t.length ≤ n ∧ PyData.strOk t = true
  num : (PyData.shownAll (D.pys xs)).length = xs.length
theorem rpL_of {xs : List D} {k n : Nat} (h : ∀ x ∈ xs, Rp x k n) : RpL xs k n := by
  induction xs with
  | nil => exact ⟨rfl, rfl, Nat.zero_le _, rfl, fun t h => (nomatch h), rfl⟩
  | cons x xs ih =>
    have r := h x List.mem_cons_self
    have i := ih fun y hy => h y (List.mem_cons_of_mem _ hy)
    refine ⟨?_, ?_, ?_, ?_, fun t ht => ?_, ?_⟩
    · simp only [D.pures, r.pu, i.pu]; rfl
    · simp only [D.pys, PyData.canLayAll0, r.lay, i.lay]; rfl
    · simp only [D.pys, PyData.depthAll]; have := r.dep; have := i.dep; omega
    · simp only [D.pys, PyData.showableAll, r.sh, i.sh]; rfl
    · simp only [D.pys, PyData.shownAll, List.mem_cons] at ht
      rcases ht with rfl | ht
      · exact ⟨r.len, r.ok⟩
      · exact i.len t ht
    · simp only [D.pys, PyData.shownAll, List.length_cons, i.num]
theorem text_len : ∀ (ts : List Str) (k n : Nat) (acc : Str), (∀ t ∈ ts, t.length ≤ n) → (PySem.textFrom k acc ts).length ≤ acc.length + ts.length * (n + 2)
  | [], k, n, acc, _ => by simp [PySem.textFrom]
  | t :: r, k, n, acc, h => by
    have i := text_len r (k + 1) n (acc ++ (if k > 0 then ", " else "" : String) ++ t) fun x hx => h x (List.mem_cons_of_mem _ hx)
    have e : (acc ++ (if k > 0 then ", " else "" : String) ++ t).length ≤ acc.length + 2 + t.length := by
      rw [strLen_append, strLen_append]
      by_cases hk : k > 0
      · rw [if_pos hk]; exact Nat.le_refl _
      · rw [if_neg hk]; show acc.length + 0 + t.length ≤ _; omega
    have ht := h t List.mem_cons_self
    simp only [PySem.textFrom, List.length_cons]
    have : (r.length + 1) * (n + 2) = r.length * (n + 2) + (n + 2) := Nat.succ_mul _ _
    omega
theorem ok_app {x y : Str} (hx : PyData.strOk x = true) (hy : PyData.strOk y = true) : PyData.strOk (x ++ y) = true := by
  have e : (x ++ y).cps = x.cps ++ y.cps := rfl
  unfold PyData.strOk at *
  rw [e, Array.all_append, hx, hy]; rfl
theorem text_ok : ∀ (ts : List Str) (k : Nat) (acc : Str), PyData.strOk acc = true → (∀ t ∈ ts, PyData.strOk t = true) → PyData.strOk (PySem.textFrom k acc ts) = true
  | [], k, acc, h, _ => h
  | t :: r, k, acc, h, ht => by
    simp only [PySem.textFrom]
    refine text_ok r (k + 1) _ (ok_app (ok_app h ?_) (ht t List.mem_cons_self)) fun x hx => ht x (List.mem_cons_of_mem _ hx)
    by_cases hk : k > 0
    · rw [if_pos hk]; decide +kernel
    · rw [if_neg hk]; decide +kernel
theorem join_ok : ∀ ts : List Str, (∀ t ∈ ts, PyData.strOk t = true) → PyData.strOk (Str.join ", " ts) = true
  | [], _ => by decide +kernel
  | [x], h => h x List.mem_cons_self
  | x :: y :: r, h => by
    show PyData.strOk (x ++ ", " ++ Str.join ", " (y :: r)) = true
    exact ok_app (ok_app (h x List.mem_cons_self) (by decide +kernel)) (join_ok (y :: r) fun t ht => h t (List.mem_cons_of_mem _ ht))
theorem join_len : ∀ (ts : List Str) (n : Nat), (∀ t ∈ ts, t.length ≤ n) → (Str.join ", " ts).length ≤ ts.length * (n + 2)
  | [], n, _ => by simp; decide +kernel +kernel
  | [x], n, h => by
    have := h x List.mem_cons_self
    show x.length ≤ _
    simp; omega
  | x :: y :: r, n, h => by
    have i := join_len (y :: r) n fun t ht => h t (List.mem_cons_of_mem _ ht)
    have hx := h x List.mem_cons_self
    show (x ++ ", " ++ Str.join ", " (y :: r)).length ≤ _
    rw [strLen_append, strLen_append]
    have e2 : ((", " : String) : Str).length = 2 := rfl
    rw [e2]
    have : (x :: y :: r).length * (n + 2) = (y :: r).length * (n + 2) + (n + 2) := by simp only [List.length_cons]; exact Nat.succ_mul _ _
    omega
theorem Rp.tup {xs : List D} {k n m : Nat} (h : ∀ x ∈ xs, Rp x k n) (hm : xs.length ≤ m) : Rp (.tup xs) (k + 1) (m * (n + 2) + 3) := by
  have r := rpL_of h
  refine ⟨r.pu, r.lay, Nat.succ_le_succ r.dep, r.sh, ?_, ?_⟩
  · have j := join_len _ n fun t ht => (r.len t ht).1
    rw [r.num] at j
    show (("(" : Str) ++ Str.join ", " (PyData.shownAll (D.pys xs)) ++ (if (PyData.shownAll (D.pys xs)).length == 1 then ",)" else ")" : String)).length ≤ _
    rw [strLen_append, strLen_append]
    have e1 : (("(" : String) : Str).length = 1 := rfl
    have e2 : ((if (PyData.shownAll (D.pys xs)).length == 1 then ",)" else ")" : String) : Str).length ≤ 2 := by split <;> decide +kernel
    have e3 : xs.length * (n + 2) ≤ m * (n + 2) := Nat.mul_le_mul_right _ hm
    rw [e1]
    omega
  · show PyData.strOk (("(" : Str) ++ Str.join ", " (PyData.shownAll (D.pys xs)) ++ (if (PyData.shownAll (D.pys xs)).length == 1 then ",)" else ")" : String)) = true
    exact ok_app (ok_app (by decide +kernel) (join_ok _ fun t ht => (r.len t ht).2)) (by split <;> decide +kernel)
theorem Rp.lst {xs : List D} {k n m : Nat} (h : ∀ x ∈ xs, Rp x k n) (hm : xs.length ≤ m) : Rp (.lst xs) (k + 1) (m * (n + 2) + 3) := by
  have r := rpL_of h
  refine ⟨r.pu, r.lay, Nat.succ_le_succ r.dep, r.sh, ?_, ?_⟩
  · have j := text_len (PyData.shownAll (D.pys xs)) 0 n "[" fun t ht => (r.len t ht).1
    rw [r.num] at j
    show (PySem.textFrom 0 "[" (PyData.shownAll (D.pys xs)) ++ "]").length ≤ _
    rw [strLen_append]
    have e1 : (("[" : String) : Str).length = 1 := rfl
    have e2 : (("]" : String) : Str).length = 1 := rfl
    have e3 : xs.length * (n + 2) ≤ m * (n + 2) := Nat.mul_le_mul_right _ hm
    rw [e1] at j
    rw [e2]
    omega
  · show PyData.strOk (PySem.textFrom 0 "[" (PyData.shownAll (D.pys xs)) ++ "]") = true
    exact ok_app (text_ok _ _ _ (by decide +kernel) fun t ht => (r.len t ht).2) (by decide +kernel)
theorem Rp.mono {d : D} {k k' n n' : Nat} (h : Rp d k n) (h1 : k ≤ k') (h2 : n ≤ n') : Rp d k' n' := ⟨h.pu, h.lay, Nat.le_trans h.dep h1, h.sh, Nat.le_trans h.len h2, h.ok⟩
theorem Rp.bit {v : Int} (h : v = 0 ∨ v = 1) : Rp (.int v) 0 1 := by
  rcases h with rfl | rfl
  · exact ⟨rfl, rfl, Nat.le_refl _, by decide +kernel, by decide +kernel, by decide +kernel⟩
  · exact ⟨rfl, rfl, Nat.le_refl _, by decide +kernel, by decide +kernel, by decide +kernel⟩
/-- what repr gives -/
theorem repr_of {d : D} {k n : Nat} (h : Rp d k n) (hk : k ≤ 64) (hn : n ≤ 10000) : biD .repr [d] = some (.pl (.str d.py.shown)) := by
  have : (d.pure && SeqAt.shaped d.py && d.py.showable && decide (d.py.shown.length ≤ sizeLine)) = true := by
    have s : SeqAt.shaped d.py = true := by
      unfold SeqAt.shaped
      rw [h.lay, Bool.true_and, decide_eq_true_eq]
      exact Nat.le_trans h.dep hk
    have z : (10000 : Nat) ≤ sizeLine := by decide
    simp only [h.pu, s, h.sh, Bool.true_and, decide_eq_true_eq]
    exact Nat.le_trans h.len (Nat.le_trans hn z)
  show (if _ then _ else _) = _
  rw [if_pos this]
/-- two texts compared -/
theorem eq_str {x y : Str} (hx : PyData.strOk x = true) (hy : PyData.strOk y = true) : eqD (.str x) (.str y) = some (x == y) := by
  have cx : ∀ {x : Str}, PyData.strOk x = true → (D.str x).cmpb = true := fun {x} h => by
    show (true && (PyData.canLay0 (.str x) && decide _)) = true
    simp only [PyData.canLay0, h]; rfl
  show (if ((D.str x).cmpb && (D.str y).cmpb) = true then _ else _) = _
  rw [cx hx, cx hy]; rfl
theorem eq_int {i j : Int} : eqD (.int i) (.int j) = some (i == j) := rfl
theorem eq_bl {i j : Bool} : eqD (.bl i) (.bl j) = some (i == j) := rfl
end B
/-! One rule a construct, for runs. -/
namespace B
open PySem L2
theorem nd1 {i : Nat} : [i].Nodup := by simp
theorem bmul_l {i j : Int} (h : -(2 ^ 64) < i ∧ i < 2 ^ 64) : binD .Mult (.int i) (.int j) = some (.pl (.int (i * j))) := if_pos (.inl h)
theorem bmul_r {i j : Int} (h : -(2 ^ 64) < j ∧ j < 2 ^ 64) : binD .Mult (.int i) (.int j) = some (.pl (.int (i * j))) := if_pos (.inr h)
theorem bmod_p {i j : Int} (h : 0 < j) : binD .Mod (.int i) (.int j) = some (.pl (.int (i % j))) := if_pos h
theorem bdiv_p {i j : Int} (h : 0 < j ∧ j < 1073741824) : binD .FloorDiv (.int i) (.int j) = some (.pl (.int (i / j))) := if_pos h
theorem bshl_p {i j : Int} (h : 0 ≤ j ∧ j ≤ 1000000 ∧ i.natAbs < 2 ^ 64) : binD .LShift (.int i) (.int j) = some (.pl (.int (i * 2 ^ j.toNat))) := if_pos h
theorem bmul_n {xs : List D} {k : Int} (h : -(2 ^ 63) ≤ k ∧ k < 2 ^ 63 ∧ xs.length * k.toNat ≤ sizeLine) : binD .Mult (.lst xs) (.int k) = some (.fr (List.replicate k.toNat xs).flatten) := if_pos h
theorem badd_l {xs ys : List D} (h : xs.length + ys.length ≤ sizeLine) : binD .Add (.lst xs) (.lst ys) = some (.fr (xs ++ ys)) := if_pos h
theorem badd_t {xs ys : List D} (h : xs.length + ys.length ≤ sizeLine) : binD .Add (.tup xs) (.tup ys) = some (.pl (.tup (xs ++ ys))) := if_pos h
section
variable {o : Orc} {bd own : List Nat} {a b c as e : C} {s t : S} {δ δ1 δ2 δ3 : En} {v w u z : Vl} {x y : D} {vs : List Vl} {ds : List D} {f i : Nat}
theorem cal_of {ss : List Sl} (h : evA o bd as δ = .ok (vs, δ1)) (nd : (als vs).Nodup) (hc : o.cl f (vs.map (slA δ1)) = .ok (w, ss)) (hg : giveBack δ1 vs ss = δ2) : evE o bd (.cal f as) δ = .ok (w, δ2) := by
  simp only [evE, h, R.bind_ok]; rw [if_pos nd, hc, ← hg]; rfl
theorem kal_of {ss : List Sl} {ws : List Vl} (h : evA o bd a δ = .ok (vs, δ1)) (h2 : evA o bd b δ1 = .ok (ws, δ2)) (nd : (als (vs ++ ws)).Nodup) (hc : o.cl f ((vs ++ ws).map (slA δ2)) = .ok (w, ss)) (hg : giveBack δ2 (vs ++ ws) ss = δ3) : evE o bd (.xt (.kal f) a b) δ = .ok (w, δ3) := by
  simp only [evE, h, h2, R.bind_ok]; rw [if_pos nd, hc, ← hg]; rfl
theorem nil_of : evA o bd .nil δ = .ok ([], δ) := rfl
theorem cons_of (h : evE o bd a δ = .ok (v, δ1)) (h2 : evA o bd as δ1 = .ok (vs, δ2)) : evA o bd (.cons a as) δ = .ok (v :: vs, δ2) := by
  simp only [evA, h, h2, R.bind_ok]
theorem sole_of (h : evE o bd a δ = .ok (v, δ1)) : evA o bd (.sole a) δ = .ok ([v], δ1) := by
  simp only [evA, h, R.bind_ok]
theorem bi_of {k : Bi} (h : evA o bd as δ = .ok (vs, δ1)) (h2 : dvs δ1 vs = some ds) (h3 : biD k ds = some z) : evE o bd (.bi k as) δ = .ok (z, δ1) := by
  simp only [evE, h, h2, h3, R.bind_ok, R.ofO_some]
theorem bi1_of {k : Bi} (h : evE o bd a δ = .ok (v, δ1)) (h2 : dv δ1 v = some x) (h3 : biD k [x] = some z) : evE o bd (.bi k (.cons a .nil)) δ = .ok (z, δ1) :=
  bi_of (cons_of h rfl) (by simp [dvs, h2]) h3
theorem and_t (h : evE o bd a δ = .ok (v, δ1)) (h2 : dv δ1 v = some x) (h3 : truD x = some true) : evE o bd (.bop .And a b) δ = evE o bd b δ1 := by
  simp only [evE, h, h2, h3, R.bind_ok, R.ofO_some, if_true]
theorem and_f (h : evE o bd a δ = .ok (v, δ1)) (h2 : dv δ1 v = some x) (h3 : truD x = some false) : evE o bd (.bop .And a b) δ = .ok (v, δ1) := by
  simp only [evE, h, h2, h3, R.bind_ok, R.ofO_some]; rfl
theorem or_f (h : evE o bd a δ = .ok (v, δ1)) (h2 : dv δ1 v = some x) (h3 : truD x = some false) : evE o bd (.bop .Or a b) δ = evE o bd b δ1 := by
  simp only [evE, h, h2, h3, R.bind_ok, R.ofO_some]; rfl
theorem or_t (h : evE o bd a δ = .ok (v, δ1)) (h2 : dv δ1 v = some x) (h3 : truD x = some true) : evE o bd (.bop .Or a b) δ = .ok (v, δ1) := by
  simp only [evE, h, h2, h3, R.bind_ok, R.ofO_some, if_true]
theorem bin_of {op : Operator} (h : evE o bd a δ = .ok (v, δ1)) (h2 : evE o bd b δ1 = .ok (w, δ2)) (hv : dv δ2 v = some x) (hw : dv δ2 w = some y) (hz : binD op x y = some z) : evE o bd (.bin op a b) δ = .ok (z, δ2) := by
  simp only [evE, h, h2, hv, hw, hz, R.bind_ok, R.ofO_some]
theorem cmp_of {op : CmpOp} {k : Bool} (h : evE o bd a δ = .ok (v, δ1)) (h2 : evE o bd b δ1 = .ok (w, δ2)) (hv : dv δ2 v = some x) (hw : dv δ2 w = some y) (hz : cmpD op x y = some k) : evE o bd (.cmp op a b) δ = .ok (.pl (.bl k), δ2) := by
  simp only [evE, h, h2, hv, hw, b2v, hz, Option.map, R.bind_ok, R.ofO_some]
theorem cmpT_of {op : CmpOp} {k : Bool} (h : evE o bd a δ = .ok (v, δ1)) (h2 : evE o bd b δ1 = .ok (w, δ2)) (hv : dv δ2 v = some x) (hw : dv δ2 w = some y) (hz : cmpD op x y = some k) : evT o bd (.cmp op a b) δ = .ok (k, δ2) := by
  simp only [evT, h, h2, hv, hw, b2v, hz, Option.map, R.bind_ok, R.ofO_some]; rfl
theorem notE_of {k : Bool} (h : evE o bd a δ = .ok (v, δ1)) (hv : dv δ1 v = some x) (hz : truD x = some k) : evE o bd (.not a) δ = .ok (.pl (.bl (!k)), δ1) := by
  simp only [evE, h, hv, notD, hz, Option.map, R.bind_ok, R.ofO_some]
theorem notT_of {k : Bool} (h : evT o bd a δ = .ok (k, δ1)) : evT o bd (.not a) δ = .ok (!k, δ1) := by
  simp only [evT, h, R.bind_ok]
theorem tst_of {k : Bool} (h : evE o bd a δ = .ok (v, δ1)) (hv : dv δ1 v = some x) (hz : truD x = some k) : evT o bd (.tst a) δ = .ok (k, δ1) := by
  simp only [evT, h, hv, hz, R.bind_ok, R.ofO_some]
theorem andT_t (h : evT o bd a δ = .ok (true, δ1)) : evT o bd (.bop .And a b) δ = evT o bd b δ1 := by
  simp only [evT, h, R.bind_ok, if_true]
theorem andT_f (h : evT o bd a δ = .ok (false, δ1)) : evT o bd (.bop .And a b) δ = .ok (false, δ1) := by
  simp only [evT, h, R.bind_ok]; rfl
theorem orT_f (h : evT o bd a δ = .ok (false, δ1)) : evT o bd (.bop .Or a b) δ = evT o bd b δ1 := by
  simp only [evT, h, R.bind_ok]; rfl
theorem orT_t (h : evT o bd a δ = .ok (true, δ1)) : evT o bd (.bop .Or a b) δ = .ok (true, δ1) := by
  simp only [evT, h, R.bind_ok, if_true]
theorem ix_of (h : evE o bd a δ = .ok (v, δ1)) (h2 : evE o bd b δ1 = .ok (w, δ2)) (hv : dv δ2 v = some x) (hw : dv δ2 w = some y) {d : D} (hz : ixD x y = some d) : evE o bd (.ix a b) δ = .ok (.pl d, δ2) := by
  simp only [evE, h, h2, hv, hw, ixV, hz, Option.map, R.bind_ok, R.ofO_some]
theorem slT_of {l q : C} {lo hi : Option Int} {xs : List D} (h : evE o bd a δ = .ok (v, δ1)) (hl : evO o bd l δ1 = .ok (lo, δ2)) (hh : evO o bd q δ2 = .ok (hi, δ3)) (hv : dv δ3 v = some (.tup xs)) : evE o bd (.sl a l q) δ = .ok (.pl (.tup (cutD xs lo hi)), δ3) := by
  simp only [evE, h, hl, hh, hv, R.bind_ok]
theorem tstO_of {k : Int} (h : evE o bd a δ = .ok (v, δ1)) (hv : dv δ1 v = some (.int k)) : evO o bd (.tst a) δ = .ok (some k, δ1) := by
  simp only [evO, h, hv, R.bind_ok]
theorem lst_of (h : evA o bd as δ = .ok (vs, δ1)) (h2 : cvs vs = some ds) (h3 : ds.length ≤ sizeLine) : evE o bd (.lst as) δ = .ok (.fr ds, δ1) := by
  simp only [evE, h, h2, R.bind_ok, R.ofO_some]; rw [if_pos h3]
theorem tup_of (h : evA o bd as δ = .ok (vs, δ1)) (h2 : cvs vs = some ds) (h3 : ds.length ≤ sizeLine) : evE o bd (.tup as) δ = .ok (.pl (.tup ds), δ1) := by
  simp only [evE, h, h2, R.bind_ok, R.ofO_some]; rw [if_pos h3]
theorem isi_of {ts : List Ty} {k : Bool} (h : evE o bd a δ = .ok (v, δ1)) (h2 : dv δ1 v = some x) (h3 : isiD o.nc o.sub ts x = some k) : evE o bd (.isi a ts) δ = .ok (.pl (.bl k), δ1) := by
  simp only [evE, h, h2, h3, R.bind_ok, R.ofO_some]
theorem ite_t (h : evT o bd c δ = .ok (true, δ1)) : evE o bd (.ite c a b) δ = evE o bd a δ1 := by
  simp only [evE, h, R.bind_ok, if_true]
theorem ite_f (h : evT o bd c δ = .ok (false, δ1)) : evE o bd (.ite c a b) δ = evE o bd b δ1 := by
  simp only [evE, h, R.bind_ok]; rfl
theorem iff_t (h : evT o bd c δ = .ok (true, δ1)) : evS o bd (.iff c s t) δ = evS o bd s δ1 := by
  simp only [evS, h, R.bind_ok, if_true]
theorem iff_f (h : evT o bd c δ = .ok (false, δ1)) : evS o bd (.iff c s t) δ = evS o bd t δ1 := by
  simp only [evS, h, R.bind_ok]; rfl
theorem iffs_f (h : evT o bd c δ = .ok (false, δ1)) : evS o bd (.iff c s .skip) δ = .ok (.nx, δ1) := (iff_f h).trans rfl
theorem app_of {xs ys : List D} {d : D} (hg : gS δ i = .ow xs) (h : evE o bd a δ = .ok (v, δ1)) (hc : cv v = some d) (hg2 : gS δ1 i = .ow ys) (hl : ys.length < sizeLine) : evE o bd (.app i a) δ = .ok (.pl .non, δ1.set i (.ow (ys ++ [d]))) := by
  simp only [evE, hg, h, R.bind_ok, hc, R.ofO_some, hg2]; rw [if_pos hl]
theorem exp_seq (h : evE o bd e δ = .ok (v, δ1)) : evS o bd (.seq (.exp e) t) δ = evS o bd t δ1 := seq_nx (by simp only [evS, h, R.bind_ok])
theorem chn_of {op op' : CmpOp} {q k : Bool} {z' : D} (h : evE o bd a δ = .ok (v, δ1)) (h2 : evE o bd b δ1 = .ok (w, δ2)) (hv : dv δ2 v = some x) (hw : dv δ2 w = some y) (hz : cmpD op x y = some true) (h3 : evE o bd c δ2 = .ok (u, δ3)) (hw3 : dv δ3 w = some y) (hu : dv δ3 u = some z') (hk : cmpD op' y z' = some k) : evE o bd (.chn op op' a b c) δ = .ok (.pl (.bl k), δ3) := by
  simp only [evE, h, h2, hv, hw, hz, R.bind_ok, R.ofO_some, if_true, h3, hw3, hu, hk]
/-- a return as the body's last -/
theorem ret_seq {sl : Sl} (h : evE o bd e δ = .ok (v, δ1)) (h2 : slV v = some sl) : evS o bd (.seq (.ret e) t) δ = .ok (.rt v, δ1) := seq_rt (ret_of h h2)
theorem asg_seq {δ2 : En} (h : evE o bd e δ = .ok (v, δ1)) (h2 : putS bd i v δ1 = some δ2) : evS o bd (.seq (.asg i e) t) δ = evS o bd t δ2 := seq_nx (asg_of h h2)
end
/-- a comprehension without tests: its values one by one -/
theorem lc_vals {own : List Nat} {tg : Tg} {k : It} {o : Orc} {bd : List Nat} {is e : C} {δ δ1 : En} {vs : List Vl} {dd items : List D} (Q : En → Prop) (vals : List D) (h1 : evA o bd is δ = .ok (vs, δ1)) (h2 : cvs vs = some dd) (h3 : itD k dd = some items) (hp : (own.all (fun i => plainS (gS δ1 i)) && own.all (fun i => !bd.contains i)) = true)
    (hl : items.length ≤ sizeLine) (hv : vals.length = items.length) (q0 : Q (wipeS δ1 own)) (step : ∀ (i : Nat) d x δ, items[i]? = some d → vals[i]? = some x → Q δ → ∃ δa δb v, bindT bd tg d δ = some δa ∧ evE o bd e δa = .ok (v, δb) ∧ cv v = some x ∧ Q (wipeS δb own)) :
    ∃ δ', evE o bd (.lc own tg k is .yes e) δ = .ok (.fr vals, backS δ1 own δ') ∧ Q δ' := by
  have go : ∀ (items vals acc : List D) (δ : En), acc.length + items.length ≤ sizeLine → vals.length = items.length → Q δ → (∀ (i : Nat) d x δ, items[i]? = some d → vals[i]? = some x → Q δ → ∃ δa δb v, bindT bd tg d δ = some δa ∧ evE o bd e δa = .ok (v, δb) ∧ cv v = some x ∧ Q (wipeS δb own)) →
      ∃ δ', lcLoop own (bindT bd tg) (evT o bd .yes) (evE o bd e) items acc δ = .ok (acc ++ vals, δ') ∧ Q δ' := by
    intro items
    induction items with
    | nil =>
      intro vals acc δ _ hv q _
      have : vals = [] := List.length_eq_zero_iff.mp hv
      subst this
      exact ⟨δ, by simp [lcLoop], q⟩
    | cons d r ih =>
      intro vals acc δ hl hv q step
      cases vals with
      | nil => simp at hv
      | cons x vals =>
      simp only [List.length_cons] at hl hv
      obtain ⟨δa, δb, v, e1, e2, e3, e4⟩ := step 0 d x δ rfl rfl q
      obtain ⟨δ', e5, q'⟩ := ih vals (acc ++ [x]) (wipeS δb own) (by simp; omega) (by omega) e4 fun i d y δ hi hj qq => step (i + 1) d y δ (by simpa using hi) (by simpa using hj) qq
      refine ⟨δ', ?_, q'⟩
      have ty : evT o bd .yes δa = .ok (true, δa) := rfl
      simp only [lcLoop, e1, ty, e2, e3, R.ofO_some, R.bind_ok, if_true]
      rw [if_pos (by omega), e5]
      simp
  obtain ⟨δ', e1, q⟩ := go items vals [] (wipeS δ1 own) (by simpa using hl) hv q0 step
  refine ⟨δ', ?_, q⟩
  simp only [evE, h1, R.bind_ok, h2, R.ofO_some, h3]
  rw [if_pos hp, e1]
  simp only [R.calm_ok, R.bind_ok, List.nil_append]
/-- .. that leaves the slots as they are -/
theorem lc_each {own : List Nat} {tg : Tg} {k : It} {o : Orc} {bd : List Nat} {is e : C} {δ δ1 : En} {vs : List Vl} {dd items : List D} (vals : List D) (h1 : evA o bd is δ = .ok (vs, δ1)) (h2 : cvs vs = some dd) (h3 : itD k dd = some items) (hp : (own.all (fun i => plainS (gS δ1 i)) && own.all (fun i => !bd.contains i)) = true)
    (hl : items.length ≤ sizeLine) (hv : vals.length = items.length) (step : ∀ (i : Nat) d x, items[i]? = some d → vals[i]? = some x → ∃ δa δb v, bindT bd tg d (wipeS δ1 own) = some δa ∧ evE o bd e δa = .ok (v, δb) ∧ cv v = some x ∧ wipeS δb own = wipeS δ1 own) (hb : backS δ1 own (wipeS δ1 own) = δ1) :
    evE o bd (.lc own tg k is .yes e) δ = .ok (.fr vals, δ1) := by
  obtain ⟨δ', e1, q⟩ := lc_vals (tg := tg) (e := e) (fun δ => δ = wipeS δ1 own) vals h1 h2 h3 hp hl hv rfl fun i d x δ hi hj q => by subst q; exact step i d x hi hj
  rw [e1, q, hb]
theorem runD_ok {o : Orc} {d : Def} {as : List Sl} {v : Vl} {δ' : En} {ss : List Sl} (hc : as.length = d.np ∧ ((List.range d.np).all fun j => d.bor.contains j == ownB (gS as j)) = true) (h : evS o d.bor d.body (as ++ List.replicate (d.n - d.np) .un) = .ok (.rt v, δ')) (hn : d.np ≤ δ'.length) (ha : noAl v) (ho : outS d δ' = ss) : runD o d as = .ok (v, ss) :=
  ho ▸ runD_rt hc h hn ha
theorem ints_map : ∀ ns : List Int, intsOf (ns.map .int) = some ns
  | [] => rfl
  | n :: ns => by simp [intsOf, ints_map ns]
theorem cmp_ne {a b : D} {k : Bool} (h : eqD a b = some k) : cmpD .NotEq a b = some (!k) := by simp only [cmpD, h]; rfl
theorem cmp_eq {a b : D} {k : Bool} (h : eqD a b = some k) : cmpD .Eq a b = some k := h
/-- two reprs of the same -/
theorem same_repr {d : D} {k n : Nat} (h : Rp d k n) : eqD (.str d.py.shown) (.str d.py.shown) = some true := (eq_str h.ok h.ok).trans (by simp)
end B
/-! == of tuples of integers -/
namespace B
open PySem L2
theorem ints_pure : ∀ r : List Int, D.pures (r.map .int) = true
  | [] => rfl
  | v :: r => by simp [D.pures, D.pure, ints_pure r]
theorem ints_lay : ∀ r : List Int, PyData.canLayAll0 (D.pys (r.map .int)) = true
  | [] => rfl
  | v :: r => by simp [D.pys, D.py, PyData.canLayAll0, PyData.canLay0, ints_lay r]
theorem ints_dep : ∀ r : List Int, PyData.depthAll (D.pys (r.map .int)) = 0
  | [] => rfl
  | v :: r => by simp [D.pys, D.py, PyData.depthAll, PyData.depth, ints_dep r]
theorem ints_eqv : ∀ a b : List Int, PyData.eqvAll (D.pys (a.map .int)) (D.pys (b.map .int)) = (a == b)
  | [], [] => rfl
  | [], _ :: _ => rfl
  | _ :: _, [] => rfl
  | v :: a, u :: b => by simp [D.pys, D.py, PyData.eqvAll, PyData.eqv, ints_eqv a b]
theorem tupI_cmpb (r : List Int) : (D.tup (r.map .int)).cmpb = true := by
  simp [D.cmpb, D.pure, D.py, SeqAt.shaped, PyData.canLay0, PyData.depth, ints_pure, ints_lay, ints_dep]
theorem eq_tupI (a b : List Int) : eqD (.tup (a.map .int)) (.tup (b.map .int)) = some (a == b) := by
  unfold eqD
  rw [tupI_cmpb, tupI_cmpb]
  show some (PyData.eqv _ _) = _
  congr 1
  simp only [D.py, PyData.eqv]
  exact ints_eqv a b
end B
/-! One equation a construct, for runs by simp. -/
namespace B
open PySem L2
section
variable {o : Orc} {bd own : List Nat} {a b c as e t : C} {s q : S} {δ : En} {f i j : Nat} {is : List Nat}
theorem vE_int {k : Int} : evE o bd (.int k) δ = .ok (.pl (.int k), δ) := Eq.trans rfl rfl
theorem vE_bl {k : Bool} : evE o bd (.bl k) δ = .ok (.pl (.bl k), δ) := Eq.trans rfl rfl
theorem vE_non : evE o bd .non δ = .ok (.pl .non, δ) := Eq.trans rfl rfl
theorem vE_str {x : Str} : evE o bd (.str x) δ = .ok (.pl (.str x), δ) := Eq.trans rfl rfl
theorem vE_var : evE o bd (.var i) δ = match gS δ i with
    | .un => .no
    | .fz d => .ok (.pl d, δ)
    | .ow xs => if i ∈ bd then .no else .ok (.pl (.lst xs), δ.set i (.fz (.lst xs)))
    | .ob c fs => if i ∈ bd then .no else .ok (.pl (.obj c fs), δ.set i (.fz (.obj c fs)))
    | .xc _ _ => .no := Eq.trans rfl rfl
theorem vE_pk : evE o bd (.pk i) δ = match gS δ i with
    | .un => .no
    | .fz d => .ok (.pl d, δ)
    | .xc _ _ => .no
    | _ => .ok (.al i, δ) := Eq.trans rfl rfl
theorem vE_gl {g : Nat} : evE o bd (.gl g) δ = (R.ofO (o.gl g)).bind fun d => .ok (.pl d, δ) := Eq.trans rfl rfl
theorem vE_bin {op : Operator} : evE o bd (.bin op a b) δ = (evE o bd a δ).bind fun (v, δ1) => (evE o bd b δ1).bind fun (w, δ2) =>
      (R.ofO (dv δ2 v)).bind fun x => (R.ofO (dv δ2 w)).bind fun y => (R.ofO (binD op x y)).bind fun z => .ok (z, δ2) := Eq.trans rfl rfl
theorem vE_neg : evE o bd (.neg a) δ = (evE o bd a δ).bind fun (v, δ1) => (R.ofO (dv δ1 v)).bind fun x => (R.ofO (negD x)).bind fun z => .ok (z, δ1) := Eq.trans rfl rfl
theorem vE_not : evE o bd (.not a) δ = (evE o bd a δ).bind fun (v, δ1) => (R.ofO (dv δ1 v)).bind fun x => (R.ofO (notD x)).bind fun z => .ok (z, δ1) := Eq.trans rfl rfl
theorem vE_one {op : BoolOp} : evE o bd (.one op a) δ = evE o bd a δ := Eq.trans rfl rfl
theorem vE_and : evE o bd (.bop .And a b) δ = (evE o bd a δ).bind fun (v, δ1) => (R.ofO (dv δ1 v)).bind fun d => (R.ofO (truD d)).bind fun c => if c then evE o bd b δ1 else .ok (v, δ1) := Eq.trans rfl rfl
theorem vE_or : evE o bd (.bop .Or a b) δ = (evE o bd a δ).bind fun (v, δ1) => (R.ofO (dv δ1 v)).bind fun d => (R.ofO (truD d)).bind fun c => if c then .ok (v, δ1) else evE o bd b δ1 := Eq.trans rfl rfl
theorem vE_cmp {op : CmpOp} : evE o bd (.cmp op a b) δ = (evE o bd a δ).bind fun (v, δ1) => (evE o bd b δ1).bind fun (w, δ2) =>
      (R.ofO (dv δ2 v)).bind fun x => (R.ofO (dv δ2 w)).bind fun y => (R.ofO (cmpD op x y)).bind fun z => .ok (.pl (.bl z), δ2) := by
  show ((evE o bd a δ).bind fun (v, δ1) => (evE o bd b δ1).bind fun (w, δ2) =>
      (R.ofO (dv δ2 v)).bind fun x => (R.ofO (dv δ2 w)).bind fun y => (R.ofO (b2v (cmpD op) x y)).bind fun z => .ok (z, δ2)) = _
  congr 1; funext p; obtain ⟨v, δ1⟩ := p
  show R.bind _ _ = R.bind _ _
  congr 1; funext p; obtain ⟨w, δ2⟩ := p
  show R.bind _ _ = R.bind _ _
  congr 1; funext x
  congr 1; funext y
  unfold b2v
  cases cmpD op x y <;> rfl
theorem vE_chn {op op' : CmpOp} : evE o bd (.chn op op' a b c) δ = (evE o bd a δ).bind fun (v, δ1) => (evE o bd b δ1).bind fun (w, δ2) =>
      (R.ofO (dv δ2 v)).bind fun x => (R.ofO (dv δ2 w)).bind fun y => (R.ofO (cmpD op x y)).bind fun z =>
        if z then (evE o bd c δ2).bind fun (u, δ3) => (R.ofO (dv δ3 w)).bind fun y => (R.ofO (dv δ3 u)).bind fun x' => (R.ofO (cmpD op' y x')).bind fun z' => .ok (.pl (.bl z'), δ3)
        else .ok (.pl (.bl false), δ2) := Eq.trans rfl rfl
theorem vE_ite : evE o bd (.ite t a b) δ = (evT o bd t δ).bind fun (c, δ1) => if c then evE o bd a δ1 else evE o bd b δ1 := Eq.trans rfl rfl
theorem vE_cal : evE o bd (.cal f as) δ = (evA o bd as δ).bind fun (vs, δ1) => if (als vs).Nodup then endC δ1 vs (o.cl f (vs.map (slA δ1))) else .no := Eq.trans rfl rfl
theorem vE_kal : evE o bd (.xt (.kal f) a b) δ = ((evA o bd a δ).bind fun (vs, δ1) => (evA o bd b δ1).bind fun (ws, δ2) => .ok (vs ++ ws, δ2)).bind fun (vs, δ1) =>
      if (als vs).Nodup then endC δ1 vs (o.cl f (vs.map (slA δ1))) else .no := Eq.trans rfl rfl
theorem vE_bm {m : Bm} : evE o bd (.xt (.bm m) a b) δ = (evE o bd a δ).bind fun (v, δ1) => (R.ofO (dv δ1 v)).bind fun x0 => if bmT m x0 then (evA o bd b δ1).bind fun (vs, δ2) => (R.ofO (dv δ2 v)).bind fun x => (R.ofO (dvs δ2 vs)).bind fun ds => (R.ofO (bmD m x ds)).bind fun z => .ok (z, δ2) else .no := Eq.trans rfl rfl
theorem vE_sset : evE o bd (.xt .sset a b) δ = (evE o bd a δ).bind fun (v, δ1) => (R.ofO (dv δ1 v)).bind fun x => (R.ofO (ssetD x)).bind fun z => .ok (z, δ1) := Eq.trans rfl rfl
theorem vE_mak {cl : Nat} : evE o bd (.mak cl as) δ = (evA o bd as δ).bind fun (vs, δ1) =>
      if (als vs).Nodup then endM cl δ1 vs (o.mkc cl (.ob cl [] :: vs.map (slA δ1))) else .no := Eq.trans rfl rfl
theorem vE_bi {k : Bi} : evE o bd (.bi k as) δ = (evA o bd as δ).bind fun (vs, δ1) => (R.ofO (dvs δ1 vs)).bind fun ds => (R.ofO (biD k ds)).bind fun v => .ok (v, δ1) := Eq.trans rfl rfl
theorem vE_isi {ts : List Ty} : evE o bd (.isi a ts) δ = (evE o bd a δ).bind fun (v, δ1) => (R.ofO (dv δ1 v)).bind fun d => (R.ofO (isiD o.nc o.sub ts d)).bind fun b => .ok (.pl (.bl b), δ1) := Eq.trans rfl rfl
theorem vE_mt {m : Str} : evE o bd (.mt m a as) δ = (evE o bd a δ).bind fun (v, δ1) => (R.ofO (mtd o m (dv δ1 v))).bind fun f => (evA o bd as δ1).bind fun (vs, δ2) =>
      if (als (v :: vs)).Nodup then endC δ2 (v :: vs) (o.cl f ((v :: vs).map (slA δ2))) else .no := Eq.trans rfl rfl
theorem vE_app : evE o bd (.app i a) δ = (match gS δ i with | .ow _ => evE o bd a δ | _ => .no).bind fun (v, δ1) => (R.ofO (cv v)).bind fun d => match gS δ1 i with
    | .ow xs => if xs.length < sizeLine then .ok (.pl .non, δ1.set i (.ow (xs ++ [d]))) else .no
    | _ => .no := Eq.trans rfl rfl
theorem vE_fld {x : Str} : evE o bd (.fld a x) δ = (evE o bd a δ).bind fun (v, δ1) => (R.ofO (dv δ1 v)).bind fun d => (R.ofO (fldD o x d)).bind fun z => .ok (.pl z, δ1) := by
  show ((evE o bd a δ).bind fun (v, δ1) => (R.ofO (dv δ1 v)).bind fun d => (R.ofO ((fldD o x d).map Vl.pl)).bind fun z => .ok (z, δ1)) = _
  congr 1; funext p; obtain ⟨v, δ1⟩ := p
  show R.bind _ _ = R.bind _ _
  congr 1; funext d
  cases fldD o x d <;> rfl
theorem vE_xf {x : Str} : evE o bd (.xf i x) δ = match gS δ i with
    | .xc c fs => if o.nc ≤ c ∧ o.fl c x = true then (R.ofO (fs.lookup x)).bind fun d => .ok (.pl d, δ) else .no
    | _ => .no := Eq.trans rfl rfl
theorem vE_xi {ts : List Ty} : evE o bd (.xi i ts) δ = match gS δ i with
    | .xc c _ => (R.ofO (xiD o c ts)).bind fun b => .ok (.pl (.bl b), δ)
    | _ => .no := Eq.trans rfl rfl
theorem vE_ix : evE o bd (.ix a b) δ = (evE o bd a δ).bind fun (v, δ1) => (evE o bd b δ1).bind fun (w, δ2) =>
      (R.ofO (dv δ2 v)).bind fun x => (R.ofO (dv δ2 w)).bind fun y => (R.ofO (ixD x y)).bind fun z => .ok (.pl z, δ2) := by
  show ((evE o bd a δ).bind fun (v, δ1) => (evE o bd b δ1).bind fun (w, δ2) =>
      (R.ofO (dv δ2 v)).bind fun x => (R.ofO (dv δ2 w)).bind fun y => (R.ofO (ixV x y)).bind fun z => .ok (z, δ2)) = _
  congr 1; funext p; obtain ⟨v, δ1⟩ := p
  show R.bind _ _ = R.bind _ _
  congr 1; funext p; obtain ⟨w, δ2⟩ := p
  show R.bind _ _ = R.bind _ _
  congr 1; funext x
  congr 1; funext y
  unfold ixV
  cases ixD x y <;> rfl
theorem vE_sl {l h : C} : evE o bd (.sl a l h) δ = (evE o bd a δ).bind fun (v, δ1) => (evO o bd l δ1).bind fun (lo, δ2) => (evO o bd h δ2).bind fun (hi, δ3) => match dv δ3 v with
    | some (.lst xs) => .ok (.fr (cutD xs lo hi), δ3)
    | some (.ro xs) => .ok (.fr (cutD xs lo hi), δ3)
    | some (.tup xs) => .ok (.pl (.tup (cutD xs lo hi)), δ3)
    | _ => .no := Eq.trans rfl rfl
theorem vE_tup : evE o bd (.tup as) δ = (evA o bd as δ).bind fun (vs, δ1) => (R.ofO (cvs vs)).bind fun ds => if ds.length ≤ sizeLine then .ok (.pl (.tup ds), δ1) else .no := Eq.trans rfl rfl
theorem vE_lst : evE o bd (.lst as) δ = (evA o bd as δ).bind fun (vs, δ1) => (R.ofO (cvs vs)).bind fun ds => if ds.length ≤ sizeLine then .ok (.fr ds, δ1) else .no := Eq.trans rfl rfl
theorem vT_yes : evT o bd .yes δ = .ok (true, δ) := Eq.trans rfl rfl
theorem vT_not : evT o bd (.not a) δ = (evT o bd a δ).bind fun (b, δ1) => .ok (!b, δ1) := Eq.trans rfl rfl
theorem vT_one {op : BoolOp} : evT o bd (.one op a) δ = evT o bd a δ := Eq.trans rfl rfl
theorem vT_and : evT o bd (.bop .And a b) δ = (evT o bd a δ).bind fun (c, δ1) => if c then evT o bd b δ1 else .ok (false, δ1) := Eq.trans rfl rfl
theorem vT_or : evT o bd (.bop .Or a b) δ = (evT o bd a δ).bind fun (c, δ1) => if c then .ok (true, δ1) else evT o bd b δ1 := Eq.trans rfl rfl
theorem vT_tst : evT o bd (.tst e) δ = (evE o bd e δ).bind fun (v, δ1) => (R.ofO (dv δ1 v)).bind fun d => (R.ofO (truD d)).bind fun b => .ok (b, δ1) := Eq.trans rfl rfl
theorem vT_chn {op op' : CmpOp} : evT o bd (.chn op op' a b c) δ = (evE o bd (.chn op op' a b c) δ).bind fun (v, δ1) => (R.ofO (dv δ1 v)).bind fun d => (R.ofO (truD d)).bind fun b => .ok (b, δ1) := Eq.trans rfl rfl
theorem vT_cmp {op : CmpOp} : evT o bd (.cmp op a b) δ = (evE o bd a δ).bind fun (v, δ1) => (evE o bd b δ1).bind fun (w, δ2) =>
      (R.ofO (dv δ2 v)).bind fun x => (R.ofO (dv δ2 w)).bind fun y => (R.ofO (cmpD op x y)).bind fun z => .ok (z, δ2) := by
  show (((evE o bd a δ).bind fun (v, δ1) => (evE o bd b δ1).bind fun (w, δ2) =>
      (R.ofO (dv δ2 v)).bind fun x => (R.ofO (dv δ2 w)).bind fun y => (R.ofO (b2v (cmpD op) x y)).bind fun z => .ok (z, δ2)).bind fun (v, δ1) => (R.ofO (dv δ1 v)).bind fun d => (R.ofO (truD d)).bind fun b => .ok (b, δ1)) = _
  cases evE o bd a δ with
  | no => rfl
  | ex => rfl
  | ok p =>
  obtain ⟨v, δ1⟩ := p
  simp only [R.bind_ok]
  cases evE o bd b δ1 with
  | no => rfl
  | ex => rfl
  | ok p =>
  obtain ⟨w, δ2⟩ := p
  simp only [R.bind_ok]
  cases dv δ2 v with
  | none => rfl
  | some x =>
  cases dv δ2 w with
  | none => rfl
  | some y =>
  simp only [R.ofO_some, R.bind_ok, b2v]
  cases cmpD op x y <;> rfl
theorem vA_nil : evA o bd .nil δ = .ok ([], δ) := Eq.trans rfl rfl
theorem vA_cons : evA o bd (.cons a as) δ = (evE o bd a δ).bind fun (v, δ1) => (evA o bd as δ1).bind fun (vs, δ2) => .ok (v :: vs, δ2) := Eq.trans rfl rfl
theorem vA_sole : evA o bd (.sole a) δ = (evE o bd a δ).bind fun (v, δ1) => .ok ([v], δ1) := Eq.trans rfl rfl
theorem vA_two : evA o bd (.two a b) δ = (evE o bd a δ).bind fun (v, δ1) => (evE o bd b δ1).bind fun (w, δ2) => .ok ([v, w], δ2) := by
  show ((evE o bd a δ).bind fun (v, δ1) => ((evE o bd b δ1).bind fun (v, δ1) => (R.ok (([], δ1) : List Vl × En)).bind fun (vs, δ2) => .ok (v :: vs, δ2)).bind fun (vs, δ2) => .ok (v :: vs, δ2)) = _
  congr 1; funext p; obtain ⟨v, δ1⟩ := p
  show R.bind (R.bind _ _) _ = R.bind _ _
  cases evE o bd b δ1 <;> rfl
theorem vO_nil : evO o bd .nil δ = .ok (none, δ) := Eq.trans rfl rfl
theorem vO_tst : evO o bd (.tst e) δ = (evE o bd e δ).bind fun (v, δ1) => match dv δ1 v with
    | some (.int i) => .ok (some i, δ1)
    | _ => .no := Eq.trans rfl rfl
theorem vS_skip : evS o bd .skip δ = .ok (.nx, δ) := Eq.trans rfl rfl
theorem vS_pass : evS o bd .pass δ = .ok (.nx, δ) := Eq.trans rfl rfl
theorem vS_seq : evS o bd (.seq s q) δ = match evS o bd s δ with
    | .ok (.nx, δ1) => evS o bd q δ1
    | r => r := Eq.trans rfl rfl
theorem vS_asg : evS o bd (.asg i e) δ = (evE o bd e δ).bind fun (v, δ1) => (R.ofO (putS bd i v δ1)).bind fun δ2 => .ok (.nx, δ2) := Eq.trans rfl rfl
theorem vS_par : evS o bd (.par i j as) δ = (evA o bd as δ).bind fun (vs, δ1) => (match vs with
    | [v, w] => (R.ofO (putS bd i v δ1)).bind fun δ2 => (R.ofO (putS bd j w δ2)).bind fun δ3 => .ok (.nx, δ3)
    | _ => .no) := Eq.trans rfl rfl
theorem vS_unp : evS o bd (.unp is e) δ = (evE o bd e δ).bind fun (v, δ1) => (R.ofO (cv v)).bind fun d => (match d with
    | .tup xs => (R.ofO (bindN bd is xs δ1)).bind fun δ2 => .ok (.nx, δ2)
    | .lst xs => (R.ofO (bindN bd is xs δ1)).bind fun δ2 => .ok (.nx, δ2)
    | _ => .no) := Eq.trans rfl rfl
theorem vS_sti : evS o bd (.sti i a e) δ = (evE o bd e δ).bind fun (v, δ1) => (R.ofO (cv v)).bind fun d => (match gS δ1 i with | .ow _ => evE o bd a δ1 | _ => .no).bind fun (w, δ2) => (match dv δ2 w, gS δ2 i with
    | some (.int j), .ow xs => (R.ofO (ixN xs.length j)).bind fun n => .ok (.nx, δ2.set i (.ow (xs.set n d)))
    | _, _ => .no) := Eq.trans rfl rfl
theorem vS_stf {x : Str} : evS o bd (.stf i x e) δ = (evE o bd e δ).bind fun (v, δ1) => (R.ofO (cv v)).bind fun d => (match gS δ1 i with
    | .ob c fs => if c < o.nc ∧ o.fl c x = true ∧ fs.length < 1000 then .ok (.nx, δ1.set i (.ob c (putD x d fs))) else .no
    | _ => .no) := Eq.trans rfl rfl
theorem vS_iff : evS o bd (.iff t s q) δ = (evT o bd t δ).bind fun (c, δ1) => if c then evS o bd s δ1 else evS o bd q δ1 := Eq.trans rfl rfl
theorem vS_ret : evS o bd (.ret e) δ = (evE o bd e δ).bind fun (v, δ1) => (R.ofO (slV v)).bind fun _ => .ok (.rt v, δ1) := Eq.trans rfl rfl
theorem vS_retN : evS o bd .retN δ = .ok (.rt (.pl .non), δ) := Eq.trans rfl rfl
theorem vS_exp : evS o bd (.exp e) δ = (evE o bd e δ).bind fun (_, δ1) => .ok (.nx, δ1) := Eq.trans rfl rfl
theorem vS_brk : evS o bd .brk δ = .ok (.bk, δ) := Eq.trans rfl rfl
theorem vS_cnt : evS o bd .cnt δ = .ok (.ct, δ) := Eq.trans rfl rfl
theorem vS_rai {k : Nat} : evS o bd (.rai k as) δ = (R.ofO (o.xf k)).bind fun ns => (evA o bd as δ).bind fun (vs, δ1) => (R.ofO (cvs vs)).bind fun ds => if ns.length = ds.length then .ex k (ns.zip ds).reverse δ1 else .no := Eq.trans rfl rfl
theorem vS_try : evS o bd (.try_ s q) δ = match evS o bd s δ with
    | .ex cl fs δ1 => evH o bd q cl fs δ1
    | r => r := Eq.trans rfl rfl
theorem vH_hnd {k : Nat} {i : Option Nat} {h r : S} {cl : Nat} {fs : List (Str × D)} : evH o bd (.hnd k i h r) cl fs δ = (R.ofO (o.xs cl k)).bind fun m => if m then (match i with
        | some i => if i ∈ bd ∨ δ.length ≤ i then .no else endX i (evS o bd h (δ.set i (.xc cl fs)))
        | none => endN (evS o bd h δ))
      else evH o bd r cl fs δ := Eq.trans rfl rfl
theorem vH_skip {cl : Nat} {fs : List (Str × D)} : evH o bd .skip cl fs δ = .ex cl fs δ := Eq.trans rfl rfl
end
theorem R.bind_ex {α β : Type} (c : Nat) (fs : List (Str × D)) (δ : En) (f : α → R β) : (R.ex c fs δ : R α).bind f = .ex c fs δ := Eq.trans rfl rfl
theorem gS_z (s : Sl) (δ : En) : gS (s :: δ) 0 = s := Eq.trans rfl rfl
theorem gS_s (s : Sl) (δ : En) (n : Nat) : gS (s :: δ) (n + 1) = gS δ n := Eq.trans rfl rfl
theorem dv_pl (δ : En) (d : D) : dv δ (.pl d) = some d := Eq.trans rfl rfl
theorem dv_fr (δ : En) (xs : List D) : dv δ (.fr xs) = some (.lst xs) := Eq.trans rfl rfl
theorem dv_al (δ : En) (i : Nat) : dv δ (.al i) = match gS δ i with
    | .un => none
    | .fz d => some d
    | .ow xs => some (.lst xs)
    | .ob c fs => some (.obj c fs)
    | .xc _ _ => none := Eq.trans rfl rfl
theorem cv_pl (d : D) : cv (.pl d) = some d := Eq.trans rfl rfl
theorem cv_fr (xs : List D) : cv (.fr xs) = some (.lst xs) := Eq.trans rfl rfl
theorem cvs_nil : cvs [] = some [] := Eq.trans rfl rfl
theorem cvs_cons (v : Vl) (r : List Vl) : cvs (v :: r) = (cv v).bind fun d => (cvs r).map (d :: ·) := Eq.trans rfl rfl
theorem dvs_nil (δ : En) : dvs δ [] = some [] := Eq.trans rfl rfl
theorem dvs_cons (δ : En) (v : Vl) (r : List Vl) : dvs δ (v :: r) = (dv δ v).bind fun d => (dvs δ r).map (d :: ·) := Eq.trans rfl rfl
theorem als_nil : als [] = [] := Eq.trans rfl rfl
theorem als_al (i : Nat) (r : List Vl) : als (.al i :: r) = i :: als r := Eq.trans rfl rfl
theorem als_pl (d : D) (r : List Vl) : als (.pl d :: r) = als r := Eq.trans rfl rfl
theorem als_fr (d : List D) (r : List Vl) : als (.fr d :: r) = als r := Eq.trans rfl rfl
theorem slA_pl (δ : En) (d : D) : slA δ (.pl d) = .fz d := Eq.trans rfl rfl
theorem slA_fr (δ : En) (d : List D) : slA δ (.fr d) = .fz (.lst d) := Eq.trans rfl rfl
theorem slA_al (δ : En) (i : Nat) : slA δ (.al i) = gS δ i := Eq.trans rfl rfl
theorem slV_pl (d : D) : slV (.pl d) = some (.fz d) := Eq.trans rfl rfl
theorem slV_fr (d : List D) : slV (.fr d) = some (.ow d) := Eq.trans rfl rfl
theorem endC_ok (δ : En) (vs : List Vl) (v : Vl) (ss : List Sl) : endC δ vs (.ok (v, ss)) = .ok (v, giveBack δ vs ss) := Eq.trans rfl rfl
theorem endC_ex (δ : En) (vs : List Vl) (c : Nat) (fs : List (Str × D)) (ss : En) : endC δ vs (.ex c fs ss) = .ex c fs (giveBack δ vs ss) := Eq.trans rfl rfl
theorem endM_ok (c : Nat) (δ : En) (vs : List Vl) (fs : List (Str × D)) (ss : List Sl) : endM c δ vs (.ok (.pl .non, .ob c fs :: ss)) = .ok (.pl (.obj c fs), giveBack δ vs ss) := by
  show (if c = c then _ else _) = _
  rw [if_pos rfl]
theorem endM_ex (c : Nat) (δ : En) (vs : List Vl) (c' : Nat) (fs : List (Str × D)) (s : Sl) (ss : List Sl) : endM c δ vs (.ex c' fs (s :: ss)) = .ex c' fs (giveBack δ vs ss) := Eq.trans rfl rfl
theorem gb_nil (δ : En) (ss : List Sl) : giveBack δ [] ss = δ := by cases ss <;> rfl
theorem gb_al (δ : En) (i : Nat) (r : List Vl) (s : Sl) (ss : List Sl) : giveBack δ (.al i :: r) (s :: ss) = giveBack (δ.set i s) r ss := Eq.trans rfl rfl
theorem gb_pl (δ : En) (d : D) (r : List Vl) (s : Sl) (ss : List Sl) : giveBack δ (.pl d :: r) (s :: ss) = giveBack δ r ss := Eq.trans rfl rfl
theorem gb_fr (δ : En) (d : List D) (r : List Vl) (s : Sl) (ss : List Sl) : giveBack δ (.fr d :: r) (s :: ss) = giveBack δ r ss := Eq.trans rfl rfl
theorem set_z (s x : Sl) (δ : En) : (s :: δ).set 0 x = x :: δ := Eq.trans rfl rfl
theorem set_s (s x : Sl) (δ : En) (n : Nat) : (s :: δ).set (n + 1) x = s :: δ.set n x := Eq.trans rfl rfl
theorem putS_nil (i : Nat) (v : Vl) (δ : En) : putS [] i v δ = if δ.length ≤ i then none else (slV v).map fun s => δ.set i s := by
  unfold putS; simp
theorem bindT_nm (bd : List Nat) (i : Nat) (d : D) (δ : En) : bindT bd (.nm i) d δ = bindN bd [i] [d] δ := Eq.trans rfl rfl
theorem bindT_tp (bd : List Nat) (is : List Nat) (xs : List D) (δ : En) : bindT bd (.tp is) (.tup xs) δ = bindN bd is xs δ := Eq.trans rfl rfl
theorem bindN_nil (bd : List Nat) (δ : En) : bindN bd [] [] δ = some δ := Eq.trans rfl rfl
theorem bindN_cons (i : Nat) (is : List Nat) (d : D) (ds : List D) (δ : En) : bindN [] (i :: is) (d :: ds) δ = if δ.length ≤ i then none else bindN [] is ds (δ.set i (.fz d)) := by
  simp [bindN]
theorem putS_one (b i : Nat) (v : Vl) (δ : En) : putS [b] i v δ = if (i == b) = true then none else if δ.length ≤ i then none else (slV v).map fun s => δ.set i s := by
  unfold putS
  by_cases h : i = b
  · simp [h]
  · simp [h]
theorem bindN_one (b i : Nat) (is : List Nat) (d : D) (ds : List D) (δ : En) : bindN [b] (i :: is) (d :: ds) δ = if (i == b) = true then none else if δ.length ≤ i then none else bindN [b] is ds (δ.set i (.fz d)) := by
  by_cases h : i = b
  · simp [bindN, h]
  · simp [bindN, h]
theorem int_cmp_eq (i j : Int) : cmpD .Eq (.int i) (.int j) = some (i == j) := Eq.trans rfl rfl
theorem int_cmp_ne (i j : Int) : cmpD .NotEq (.int i) (.int j) = some (!(i == j)) := Eq.trans rfl rfl
theorem int_cmp_lt (i j : Int) : cmpD .Lt (.int i) (.int j) = some (decide (i < j)) := Eq.trans rfl rfl
theorem int_cmp_le (i j : Int) : cmpD .LtE (.int i) (.int j) = some (decide (i ≤ j)) := Eq.trans rfl rfl
theorem int_cmp_gt (i j : Int) : cmpD .Gt (.int i) (.int j) = some (decide (j < i)) := Eq.trans rfl rfl
theorem int_cmp_ge (i j : Int) : cmpD .GtE (.int i) (.int j) = some (decide (j ≤ i)) := Eq.trans rfl rfl
theorem bl_cmp_eq (i j : Bool) : cmpD .Eq (.bl i) (.bl j) = some (i == j) := Eq.trans rfl rfl
theorem bl_cmp_ne (i j : Bool) : cmpD .NotEq (.bl i) (.bl j) = some (!(i == j)) := Eq.trans rfl rfl
theorem is_non (d : D) : cmpD .Is d .non = some (isNonD d) := by cases d <;> rfl
theorem isnt_non (d : D) : cmpD .IsNot d .non = some (!isNonD d) := by cases d <;> rfl
theorem is_bl (a b : Bool) : cmpD .Is (.bl a) (.bl b) = some (decide (a = b)) := Eq.trans rfl rfl
theorem tru_bl (b : Bool) : truD (.bl b) = some b := Eq.trans rfl rfl
theorem tru_int (b : Int) : truD (.int b) = some (b != 0) := Eq.trans rfl rfl
theorem bin_add_i (i j : Int) : binD .Add (.int i) (.int j) = some (.pl (.int (i + j))) := Eq.trans rfl rfl
theorem bin_sub_i (i j : Int) : binD .Sub (.int i) (.int j) = some (.pl (.int (i - j))) := Eq.trans rfl rfl
theorem notD_bl (b : Bool) : notD (.bl b) = some (.pl (.bl (!b))) := Eq.trans rfl rfl
theorem notD_of (d : D) : notD d = (truD d).map fun b => .pl (.bl (!b)) := Eq.trans rfl rfl
theorem nd1e (i : Nat) : [i].Nodup = True := eq_true (by simp)
theorem nn_non : isNonD .non = true := Eq.trans rfl rfl
theorem nn_tup (xs : List D) : isNonD (.tup xs) = false := Eq.trans rfl rfl
theorem nn_lst (xs : List D) : isNonD (.lst xs) = false := Eq.trans rfl rfl
theorem nn_int (i : Int) : isNonD (.int i) = false := Eq.trans rfl rfl
theorem nn_bl (i : Bool) : isNonD (.bl i) = false := Eq.trans rfl rfl
theorem nn_str (i : Str) : isNonD (.str i) = false := Eq.trans rfl rfl
theorem nn_obj (c : Nat) (fs : List (Str × D)) : isNonD (.obj c fs) = false := Eq.trans rfl rfl
theorem lc_fm {α : Type} {o : Orc} {bd own : List Nat} {tg : Tg} {k : It} {is t e : C} {δ δ1 : En} {vs : List Vl} {dd : List D} (xs : List α) (enc : α → D) (b : α → Bool) (g : α → D)
    (h1 : evA o bd is δ = .ok (vs, δ1)) (h2 : cvs vs = some dd) (h3 : itD k dd = some (xs.map enc)) (hp : (own.all (fun i => plainS (gS δ1 i)) && own.all (fun i => !bd.contains i)) = true) (hl : xs.length ≤ sizeLine)
    (step : ∀ x ∈ xs, ∃ δa δb, bindT bd tg (enc x) (wipeS δ1 own) = some δa ∧ evT o bd t δa = .ok (b x, δb) ∧ (b x = false → wipeS δb own = wipeS δ1 own) ∧ (b x = true → ∃ δc v, evE o bd e δb = .ok (v, δc) ∧ cv v = some (g x) ∧ wipeS δc own = wipeS δ1 own)) (hb : backS δ1 own (wipeS δ1 own) = δ1) :
    evE o bd (.lc own tg k is t e) δ = .ok (.fr ((xs.filter b).map g), δ1) := by
  have go : ∀ (xs : List α) (acc : List D), acc.length + xs.length ≤ sizeLine → (∀ x ∈ xs, ∃ δa δb, bindT bd tg (enc x) (wipeS δ1 own) = some δa ∧ evT o bd t δa = .ok (b x, δb) ∧ (b x = false → wipeS δb own = wipeS δ1 own) ∧ (b x = true → ∃ δc v, evE o bd e δb = .ok (v, δc) ∧ cv v = some (g x) ∧ wipeS δc own = wipeS δ1 own)) →
      lcLoop own (bindT bd tg) (evT o bd t) (evE o bd e) (xs.map enc) acc (wipeS δ1 own) = .ok (acc ++ (xs.filter b).map g, wipeS δ1 own) := by
    intro xs
    induction xs with
    | nil => intro acc _ _; simp [lcLoop]
    | cons x r ih =>
      intro acc hl st
      obtain ⟨δa, δb, e1, e2, e3, e4⟩ := st x List.mem_cons_self
      simp only [List.length_cons] at hl
      simp only [List.map_cons, lcLoop, e1, R.ofO_some, R.bind_ok, e2]
      cases hx : b x with
      | false =>
        simp only [Bool.false_eq_true, if_false]
        rw [e3 hx, ih acc (by omega) fun y hy => st y (List.mem_cons_of_mem _ hy), List.filter_cons_of_neg (by rw [hx]; decide)]
      | true =>
        obtain ⟨δc, v, f1, f2, f3⟩ := e4 hx
        simp only [if_true, f1, R.bind_ok, f2, R.ofO_some]
        rw [if_pos (by omega), f3, ih _ (by simp; omega) fun y hy => st y (List.mem_cons_of_mem _ hy), List.filter_cons_of_pos hx]
        simp
  simp only [evE, h1, R.bind_ok, h2, R.ofO_some, h3]
  rw [if_pos hp, go xs [] (by simpa using hl) step]
  simp only [R.calm_ok, R.bind_ok, List.nil_append, hb]
/-- .. without a test -/
theorem lc_mp {α : Type} {o : Orc} {bd own : List Nat} {tg : Tg} {k : It} {is e : C} {δ δ1 : En} {vs : List Vl} {dd : List D} (xs : List α) (enc : α → D) (g : α → D)
    (h1 : evA o bd is δ = .ok (vs, δ1)) (h2 : cvs vs = some dd) (h3 : itD k dd = some (xs.map enc)) (hp : (own.all (fun i => plainS (gS δ1 i)) && own.all (fun i => !bd.contains i)) = true) (hl : xs.length ≤ sizeLine)
    (step : ∀ x ∈ xs, ∃ δa δc v, bindT bd tg (enc x) (wipeS δ1 own) = some δa ∧ evE o bd e δa = .ok (v, δc) ∧ cv v = some (g x) ∧ wipeS δc own = wipeS δ1 own) (hb : backS δ1 own (wipeS δ1 own) = δ1) :
    evE o bd (.lc own tg k is .yes e) δ = .ok (.fr (xs.map g), δ1) := by
  have := lc_fm (t := .yes) xs enc (fun _ => true) g h1 h2 h3 hp hl (fun x hx => by
    obtain ⟨δa, δc, v, e1, e2, e3, e4⟩ := step x hx
    exact ⟨δa, δa, e1, rfl, fun h => (nomatch h), fun _ => ⟨δc, v, e2, e3, e4⟩⟩) hb
  rw [List.filter_eq_self.mpr fun _ _ => rfl] at this
  exact this
theorem runD_nx {o : Orc} {d : Def} {as : List Sl} {δ' : En} {ss : List Sl} (hc : as.length = d.np ∧ ((List.range d.np).all fun j => d.bor.contains j == ownB (gS as j)) = true) (h : evS o d.bor d.body (as ++ List.replicate (d.n - d.np) .un) = .ok (.nx, δ')) (hn : d.np ≤ δ'.length) (ho : outS d δ' = ss) : runD o d as = .ok (.pl .non, ss) := by
  unfold runD
  rw [if_pos hc, h]
  simp only [finD]
  rw [if_pos hn, ho]
theorem runD_exc {o : Orc} {d : Def} {as : List Sl} {c : Nat} {fs : List (Str × D)} {δ' : En} {ss : List Sl} (hc : as.length = d.np ∧ ((List.range d.np).all fun j => d.bor.contains j == ownB (gS as j)) = true) (h : evS o d.bor d.body (as ++ List.replicate (d.n - d.np) .un) = .ex c fs δ') (hn : d.np ≤ δ'.length) (ho : outS d δ' = ss) : runD o d as = .ex c fs ss := by
  unfold runD
  rw [if_pos hc, h]
  simp only [finD]
  rw [if_pos hn, ho]
end B
/-! what isinstance, len, tuple, list, int give -/
namespace B
open PySem L2
theorem isi_int_non (nc : Nat) (sub : Nat → Nat → Bool)  : isiD nc sub [.int] (.non ) = some false := Eq.trans rfl rfl
theorem isi_int_bl (nc : Nat) (sub : Nat → Nat → Bool) (b : Bool) : isiD nc sub [.int] (.bl b) = some true := Eq.trans rfl rfl
theorem isi_int_int (nc : Nat) (sub : Nat → Nat → Bool) (i : Int) : isiD nc sub [.int] (.int i) = some true := Eq.trans rfl rfl
theorem isi_int_str (nc : Nat) (sub : Nat → Nat → Bool) (x : Str) : isiD nc sub [.int] (.str x) = some false := Eq.trans rfl rfl
theorem isi_int_tup (nc : Nat) (sub : Nat → Nat → Bool) (xs : List D) : isiD nc sub [.int] (.tup xs) = some false := Eq.trans rfl rfl
theorem isi_int_lst (nc : Nat) (sub : Nat → Nat → Bool) (xs : List D) : isiD nc sub [.int] (.lst xs) = some false := Eq.trans rfl rfl
theorem isi_int_ro (nc : Nat) (sub : Nat → Nat → Bool) (xs : List D) : isiD nc sub [.int] (.ro xs) = some false := Eq.trans rfl rfl
theorem isi_bool_non (nc : Nat) (sub : Nat → Nat → Bool)  : isiD nc sub [.bool] (.non ) = some false := Eq.trans rfl rfl
theorem isi_bool_bl (nc : Nat) (sub : Nat → Nat → Bool) (b : Bool) : isiD nc sub [.bool] (.bl b) = some true := Eq.trans rfl rfl
theorem isi_bool_int (nc : Nat) (sub : Nat → Nat → Bool) (i : Int) : isiD nc sub [.bool] (.int i) = some false := Eq.trans rfl rfl
theorem isi_bool_str (nc : Nat) (sub : Nat → Nat → Bool) (x : Str) : isiD nc sub [.bool] (.str x) = some false := Eq.trans rfl rfl
theorem isi_bool_tup (nc : Nat) (sub : Nat → Nat → Bool) (xs : List D) : isiD nc sub [.bool] (.tup xs) = some false := Eq.trans rfl rfl
theorem isi_bool_lst (nc : Nat) (sub : Nat → Nat → Bool) (xs : List D) : isiD nc sub [.bool] (.lst xs) = some false := Eq.trans rfl rfl
theorem isi_bool_ro (nc : Nat) (sub : Nat → Nat → Bool) (xs : List D) : isiD nc sub [.bool] (.ro xs) = some false := Eq.trans rfl rfl
theorem isi_str_non (nc : Nat) (sub : Nat → Nat → Bool)  : isiD nc sub [.str] (.non ) = some false := Eq.trans rfl rfl
theorem isi_str_bl (nc : Nat) (sub : Nat → Nat → Bool) (b : Bool) : isiD nc sub [.str] (.bl b) = some false := Eq.trans rfl rfl
theorem isi_str_int (nc : Nat) (sub : Nat → Nat → Bool) (i : Int) : isiD nc sub [.str] (.int i) = some false := Eq.trans rfl rfl
theorem isi_str_str (nc : Nat) (sub : Nat → Nat → Bool) (x : Str) : isiD nc sub [.str] (.str x) = some true := Eq.trans rfl rfl
theorem isi_str_tup (nc : Nat) (sub : Nat → Nat → Bool) (xs : List D) : isiD nc sub [.str] (.tup xs) = some false := Eq.trans rfl rfl
theorem isi_str_lst (nc : Nat) (sub : Nat → Nat → Bool) (xs : List D) : isiD nc sub [.str] (.lst xs) = some false := Eq.trans rfl rfl
theorem isi_str_ro (nc : Nat) (sub : Nat → Nat → Bool) (xs : List D) : isiD nc sub [.str] (.ro xs) = some false := Eq.trans rfl rfl
theorem isi_list_non (nc : Nat) (sub : Nat → Nat → Bool)  : isiD nc sub [.list] (.non ) = some false := Eq.trans rfl rfl
theorem isi_list_bl (nc : Nat) (sub : Nat → Nat → Bool) (b : Bool) : isiD nc sub [.list] (.bl b) = some false := Eq.trans rfl rfl
theorem isi_list_int (nc : Nat) (sub : Nat → Nat → Bool) (i : Int) : isiD nc sub [.list] (.int i) = some false := Eq.trans rfl rfl
theorem isi_list_str (nc : Nat) (sub : Nat → Nat → Bool) (x : Str) : isiD nc sub [.list] (.str x) = some false := Eq.trans rfl rfl
theorem isi_list_tup (nc : Nat) (sub : Nat → Nat → Bool) (xs : List D) : isiD nc sub [.list] (.tup xs) = some false := Eq.trans rfl rfl
theorem isi_list_lst (nc : Nat) (sub : Nat → Nat → Bool) (xs : List D) : isiD nc sub [.list] (.lst xs) = some true := Eq.trans rfl rfl
theorem isi_list_ro (nc : Nat) (sub : Nat → Nat → Bool) (xs : List D) : isiD nc sub [.list] (.ro xs) = some true := Eq.trans rfl rfl
theorem isi_tuple_non (nc : Nat) (sub : Nat → Nat → Bool)  : isiD nc sub [.tuple] (.non ) = some false := Eq.trans rfl rfl
theorem isi_tuple_bl (nc : Nat) (sub : Nat → Nat → Bool) (b : Bool) : isiD nc sub [.tuple] (.bl b) = some false := Eq.trans rfl rfl
theorem isi_tuple_int (nc : Nat) (sub : Nat → Nat → Bool) (i : Int) : isiD nc sub [.tuple] (.int i) = some false := Eq.trans rfl rfl
theorem isi_tuple_str (nc : Nat) (sub : Nat → Nat → Bool) (x : Str) : isiD nc sub [.tuple] (.str x) = some false := Eq.trans rfl rfl
theorem isi_tuple_tup (nc : Nat) (sub : Nat → Nat → Bool) (xs : List D) : isiD nc sub [.tuple] (.tup xs) = some true := Eq.trans rfl rfl
theorem isi_tuple_lst (nc : Nat) (sub : Nat → Nat → Bool) (xs : List D) : isiD nc sub [.tuple] (.lst xs) = some false := Eq.trans rfl rfl
theorem isi_tuple_ro (nc : Nat) (sub : Nat → Nat → Bool) (xs : List D) : isiD nc sub [.tuple] (.ro xs) = some false := Eq.trans rfl rfl
theorem isi_lt_non (nc : Nat) (sub : Nat → Nat → Bool)  : isiD nc sub [.list, .tuple] (.non ) = some false := Eq.trans rfl rfl
theorem isi_lt_bl (nc : Nat) (sub : Nat → Nat → Bool) (b : Bool) : isiD nc sub [.list, .tuple] (.bl b) = some false := Eq.trans rfl rfl
theorem isi_lt_int (nc : Nat) (sub : Nat → Nat → Bool) (i : Int) : isiD nc sub [.list, .tuple] (.int i) = some false := Eq.trans rfl rfl
theorem isi_lt_str (nc : Nat) (sub : Nat → Nat → Bool) (x : Str) : isiD nc sub [.list, .tuple] (.str x) = some false := Eq.trans rfl rfl
theorem isi_lt_tup (nc : Nat) (sub : Nat → Nat → Bool) (xs : List D) : isiD nc sub [.list, .tuple] (.tup xs) = some true := Eq.trans rfl rfl
theorem isi_lt_lst (nc : Nat) (sub : Nat → Nat → Bool) (xs : List D) : isiD nc sub [.list, .tuple] (.lst xs) = some true := Eq.trans rfl rfl
theorem isi_lt_ro (nc : Nat) (sub : Nat → Nat → Bool) (xs : List D) : isiD nc sub [.list, .tuple] (.ro xs) = some true := Eq.trans rfl rfl
theorem bi_len_tup (xs : List D) : biD .len [.tup xs] = some (.pl (.int (xs.length : Int))) := Eq.trans rfl rfl
theorem bi_len_lst (xs : List D) : biD .len [.lst xs] = some (.pl (.int (xs.length : Int))) := Eq.trans rfl rfl
theorem bi_tuple_lst (xs : List D) : biD .tuple [.lst xs] = some (.pl (.tup xs)) := Eq.trans rfl rfl
theorem bi_tuple_tup (xs : List D) : biD .tuple [.tup xs] = some (.pl (.tup xs)) := Eq.trans rfl rfl
theorem bi_list_tup (xs : List D) : biD .list [.tup xs] = some (.fr xs) := Eq.trans rfl rfl
theorem bi_list_lst (xs : List D) : biD .list [.lst xs] = some (.fr xs) := Eq.trans rfl rfl
theorem bi_int_int (i : Int) : biD .int [.int i] = some (.pl (.int i)) := Eq.trans rfl rfl
theorem bi_int_bl (b : Bool) : biD .int [.bl b] = some (.pl (.int (if b then 1 else 0))) := Eq.trans rfl rfl
end B
/-! Runs of the defs that many texts share, for any callees' numbers. -/
namespace U
open PySem L2 B
abbrev tupI (r : List Int) : D := .tup (r.map .int)
def noObj : D → Bool
  | .obj _ _ => false
  | .tbl _ => false
  | _ => true
def isIntD : D → Bool
  | .int _ => true
  | _ => false
def belowD (d : D) (b : Int) : Bool := match d with
  | .int i => decide (0 ≤ i) && decide (i < b)
  | _ => false
def isTupN (d : D) (n : Nat) : Bool := match d with
  | .tup xs => (xs.length : Int) == (n : Int)
  | _ => false
def bitD (d : D) : Bool := belowD d 2
def memD : D → List D
  | .tup xs => xs
  | _ => []
def rowB (d : D) (m : Nat) : Bool := isTupN d m && (memD d).all bitD
theorem bools_map (p : D → Bool) : ∀ xs : List D, boolsOf (xs.map fun d => .bl (p d)) = some (xs.map p)
  | [] => rfl
  | x :: xs => by simp [boolsOf, bools_map p xs]
def placeI (row : List Int) : Int := row.foldl (fun n v => 2 * n + v) 0

/-! what a def's number stands for -/
def SpInteger (o : Orc) (i : Nat) : Prop := ∀ d, noObj d = true → o.cl i [.fz d] = .ok (.pl (.bl (isIntD d)), [.un])
def SpBelow (o : Orc) (i : Nat) : Prop := ∀ d b, noObj d = true → o.cl i [.fz d, .fz (.int b)] = .ok (.pl (.bl (belowD d b)), [.un, .un])
def SpTuple (o : Orc) (i : Nat) : Prop := ∀ d (m : Nat), noObj d = true → o.cl i [.fz d, .fz (.int m)] = .ok (.pl (.bl (isTupN d m)), [.un, .un])
def SpValue (o : Orc) (i : Nat) : Prop := ∀ d, noObj d = true → o.cl i [.fz d] = .ok (.pl (.bl (bitD d)), [.un])
def SpRow (o : Orc) (i : Nat) : Prop := ∀ d (m : Nat), noObj d = true → (∀ x ∈ memD d, noObj x = true) → (memD d).length ≤ 1000 → o.cl i [.fz d, .fz (.int m)] = .ok (.pl (.bl (rowB d m)), [.un, .un])
def SpPlace (o : Orc) (i : Nat) : Prop := ∀ d row, seqOf d = some (row.map .int) → o.cl i [.fz d] = .ok (.pl (.int (placeI row)), [.un])

def k_integer : S := .seq (.ret (.bop .And (.isi (.pk 0) [.int]) (.one .And (.not (.isi (.pk 0) [.bool]))))) (.skip)
def k_below (i : Nat) : S := .seq (.ret (.bop .And (.cal i (.cons (.var 0) (.nil))) (.one .And (.chn .LtE .Lt (.int 0) (.pk 0) (.pk 1))))) (.skip)
def k_tuple : S := .seq (.ret (.bop .And (.isi (.pk 0) [.tuple]) (.one .And (.cmp .Eq (.bi .len (.cons (.pk 0) (.nil))) (.pk 1))))) (.skip)
def k_value (i : Nat) : S := .seq (.ret (.cal i (.cons (.var 0) (.cons (.int 2) (.nil))))) (.skip)
def k_row (i j : Nat) : S := .seq (.ret (.bop .And (.cal i (.cons (.var 0) (.cons (.var 1) (.nil)))) (.one .And (.bi .all (.cons (.lc [2] (.nm 2) .seq (.sole (.var 0)) (.yes) (.cal j (.cons (.var 2) (.nil)))) (.nil)))))) (.skip)
def k_place : S := .seq (.asg 1 (.int 0)) (.seq (.for_ (.nm 2) .seq (.sole (.var 0)) (.seq (.asg 1 (.bin .Add (.bin .Mult (.int 2) (.pk 1)) (.pk 2))) (.skip))) (.seq (.ret (.var 1)) (.skip)))
def k_table (i : Nat) : S := .seq (.ret (.cal i (.cons (.var 0) (.cons (.bin .LShift (.int 1) (.pk 1)) (.nil))))) (.skip)
def k_worth (i : Nat) : S := .seq (.ret (.ix (.pk 0) (.cal i (.cons (.var 1) (.nil))))) (.skip)
def k_made (i : Nat) : S := .seq (.ret (.bi .tuple (.cons (.lc [2] (.nm 2) .zst (.sole (.var 1)) (.yes) (.cal i (.cons (.var 0) (.cons (.var 2) (.nil))))) (.nil)))) (.skip)
def k_opposite : S := .seq (.ret (.bi .tuple (.cons (.lc [1] (.nm 1) .seq (.sole (.var 0)) (.yes) (.bin .Sub (.int 1) (.pk 1))) (.nil)))) (.skip)
section
variable {o : Orc} {i j : Nat}
theorem u_integer : ∀ d, noObj d = true → runD o ⟨1, 1, [], k_integer⟩ [.fz d] = .ok (.pl (.bl (isIntD d)), [.un]) := fun d h => by
  cases d <;> first | rfl | (simp [noObj] at h)
theorem u_below (h1 : SpInteger o i) : ∀ d b, noObj d = true → runD o ⟨2, 2, [], k_below i⟩ [.fz d, .fz (.int b)] = .ok (.pl (.bl (belowD d b)), [.un, .un]) := fun d b h => by
  refine runD_ok (δ' := [.fz d, .fz (.int b)]) ⟨rfl, rfl⟩ ?_ (by show 2 ≤ 2; decide) True.intro rfl
  show evS o [] (k_below i) [.fz d, .fz (.int b)] = _
  have h1 := h1 d h
  cases hd : isIntD d with
  | true =>
    cases d <;> simp [isIntD] at hd
    rename_i k
    by_cases h0 : 0 ≤ k
    · simp [k_below, evS, evE, evA, gS, R.bind_ok, R.ofO_some, dv, dvs, als, endC, giveBack, slA, slV, truD, h1, isIntD, cmpD, ordD, h0, belowD]
    · simp [k_below, evS, evE, evA, gS, R.bind_ok, R.ofO_some, dv, dvs, als, endC, giveBack, slA, slV, truD, h1, isIntD, cmpD, ordD, h0, belowD]
  | false =>
    have e : belowD d b = false := by cases d <;> first | rfl | (simp [isIntD] at hd)
    rw [hd] at h1
    rw [e]
    exact ret_seq (and_f (cal_of rfl (by exact List.nodup_nil) h1 rfl) rfl rfl) rfl
theorem u_tuple : ∀ d (m : Nat), noObj d = true → runD o ⟨2, 2, [], k_tuple⟩ [.fz d, .fz (.int m)] = .ok (.pl (.bl (isTupN d m)), [.un, .un]) := fun d m h => by
  cases d <;> first | rfl | (simp [noObj] at h)
theorem u_value (h1 : SpBelow o i) : ∀ d, noObj d = true → runD o ⟨1, 1, [], k_value i⟩ [.fz d] = .ok (.pl (.bl (bitD d)), [.un]) := fun d h =>
  runD_ok (δ' := [.fz d]) ⟨rfl, rfl⟩ (ret_seq (cal_of rfl (by exact List.nodup_nil) (h1 d 2 h) rfl) rfl) (by show 1 ≤ 1; decide) True.intro rfl
theorem u_row (h1 : SpTuple o i) (h3 : SpValue o j) : ∀ d (m : Nat), noObj d = true → (∀ x ∈ memD d, noObj x = true) → (memD d).length ≤ 1000 → runD o ⟨2, 3, [], k_row i j⟩ [.fz d, .fz (.int m)] = .ok (.pl (.bl (rowB d m)), [.un, .un]) := fun d m h hm hl => by
  refine runD_ok (δ' := [.fz d, .fz (.int m), .un]) ⟨rfl, rfl⟩ ?_ (by show 2 ≤ 3; decide) True.intro rfl
  show evS o [] (k_row i j) [.fz d, .fz (.int m), .un] = _
  have e1 : evE o [] (.cal i (.cons (.var 0) (.cons (.var 1) (.nil)))) [.fz d, .fz (.int m), .un] = .ok (.pl (.bl (isTupN d m)), [.fz d, .fz (.int m), .un]) := cal_of rfl (by exact List.nodup_nil) (h1 d m h) rfl
  cases ht : isTupN d m with
  | false =>
    rw [ht] at e1
    have e : rowB d m = false := by simp [rowB, ht]
    rw [e]
    exact ret_seq (and_f e1 rfl rfl) rfl
  | true =>
    rw [ht] at e1
    cases d <;> simp [isTupN] at ht
    rename_i xs
    have lc : evE o [] (.lc [2] (.nm 2) .seq (.sole (.var 0)) (.yes) (.cal j (.cons (.var 2) (.nil)))) [.fz (.tup xs), .fz (.int m), .un] = .ok (.fr (xs.map fun d => .bl (bitD d)), [.fz (.tup xs), .fz (.int m), .un]) :=
      lc_pure _ rfl rfl rfl rfl (Nat.le_trans hl (by decide)) (fun d hd => ⟨[.fz (.tup xs), .fz (.int m), .fz d], [.fz (.tup xs), .fz (.int m), .fz d], .pl (.bl (bitD d)), rfl, cal_of rfl (by exact List.nodup_nil) (h3 d (hm d hd)) rfl, rfl, rfl⟩) rfl
    have e2 : biD .all [.lst (xs.map fun d => .bl (bitD d))] = some (.pl (.bl ((xs.map bitD).all id))) := by simp only [biD, bools_map]; rfl
    have e3 : rowB (.tup xs) m = (xs.map bitD).all id := by simp [rowB, isTupN, ht, memD, Function.comp_def]
    rw [e3]
    exact ret_seq ((and_t e1 rfl rfl).trans (bi1_of lc rfl e2)) rfl
theorem for_place {d : D} {b : S} (row : List Int) (hd : seqOf d = some (row.map .int)) (hb : b = .seq (.asg 1 (.bin .Add (.bin .Mult (.int 2) (.pk 1)) (.pk 2))) .skip) : ∃ s2, evS o [] (.for_ (.nm 2) .seq (.sole (.var 0)) b) [.fz d, .fz (.int 0), .un] = .ok (.nx, [.fz d, .fz (.int (placeI row)), s2]) := by
  have hw : walkOf d = some (row.map .int) := by cases d <;> simp [seqOf] at hd <;> (subst hd; rfl)
  obtain ⟨δ', q1, s2, q2⟩ := for_run (o := o) (bd := []) (tg := .nm 2) (k := .seq) (is := .sole (.var 0)) (b := b) (δ := [.fz d, .fz (.int 0), .un]) (δ1 := [.fz d, .fz (.int 0), .un]) (vs := [.pl d]) (dd := [d]) (items := row.map .int)
    (fun i δ => ∃ s2, δ = [.fz d, .fz (.int ((row.take i).foldl (fun n v => 2 * n + v) 0)), s2]) rfl rfl hw ⟨.un, rfl⟩ (by
      rintro i x δ hi ⟨s2, rfl⟩
      obtain ⟨v, hv, rfl⟩ := ints_at hi
      refine ⟨[.fz d, .fz (.int ((row.take i).foldl (fun n v => 2 * n + v) 0)), .fz (.int v)], _, rfl, .inl ?_, .fz (.int v), rfl⟩
      subst hb
      have e : (row.take (i + 1)).foldl (fun n v => 2 * n + v) 0 = 2 * ((row.take i).foldl (fun n v => 2 * n + v) 0) + v := by
        rw [List.take_add_one, hv]; simp
      rw [e]
      exact (seq_nx (asg_of (bin_of (bin_of rfl rfl rfl rfl (bmul_l (by decide))) rfl rfl rfl rfl) rfl)).trans rfl)
  refine ⟨s2, ?_⟩
  rw [q1, q2, List.take_of_length_le (by simp)]
  rfl
theorem u_place : ∀ d row, seqOf d = some (row.map .int) → runD o ⟨1, 3, [], k_place⟩ [.fz d] = .ok (.pl (.int (placeI row)), [.un]) := fun d row hd => by
  obtain ⟨s2, q⟩ := for_place (o := o) row hd rfl
  exact runD_ok (δ' := [.fz d, .fz (.int (placeI row)), s2]) ⟨rfl, rfl⟩ ((asg_seq rfl rfl).trans ((seq_nx q).trans (ret_seq rfl rfl))) (by show 1 ≤ 3; decide) True.intro rfl
theorem u_opposite : ∀ (d : D) (row : List Int), seqOf d = some (row.map .int) → row.length ≤ 1000 → runD o ⟨1, 2, [], k_opposite⟩ [.fz d] = .ok (.pl (tupI (row.map fun v => 1 - v)), [.un]) := fun d row hd hl => by
  have hw : walkOf d = some (row.map .int) := by cases d <;> simp [seqOf] at hd <;> (subst hd; rfl)
  have lc : evE o [] (.lc [1] (.nm 1) .seq (.sole (.var 0)) (.yes) (.bin .Sub (.int 1) (.pk 1))) [.fz d, .un] = .ok (.fr ((row.map D.int).map fun d => match d with | .int v => .int (1 - v) | d => d), [.fz d, .un]) :=
    lc_pure _ rfl rfl hw rfl (by rw [List.length_map]; exact Nat.le_trans hl (by decide)) (fun x hx => by obtain ⟨v, _, rfl⟩ := List.mem_map.mp hx; exact ⟨_, _, _, rfl, rfl, rfl, rfl⟩) rfl
  have e : ((row.map D.int).map fun d => match d with | .int v => D.int (1 - v) | d => d) = (row.map fun v => 1 - v).map .int := by simp [Function.comp_def]
  rw [e] at lc
  exact runD_ok (δ' := [.fz d, .un]) ⟨rfl, rfl⟩ (ret_seq (bi1_of lc rfl rfl) rfl) (by show 1 ≤ 2; decide) True.intro rfl
end
end U
/-! the hand: the draws, a draw -/
namespace U
open PySem L2 B
local macro_rules | `(tactic| walk_at "ev") => `(tactic| simp [runD, evS, evE, evA, evT, evO, gS, R.bind_ok, R.ofO_some, R.calm_ok, dv, dvs, cv, cvs, als, endC, giveBack, slA, slV, truD, finD, outS, List.range, List.range.loop, ownB, cmpD, ordD, putS, bindT, bindN, binD, addD, subD, powD, shlD, biD, lenD, ixD, ixV, b2v, notD, negD, seqOf, itD, wipeS, backS, plainS, *])
def c_law_draws : S := .seq (.asg 2 (.lc [5] (.nm 5) .seq (.sole (.var 0)) (.yes) (.bi .abs (.cons (.bi .int (.cons (.pk 5) (.nil))) (.nil))))) (.seq (.asg 3 (.lst (.nil))) (.seq (.for_ (.nm 4) .rng1 (.sole (.var 1)) (.seq (.asg 5 (.var 4)) (.seq (.iff (.cmp .Gt (.bi .len (.cons (.pk 0) (.nil))) (.int 0)) (.seq (.asg 7 (.bin .Mod (.pk 4) (.bi .len (.cons (.pk 0) (.nil))))) (.seq (.asg 5 (.bi .int (.cons (.ix (.pk 0) (.pk 7)) (.nil)))) (.seq (.iff (.bop .And (.cmp .GtE (.pk 5) (.bin .Pow (.int 10) (.int 18))) (.one .And (.cmp .Gt (.ix (.pk 2) (.pk 7)) (.int 0)))) (.seq (.exp (.app 3 (.bin .Mod (.bi .int (.cons (.ix (.pk 2) (.pk 7)) (.nil))) (.int 1000003)))) (.seq (.sti 2 (.pk 7) (.bin .FloorDiv (.bi .int (.cons (.ix (.pk 2) (.pk 7)) (.nil))) (.int 1000003))) (.seq (.cnt) (.skip)))) (.skip)) (.skip)))) (.skip)) (.seq (.asg 6 (.bin .Mod (.bi .int (.cons (.bin .Add (.bin .Add (.bin .Mult (.pk 5) (.int 48271)) (.bin .Mult (.pk 4) (.int 69621))) (.int 11)) (.nil))) (.int 2147483647))) (.seq (.asg 6 (.bin .Mod (.bi .int (.cons (.bin .Add (.bin .FloorDiv (.bin .Mult (.pk 6) (.pk 6)) (.int 4096)) (.pk 6)) (.nil))) (.int 2147483629))) (.seq (.exp (.app 3 (.bin .Mod (.bi .int (.cons (.bin .Add (.bin .FloorDiv (.bin .Mult (.pk 6) (.pk 6)) (.int 4096)) (.bin .Mult (.pk 4) (.int 7919))) (.nil))) (.int 2147483629)))) (.skip))))))) (.seq (.ret (.var 3)) (.skip))))
def d_law_draws : Def := ⟨2, 8, [], c_law_draws⟩
def c_law_take : S := .seq (.asg 2 (.ix (.pk 0) (.int 1))) (.seq (.sti 0 (.int 1) (.bin .Add (.pk 2) (.int 1))) (.seq (.asg 3 (.ix (.pk 0) (.int 0))) (.seq (.iff (.cmp .GtE (.pk 2) (.bi .len (.cons (.pk 3) (.nil)))) (.seq (.ret (.int 0)) (.skip)) (.skip)) (.seq (.ret (.bin .Mod (.bin .FloorDiv (.bi .int (.cons (.ix (.pk 3) (.pk 2)) (.nil))) (.int 7)) (.pk 1))) (.skip)))))
def d_law_take : Def := ⟨2, 4, [0], c_law_take⟩
theorem run_take (o : Orc) (ds : List Int) (p : Nat) (m : Int) (hm : 0 < m) : ∃ v, 0 ≤ v ∧ v < m ∧ runD o d_law_take [hd ds p, .fz (.int m)] = .ok (.pl (.int v), [hd ds (p + 1), .un]) := by
  by_cases hp : p < ds.length
  · refine ⟨ds[p] / 7 % m, Int.emod_nonneg _ (by omega), Int.emod_lt_of_pos _ hm, ?_⟩
    have h1 : atI (ds.map D.int) (p : Int) = some (.int ds[p]) := atI_nat (by simp [hp])
    have h2 : ¬ ((ds.length : Int) ≤ (p : Int)) := by omega
    have e0 : atI [D.lst (ds.map D.int), D.int p] 1 = some (.int p) := rfl
    have e1 : ixN 2 1 = some 1 := rfl
    have e2 : atI [D.lst (ds.map D.int), D.int ((p : Int) + 1)] 0 = some (D.lst (ds.map D.int)) := rfl
    have d7 : ∀ i : Int, divD (.int i) (.int 7) = some (.pl (.int (i / 7))) := fun i => div_p (by decide)
    have dm : ∀ i : Int, modD (.int i) (.int m) = some (.pl (.int (i % m))) := fun i => mod_p hm
    simp only [d_law_take, c_law_take]
    walk_at "ev"
  · refine ⟨0, Int.le_refl _, hm, ?_⟩
    have h2 : ((ds.length : Int) ≤ (p : Int)) := by omega
    have e0 : atI [D.lst (ds.map D.int), D.int p] 1 = some (.int p) := rfl
    have e1 : ixN 2 1 = some 1 := rfl
    have e2 : atI [D.lst (ds.map D.int), D.int ((p : Int) + 1)] 0 = some (D.lst (ds.map D.int)) := rfl
    have d7 : ∀ i : Int, divD (.int i) (.int 7) = some (.pl (.int (i / 7))) := fun i => div_p (by decide)
    have dm : ∀ i : Int, modD (.int i) (.int m) = some (.pl (.int (i % m))) := fun i => mod_p hm
    simp only [d_law_take, c_law_take]
    walk_at "ev"

def c_tail : S := (.seq (.asg 6 (.bin .Mod (.bi .int (.cons (.bin .Add (.bin .Add (.bin .Mult (.pk 5) (.int 48271)) (.bin .Mult (.pk 4) (.int 69621))) (.int 11)) (.nil))) (.int 2147483647))) (.seq (.asg 6 (.bin .Mod (.bi .int (.cons (.bin .Add (.bin .FloorDiv (.bin .Mult (.pk 6) (.pk 6)) (.int 4096)) (.pk 6)) (.nil))) (.int 2147483629))) (.seq (.exp (.app 3 (.bin .Mod (.bi .int (.cons (.bin .Add (.bin .FloorDiv (.bin .Mult (.pk 6) (.pk 6)) (.int 4096)) (.bin .Mult (.pk 4) (.int 7919))) (.nil))) (.int 2147483629)))) (.skip))))
def c_iff : S := (.iff (.cmp .Gt (.bi .len (.cons (.pk 0) (.nil))) (.int 0)) (.seq (.asg 7 (.bin .Mod (.pk 4) (.bi .len (.cons (.pk 0) (.nil))))) (.seq (.asg 5 (.bi .int (.cons (.ix (.pk 0) (.pk 7)) (.nil)))) (.seq (.iff (.bop .And (.cmp .GtE (.pk 5) (.bin .Pow (.int 10) (.int 18))) (.one .And (.cmp .Gt (.ix (.pk 2) (.pk 7)) (.int 0)))) (.seq (.exp (.app 3 (.bin .Mod (.bi .int (.cons (.ix (.pk 2) (.pk 7)) (.nil))) (.int 1000003)))) (.seq (.sti 2 (.pk 7) (.bin .FloorDiv (.bi .int (.cons (.ix (.pk 2) (.pk 7)) (.nil))) (.int 1000003))) (.seq (.cnt) (.skip)))) (.skip)) (.skip)))) (.skip))
theorem run_tail (o : Orc) (a b : D) (rs ds : List D) (k c : Int) (s6 s7 : Sl) (h : ds.length < sizeLine) : ∃ x y : Int, evS o [] c_tail [.fz a, .fz b, .ow rs, .ow ds, .fz (.int k), .fz (.int c), s6, s7] = .ok (.nx, [.fz a, .fz b, .ow rs, .ow (ds ++ [.int x]), .fz (.int k), .fz (.int c), .fz (.int y), s7]) := by
  have m1 : ∀ i : Int, mulD (.int i) (.int 48271) = some (.pl (.int (i * 48271))) := fun i => mul_r (by decide)
  have m2 : ∀ i : Int, mulD (.int i) (.int 69621) = some (.pl (.int (i * 69621))) := fun i => mul_r (by decide)
  have m3 : ∀ i : Int, mulD (.int i) (.int 7919) = some (.pl (.int (i * 7919))) := fun i => mul_r (by decide)
  have d1 : ∀ i : Int, modD (.int i) (.int 2147483647) = some (.pl (.int (i % 2147483647))) := fun i => mod_p (by decide)
  have d2 : ∀ i : Int, modD (.int i) (.int 2147483629) = some (.pl (.int (i % 2147483629))) := fun i => mod_p (by decide)
  have d3 : ∀ i : Int, divD (.int i) (.int 4096) = some (.pl (.int (i / 4096))) := fun i => div_p (by decide)
  have q1 : ∀ i : Int, mulD (.int (i % 2147483647)) (.int (i % 2147483647)) = some (.pl (.int (i % 2147483647 * (i % 2147483647)))) := fun i => mul_l (by omega)
  have q2 : ∀ i : Int, mulD (.int (i % 2147483629)) (.int (i % 2147483629)) = some (.pl (.int (i % 2147483629 * (i % 2147483629)))) := fun i => mul_l (by omega)
  let y1 := (c * 48271 + k * 69621 + 11) % 2147483647
  let y2 := (y1 * y1 / 4096 + y1) % 2147483629
  refine ⟨(y2 * y2 / 4096 + k * 7919) % 2147483629, y2, ?_⟩
  simp only [c_tail, y1, y2]
  simp [evS, evE, evA, evT, gS, R.bind_ok, R.ofO_some, dv, dvs, cv, cvs, binD, addD, biD, putS, slV, m1, m2, m3, d1, d2, d3, q1, q2, h]
theorem run_iff (o : Orc) (ns rs ds : List Int) (b : D) (k : Nat) (s6 s7 : Sl) (hr : rs.length = ns.length) (h : ds.length < sizeLine) : ∃ (s5' s7' : Sl),
    (∃ c : Int, s5' = .fz (.int c) ∧ evS o [] c_iff [.fz (scr ns), .fz b, .ow (rs.map .int), .ow (ds.map .int), .fz (.int k), .fz (.int k), s6, s7] = .ok (.nx, [.fz (scr ns), .fz b, .ow (rs.map .int), .ow (ds.map .int), .fz (.int k), s5', s6, s7'])) ∨
    ∃ (rs' : List Int) (x : Int), rs'.length = ns.length ∧ evS o [] c_iff [.fz (scr ns), .fz b, .ow (rs.map .int), .ow (ds.map .int), .fz (.int k), .fz (.int k), s6, s7] = .ok (.ct, [.fz (scr ns), .fz b, .ow (rs'.map .int), .ow ((ds ++ [x]).map .int), .fz (.int k), s5', s6, s7']) := by
  cases hn : ns with
  | nil =>
    refine ⟨.fz (.int k), s7, .inl ⟨k, rfl, ?_⟩⟩
    rfl
  | cons n0 r =>
  rw [← hn]
  have hpos : 0 < ns.length := by rw [hn]; simp
  obtain ⟨j, hj, em⟩ : ∃ j : Nat, j < ns.length ∧ (k : Int) % (ns.length : Int) = (j : Int) := ⟨k % ns.length, Nat.mod_lt _ hpos, by simp⟩
  have e1 : ns.isEmpty = false := by rw [hn]; rfl
  have x1 : modD (.int k) (.int (ns.length : Int)) = some (.pl (.int j)) := by rw [mod_p (by omega), em]
  have x2 : atI (ns.map D.int) (j : Int) = some (.int ns[j]) := atI_nat (by simp [hj])
  have hjr : j < rs.length := by omega
  have x3 : atI (rs.map D.int) (j : Int) = some (.int rs[j]) := atI_nat (by simp [hjr])
  have x4 : ixN rs.length (j : Int) = some j := by unfold ixN; rw [if_pos (Int.natCast_nonneg _), if_pos (by omega)]; simp
  have d1 : ∀ i : Int, modD (.int i) (.int 1000003) = some (.pl (.int (i % 1000003))) := fun i => mod_p (by decide)
  have d3 : ∀ i : Int, divD (.int i) (.int 1000003) = some (.pl (.int (i / 1000003))) := fun i => div_p (by decide)
  have hp : (0 : Int) < (ns.length : Int) := by omega
  have pw : powD (.int 10) (.int 18) = some (.pl (.int 1000000000000000000)) := rfl
  have hne : ns ≠ [] := by rw [hn]; simp
  by_cases hc : 1000000000000000000 ≤ ns[j] ∧ 0 < rs[j]
  · refine ⟨.fz (.int ns[j]), .fz (.int j), .inr ⟨rs.set j (rs[j] / 1000003), rs[j] % 1000003, by simpa using hr, ?_⟩⟩
    simp only [c_iff]
    simp [evS, evE, evA, evT, gS, R.bind_ok, R.ofO_some, dv, dvs, cv, cvs, binD, addD, biD, putS, slV, truD, cmpD, ordD, b2v, lenD, ixV, ixD, scr, x1, x2, x3, x4, d1, d3, hpos, hne, pw, hc.1, hc.2, h, List.map_set]
  · refine ⟨.fz (.int ns[j]), .fz (.int j), .inl ⟨ns[j], rfl, ?_⟩⟩
    simp only [c_iff]
    by_cases h1 : 1000000000000000000 ≤ ns[j]
    · have h2 : ¬ 0 < rs[j] := fun z => hc ⟨h1, z⟩
      simp [evS, evE, evA, evT, gS, R.bind_ok, R.ofO_some, dv, dvs, cv, cvs, binD, addD, biD, putS, slV, truD, cmpD, ordD, b2v, lenD, ixV, ixD, scr, x1, x2, x3, x4, d1, d3, hpos, hne, pw, h1, h2]
    · simp [evS, evE, evA, evT, gS, R.bind_ok, R.ofO_some, dv, dvs, cv, cvs, binD, addD, biD, putS, slV, truD, cmpD, ordD, b2v, lenD, ixV, ixD, scr, x1, x2, x3, x4, d1, d3, hpos, hne, pw, h1]
theorem run_draws (o : Orc) (ns : List Int) (N : Nat) (hN : N ≤ 1000) (hl : ns.length ≤ 63) : ∃ ds : List Int, ds.length = N ∧ runD o d_law_draws [.fz (scr ns), .fz (.int N)] = .ok (.pl (.lst (ds.map .int)), [.un, .un]) := by
  have hsz : (1000 : Nat) < sizeLine := by decide
  have st1 : evE o [] (.lc [5] (.nm 5) .seq (.sole (.var 0)) (.yes) (.bi .abs (.cons (.bi .int (.cons (.pk 5) (.nil))) (.nil)))) [.fz (scr ns), .fz (.int N), .un, .un, .un, .un, .un, .un] =
      .ok (.fr ((ns.map D.int).map fun d => match d with | .int i => .int (if i < 0 then -i else i) | d => d), [.fz (scr ns), .fz (.int N), .un, .un, .un, .un, .un, .un]) :=
    lc_pure _ rfl rfl rfl rfl (by simp; omega) (fun d hd => by obtain ⟨i, _, rfl⟩ := List.mem_map.mp hd; exact ⟨_, _, _, rfl, rfl, rfl, rfl⟩) rfl
  have e1 : ((ns.map D.int).map fun d => match d with | .int i => D.int (if i < 0 then -i else i) | d => d) = (ns.map fun i => if i < 0 then -i else i).map .int := by simp [Function.comp_def]
  rw [e1] at st1
  let P : Nat → En → Prop := fun i δ => ∃ (rs ds : List Int) (s4 s5 s6 s7 : Sl), δ = [.fz (scr ns), .fz (.int N), .ow (rs.map .int), .ow (ds.map .int), s4, s5, s6, s7] ∧ rs.length = ns.length ∧ ds.length = i
  have itE : itD .rng1 [D.int (N : Int)] = some ((List.range ((N : Int)).toNat).map fun (i : Nat) => .int (0 + (i : Int))) := by
    simp only [itD]; rw [if_pos]; omega
  obtain ⟨δ', q1, rs, ds, s4, s5, s6, s7, rfl, h5, h6⟩ := for_run (o := o) (bd := []) (tg := .nm 4) (k := .rng1) (is := .sole (.var 1)) (b := (.seq (.asg 5 (.var 4)) (.seq (.iff (.cmp .Gt (.bi .len (.cons (.pk 0) (.nil))) (.int 0)) (.seq (.asg 7 (.bin .Mod (.pk 4) (.bi .len (.cons (.pk 0) (.nil))))) (.seq (.asg 5 (.bi .int (.cons (.ix (.pk 0) (.pk 7)) (.nil)))) (.seq (.iff (.bop .And (.cmp .GtE (.pk 5) (.bin .Pow (.int 10) (.int 18))) (.one .And (.cmp .Gt (.ix (.pk 2) (.pk 7)) (.int 0)))) (.seq (.exp (.app 3 (.bin .Mod (.bi .int (.cons (.ix (.pk 2) (.pk 7)) (.nil))) (.int 1000003)))) (.seq (.sti 2 (.pk 7) (.bin .FloorDiv (.bi .int (.cons (.ix (.pk 2) (.pk 7)) (.nil))) (.int 1000003))) (.seq (.cnt) (.skip)))) (.skip)) (.skip)))) (.skip)) (.seq (.asg 6 (.bin .Mod (.bi .int (.cons (.bin .Add (.bin .Add (.bin .Mult (.pk 5) (.int 48271)) (.bin .Mult (.pk 4) (.int 69621))) (.int 11)) (.nil))) (.int 2147483647))) (.seq (.asg 6 (.bin .Mod (.bi .int (.cons (.bin .Add (.bin .FloorDiv (.bin .Mult (.pk 6) (.pk 6)) (.int 4096)) (.pk 6)) (.nil))) (.int 2147483629))) (.seq (.exp (.app 3 (.bin .Mod (.bi .int (.cons (.bin .Add (.bin .FloorDiv (.bin .Mult (.pk 6) (.pk 6)) (.int 4096)) (.bin .Mult (.pk 4) (.int 7919))) (.nil))) (.int 2147483629)))) (.skip)))))))
    (δ := [.fz (scr ns), .fz (.int N), .ow ((ns.map fun i => if i < 0 then -i else i).map .int), .ow [], .un, .un, .un, .un]) P rfl rfl itE ⟨_, [], .un, .un, .un, .un, rfl, by simp, rfl⟩ (by
      rintro i d δ hi ⟨rs, ds, s4, s5, s6, s7, rfl, h5, h6⟩
      obtain ⟨rfl, hi⟩ := rng_at hi
      refine ⟨[.fz (scr ns), .fz (.int N), .ow (rs.map .int), .ow (ds.map .int), .fz (.int i), s5, s6, s7], ?_⟩
      have hds : ds.length < sizeLine := by omega
      have a0 : evS o [] (.asg 5 (.var 4)) [.fz (scr ns), .fz (.int N), .ow (rs.map .int), .ow (ds.map .int), .fz (.int i), s5, s6, s7] = .ok (.nx, [.fz (scr ns), .fz (.int N), .ow (rs.map .int), .ow (ds.map .int), .fz (.int i), .fz (.int i), s6, s7]) := rfl
      obtain ⟨s5', s7', ⟨c, rfl, q⟩ | ⟨rs', x, hr', q⟩⟩ := run_iff o ns rs ds (.int N) i s6 s7 h5 hds
      · obtain ⟨x, y, q2⟩ := run_tail o (scr ns) (.int N) (rs.map .int) (ds.map .int) i c s6 s7' (by simpa using hds)
        refine ⟨_, rfl, .inl ((seq_nx a0).trans ((seq_nx q).trans q2)), rs, ds ++ [x], .fz (.int i), .fz (.int c), .fz (.int y), s7', by simp, h5, by simp [h6]⟩
      · exact ⟨_, rfl, .inr ((seq_nx a0).trans (seq_ct q)), rs', ds ++ [x], _, _, _, _, rfl, hr', by simp [h6]⟩)
  refine ⟨ds, by rw [h6]; simp, ?_⟩
  have b0 : evS o [] c_law_draws [.fz (scr ns), .fz (.int N), .un, .un, .un, .un, .un, .un] = .ok (.rt (.pl (.lst (ds.map .int))), [.fz (scr ns), .fz (.int N), .ow (rs.map .int), .fz (.lst (ds.map .int)), s4, s5, s6, s7]) := by
    rw [c_law_draws, seq_nx (asg_of st1 rfl), seq_nx (asg_of (v := .fr []) (δ2 := [.fz (scr ns), .fz (.int N), .ow ((ns.map fun i => if i < 0 then -i else i).map .int), .ow [], .un, .un, .un, .un]) rfl rfl), seq_nx q1]
    rfl
  exact runD_rt ⟨rfl, rfl⟩ b0 (by show 2 ≤ 8; decide) True.intro

def SpTake (o : Orc) (i : Nat) : Prop := ∀ (ds : List Int) (p : Nat) (m : Int), 0 < m → ∃ v, 0 ≤ v ∧ v < m ∧ o.cl i [hd ds p, .fz (.int m)] = .ok (.pl (.int v), [hd ds (p + 1), .un])
end U
/-! all rows of a size -/
namespace U
open PySem L2 B
def c_law_every : S := .seq (.asg 1 (.lst (.cons (.tup (.nil)) (.nil)))) (.seq (.for_ (.nm 2) .rng1 (.sole (.var 0)) (.seq (.asg 3 (.lst (.nil))) (.seq (.for_ (.nm 4) .seq (.sole (.var 1)) (.seq (.asg 3 (.bin .Add (.pk 3) (.lst (.cons (.bin .Add (.pk 4) (.tup (.cons (.int 0) (.nil)))) (.cons (.bin .Add (.pk 4) (.tup (.cons (.int 1) (.nil)))) (.nil)))))) (.skip))) (.seq (.asg 1 (.var 3)) (.skip))))) (.seq (.ret (.var 1)) (.skip)))
def d_law_every : Def := ⟨1, 5, [], c_law_every⟩
def two (r : List Int) : List (List Int) := [r ++ [0], r ++ [1]]
def every : Nat → List (List Int)
  | 0 => [[]]
  | k + 1 => (every k).flatMap two
theorem two_len (E : List (List Int)) : (E.flatMap two).length = 2 * E.length := by
  induction E with
  | nil => rfl
  | cons r E ih => simp [List.flatMap_cons, two, ih]; omega
theorem every_len : ∀ k, (every k).length = 2 ^ k
  | 0 => rfl
  | k + 1 => by rw [every, two_len, every_len k, Nat.pow_succ]; omega
theorem every_row : ∀ k, ∀ r ∈ every k, r.length = k ∧ ∀ v ∈ r, v = 0 ∨ v = 1
  | 0, r, h => by
    have : r = [] := by simpa [every] using h
    subst this
    exact ⟨rfl, fun v h => nomatch h⟩
  | k + 1, r, h => by
    obtain ⟨q, hq, hr⟩ := List.mem_flatMap.mp h
    obtain ⟨a, b⟩ := every_row k q hq
    have hr : r = q ++ [0] ∨ r = q ++ [1] := by simpa [two] using hr
    rcases hr with rfl | rfl
    · exact ⟨by simp [a], fun v hv => by rcases List.mem_append.mp hv with h | h; exact b v h; exact .inl (by simpa using h)⟩
    · exact ⟨by simp [a], fun v hv => by rcases List.mem_append.mp hv with h | h; exact b v h; exact .inr (by simpa using h)⟩
theorem every_in (o : Orc) (m k : D) (E : List (List Int)) (s4 : Sl) (hE : 2 * E.length ≤ sizeLine) (hr' : ∀ r ∈ E, r.length < 1000) : ∃ s4', evS o [] (.for_ (.nm 4) .seq (.sole (.var 1)) (.seq (.asg 3 (.bin .Add (.pk 3) (.lst (.cons (.bin .Add (.pk 4) (.tup (.cons (.int 0) (.nil)))) (.cons (.bin .Add (.pk 4) (.tup (.cons (.int 1) (.nil)))) (.nil)))))) (.skip)))
    [.fz m, .fz (.lst (E.map tupI)), .fz k, .ow [], s4] = .ok (.nx, [.fz m, .fz (.lst (E.map tupI)), .fz k, .ow ((E.flatMap two).map tupI), s4']) := by
  obtain ⟨δ', q1, s2, q2⟩ := for_run (o := o) (bd := []) (tg := .nm 4) (k := .seq) (is := .sole (.var 1)) (b := (.seq (.asg 3 (.bin .Add (.pk 3) (.lst (.cons (.bin .Add (.pk 4) (.tup (.cons (.int 0) (.nil)))) (.cons (.bin .Add (.pk 4) (.tup (.cons (.int 1) (.nil)))) (.nil)))))) (.skip)))
    (δ := [.fz m, .fz (.lst (E.map tupI)), .fz k, .ow [], s4]) (δ1 := [.fz m, .fz (.lst (E.map tupI)), .fz k, .ow [], s4]) (items := E.map tupI) (fun i δ => ∃ s4, δ = [.fz m, .fz (.lst (E.map tupI)), .fz k, .ow (((E.take i).flatMap two).map tupI), s4]) rfl rfl rfl ⟨s4, rfl⟩ (by
      rintro i x δ hi ⟨s4, rfl⟩
      rw [List.getElem?_map] at hi
      cases hr : E[i]? with
      | none => rw [hr] at hi; cases hi
      | some r =>
      rw [hr] at hi
      cases hi
      refine ⟨[.fz m, .fz (.lst (E.map tupI)), .fz k, .ow (((E.take i).flatMap two).map tupI), .fz (tupI r)], _, rfl, .inl ?_, .fz (tupI r), rfl⟩
      have e : ((E.take (i + 1)).flatMap two).map tupI = ((E.take i).flatMap two).map tupI ++ [.tup (r.map .int ++ [.int 0]), .tup (r.map .int ++ [.int 1])] := by
        rw [List.take_add_one, hr, List.flatMap_append, List.map_append]; simp [two, tupI]
      have hl : (((E.take i).flatMap two).map tupI).length + 2 ≤ sizeLine := by
        rw [List.length_map, two_len, List.length_take]
        obtain ⟨hi, _⟩ := List.getElem?_eq_some_iff.mp hr
        omega
      rw [e]
      have hlr : (r.map D.int).length + 1 ≤ sizeLine := by
        rw [List.length_map]
        have := hr' r (List.mem_of_getElem? hr)
        have : (1000 : Nat) ≤ sizeLine := by decide
        omega
      have q (x : Int) : evE o [] (.bin .Add (.pk 4) (.tup (.cons (.int x) (.nil)))) [.fz m, .fz (.lst (E.map tupI)), .fz k, .ow (((E.take i).flatMap two).map tupI), .fz (tupI r)] = .ok (.pl (.tup (r.map .int ++ [.int x])), [.fz m, .fz (.lst (E.map tupI)), .fz k, .ow (((E.take i).flatMap two).map tupI), .fz (tupI r)]) :=
        bin_of rfl (tup_of rfl rfl (by show 1 ≤ sizeLine; decide)) rfl rfl (badd_t hlr)
      exact (seq_nx (asg_of (bin_of (v := .al 3) rfl (lst_of (cons_of (q 0) (cons_of (q 1) nil_of)) rfl (by show 2 ≤ sizeLine; decide)) rfl rfl (badd_l hl)) rfl)).trans rfl)
  refine ⟨s2, ?_⟩
  rw [q1, q2, List.take_of_length_le (by simp)]

theorem run_every (o : Orc) (m : Nat) (hm : m ≤ 8) : runD o d_law_every [.fz (.int m)] = .ok (.pl (.lst ((every m).map tupI)), [.un]) := by
  have z8 : ∀ k, k ≤ 8 → 2 * (every k).length ≤ sizeLine := fun k hk => by
    rw [every_len]
    have h1 : 2 ^ k ≤ 2 ^ 8 := Nat.pow_le_pow_right (by decide) hk
    have h2 : 2 * 2 ^ 8 ≤ sizeLine := by decide
    omega
  have itE : itD .rng1 [D.int (m : Int)] = some ((List.range ((m : Int)).toNat).map fun (i : Nat) => .int (0 + (i : Int))) := by
    simp only [itD]; rw [if_pos]; omega
  obtain ⟨δ', q1, s2, s3, s4, s1, e1, q2⟩ := for_run (o := o) (bd := []) (tg := .nm 2) (k := .rng1) (is := .sole (.var 0)) (b := (.seq (.asg 3 (.lst (.nil))) (.seq (.for_ (.nm 4) .seq (.sole (.var 1)) (.seq (.asg 3 (.bin .Add (.pk 3) (.lst (.cons (.bin .Add (.pk 4) (.tup (.cons (.int 0) (.nil)))) (.cons (.bin .Add (.pk 4) (.tup (.cons (.int 1) (.nil)))) (.nil)))))) (.skip))) (.seq (.asg 1 (.var 3)) (.skip)))))
    (δ := [.fz (.int m), .ow [.tup []], .un, .un, .un]) (δ1 := [.fz (.int m), .ow [.tup []], .un, .un, .un])
    (fun i δ => ∃ s2 s3 s4 s1, (s1 = .fz (.lst ((every i).map tupI)) ∨ s1 = .ow ((every i).map tupI)) ∧ δ = [.fz (.int m), s1, s2, s3, s4]) rfl rfl itE ⟨.un, .un, .un, .ow [.tup []], .inr rfl, rfl⟩ (by
      rintro i x δ hi ⟨s2, s3, s4, s1, e1, rfl⟩
      obtain ⟨rfl, hi⟩ := rng_at hi
      have hi' : i ≤ 8 := by omega
      obtain ⟨s4', q⟩ := every_in o (.int m) (.int i) (every i) s4 (z8 i hi') (fun r hr => by have := (every_row i r hr).1; omega)
      have q' : evS o [] (.for_ (.nm 4) .seq (.sole (.var 1)) (.seq (.asg 3 (.bin .Add (.pk 3) (.lst (.cons (.bin .Add (.pk 4) (.tup (.cons (.int 0) (.nil)))) (.cons (.bin .Add (.pk 4) (.tup (.cons (.int 1) (.nil)))) (.nil)))))) (.skip))) [.fz (.int m), s1, .fz (.int i), .ow [], s4] = .ok (.nx, [.fz (.int m), .fz (.lst ((every i).map tupI)), .fz (.int i), .ow ((every (i + 1)).map tupI), s4']) := by
        rcases e1 with rfl | rfl
        · exact q
        · exact q
      refine ⟨[.fz (.int m), s1, .fz (.int i), s3, s4], _, rfl, .inl ?_, .fz (.int i), .fz (.lst ((every (i + 1)).map tupI)), s4', .fz (.lst ((every (i + 1)).map tupI)), .inl rfl, rfl⟩
      exact (asg_seq (lst_of rfl rfl (Nat.zero_le _)) rfl).trans ((seq_nx q').trans ((asg_seq rfl rfl).trans rfl)))
  rw [List.length_map, List.length_range, Int.toNat_natCast] at e1
  have b0 : ∃ δ, evS o [] c_law_every [.fz (.int m), .un, .un, .un, .un] = .ok (.rt (.pl (.lst ((every m).map tupI))), δ) ∧ 1 ≤ δ.length := by
    subst q2
    refine ⟨[.fz (.int m), .fz (.lst ((every m).map tupI)), s2, s3, s4], ?_, by show 1 ≤ 5; decide⟩
    refine (asg_seq (lst_of rfl rfl (by show 1 ≤ sizeLine; decide)) rfl).trans ((seq_nx q1).trans ?_)
    rcases e1 with rfl | rfl <;> exact ret_seq rfl rfl
  obtain ⟨δ, b0, bl⟩ := b0
  exact runD_rt ⟨rfl, rfl⟩ b0 bl True.intro
def SpEvery (o : Orc) (i : Nat) : Prop := ∀ m : Nat, m ≤ 8 → o.cl i [.fz (.int m)] = .ok (.pl (.lst ((every m).map tupI)), [.un])
end U
/-! tables, made rows -/
namespace U
open PySem L2 B
structure Tbl (t : List Int) (m : Nat) : Prop where
  len : t.length = 2 ^ m
  bit : ∀ v ∈ t, v = 0 ∨ v = 1
theorem place_snoc (q : List Int) (v : Int) : placeI (q ++ [v]) = 2 * placeI q + v := by simp [placeI]
theorem place_lt : ∀ (k : Nat) (r : List Int), r.length = k → (∀ v ∈ r, v = 0 ∨ v = 1) → 0 ≤ placeI r ∧ placeI r < 2 ^ k
  | 0, r, h, _ => by
    have : r = [] := List.length_eq_zero_iff.mp h
    subst this
    exact ⟨by decide, by decide⟩
  | k + 1, r, h, hb => by
    rcases List.eq_nil_or_concat r with rfl | ⟨q, v, rfl⟩
    · simp at h
    · rw [List.concat_eq_append] at *
      obtain ⟨a, b⟩ := place_lt k q (by simpa using h) fun x hx => hb x (List.mem_append_left _ hx)
      have hv := hb v (by simp)
      rw [place_snoc, Int.pow_succ]
      omega
theorem two_at : ∀ (E : List (List Int)) (i : Nat), (E.flatMap two)[i]? = (E[i / 2]?).map fun q => q ++ [((i % 2 : Nat) : Int)]
  | [], i => by simp
  | q :: E, 0 => rfl
  | q :: E, 1 => rfl
  | q :: E, i + 2 => by
    have h1 : (i + 2) / 2 = i / 2 + 1 := by omega
    have h2 : (i + 2) % 2 = i % 2 := by omega
    rw [h1, h2]
    show ((two q ++ E.flatMap two))[i + 2]? = ((q :: E)[i / 2 + 1]?).map _
    rw [List.getElem?_cons_succ, ← two_at E i]
    rfl
theorem every_place : ∀ (k i : Nat) (r : List Int), (every k)[i]? = some r → placeI r = (i : Int)
  | 0, i, r, h => by
    cases i with
    | zero =>
      have : [] = r := by simpa [every] using h
      subst this; rfl
    | succ i => simp [every] at h
  | k + 1, i, r, h => by
    rw [every, two_at] at h
    cases e : (every k)[i / 2]? with
    | none => rw [e] at h; cases h
    | some q =>
      rw [e] at h
      cases h
      rw [place_snoc, every_place k (i / 2) q e]
      omega
/-- t[the row's place] -/
def SpWorth (o : Orc) (i : Nat) : Prop := ∀ (t : List Int) (d : D) (row : List Int), seqOf d = some (row.map .int) → ∀ (j : Nat) (x : Int), placeI row = (j : Int) → t[j]? = some x → o.cl i [.fz (tupI t), .fz d] = .ok (.pl (.int x), [.un, .un])
theorem u_worth {o : Orc} {i : Nat} (h : SpPlace o i) : ∀ (t : List Int) (d : D) (row : List Int), seqOf d = some (row.map .int) → ∀ (j : Nat) (x : Int), placeI row = (j : Int) → t[j]? = some x → runD o ⟨2, 2, [], k_worth i⟩ [.fz (tupI t), .fz d] = .ok (.pl (.int x), [.un, .un]) := fun t d row hd' j x hp hx => by
  have h := h d row hd'
  rw [hp] at h
  have hz : ixD (tupI t) (.int (j : Int)) = some (.int x) := by
    show atI (t.map D.int) (j : Int) = _
    exact atI_nat (by rw [List.getElem?_map, hx]; rfl)
  have hc : evE o [] (.cal i (.cons (.var 1) (.nil))) [.fz (tupI t), .fz d] = .ok (.pl (.int j), [.fz (tupI t), .fz d]) := cal_of rfl (by exact List.nodup_nil) h rfl
  have hb : evS o [] (k_worth i) [.fz (tupI t), .fz d] = .ok (.rt (.pl (.int x)), [.fz (tupI t), .fz d]) := ret_seq (ix_of rfl hc rfl rfl hz) rfl
  exact runD_ok ⟨rfl, rfl⟩ hb (by show 2 ≤ 2; decide) True.intro rfl
/-- the j-th values of the rows -/
def col (rows : List (List Int)) (j : Nat) : List Int := rows.map fun r => r.getD j 0
def madeL (t : List Int) (rows : List (List Int)) (size : Nat) : List Int := (List.range size).map fun j => t.getD (placeI (col rows j)).toNat 0
structure Rws (rows : List (List Int)) (m size : Nat) : Prop where
  num : rows.length = m
  len : ∀ r ∈ rows, r.length = size
  bit : ∀ r ∈ rows, ∀ v ∈ r, v = 0 ∨ v = 1
theorem col_ok {rows : List (List Int)} {m size : Nat} (R : Rws rows m size) {j : Nat} (hj : j < size) : (col rows j).length = m ∧ ∀ v ∈ col rows j, v = 0 ∨ v = 1 := by
  refine ⟨by simp [col, R.num], fun v hv => ?_⟩
  obtain ⟨r, hr, rfl⟩ := List.mem_map.mp hv
  have hl := R.len r hr
  rw [List.getD_eq_getElem?_getD, List.getElem?_eq_getElem (by omega)]
  exact R.bit r hr _ (List.getElem_mem _)
theorem col_at {t : List Int} {rows : List (List Int)} {m size : Nat} (T : Tbl t m) (R : Rws rows m size) {j : Nat} (hj : j < size) : ∃ q : Nat, placeI (col rows j) = (q : Int) ∧ t[q]? = some (t.getD (placeI (col rows j)).toNat 0) := by
  obtain ⟨h1, h2⟩ := col_ok R hj
  obtain ⟨a, b⟩ := place_lt m _ h1 h2
  obtain ⟨q, hq⟩ := Int.eq_ofNat_of_zero_le a
  refine ⟨q, hq, ?_⟩
  rw [hq] at b ⊢
  have hl : q < t.length := by
    rw [T.len]
    have : ((2 ^ m : Nat) : Int) = 2 ^ m := by simp
    omega
  rw [Int.toNat_natCast, List.getD_eq_getElem?_getD, List.getElem?_eq_getElem hl]
  rfl
theorem rows_tup : ∀ rows : List (List Int), rowsOf (rows.map tupI) = some (rows.map fun r => r.map .int)
  | [] => rfl
  | r :: rows => by
    show (some (r.map D.int)).bind _ = _
    simp [rows_tup rows]
theorem least_eq : ∀ (xss : List (List D)) (n : Nat), (∀ xs ∈ xss, xs.length = n) → leastL n xss = n
  | [], _, _ => rfl
  | xs :: r, n, h => by
    simp only [leastL]
    rw [h xs List.mem_cons_self, Nat.min_self]
    exact least_eq r n fun ys hy => h ys (List.mem_cons_of_mem _ hy)
theorem it_zip {d : D} {rows : List (List Int)} {m size : Nat} (R : Rws rows m size) (hm : 1 ≤ m) (h4 : m ≤ 4) (hd' : seqOf d = some (rows.map tupI)) : itD .zst [d] = some ((List.range size).map fun j => tupI (col rows j)) := by
  cases rows with
  | nil => have := R.num; simp at this; omega
  | cons r0 rows =>
  simp only [itD, hd', Option.bind_some, rows_tup]
  rw [if_pos (by have := R.num; simp at this ⊢; omega)]
  simp only [List.map_cons]
  have hr : (r0.map D.int).length = size := by rw [List.length_map]; exact R.len r0 List.mem_cons_self
  rw [hr, show (r0.map D.int :: rows.map fun r => r.map D.int) = (r0 :: rows).map (fun r => r.map D.int) from rfl, least_eq _ _ (fun xs hx => by
    obtain ⟨r, hm', rfl⟩ := List.mem_map.mp hx
    rw [List.length_map]; exact R.len r hm')]
  congr 1
  apply List.map_congr_left
  intro j hj
  have hj : j < size := List.mem_range.mp hj
  show D.tup _ = D.tup _
  congr 1
  rw [show (r0.map D.int).getD j .non :: (rows.map fun r => r.map D.int).map (fun xs => xs.getD j .non) = ((r0 :: rows).map (fun r => r.map D.int)).map (fun xs => xs.getD j .non) from rfl]
  rw [List.map_map, col, List.map_map]
  apply List.map_congr_left
  intro r hr
  have hl := R.len r hr
  show (r.map D.int).getD j .non = .int (r.getD j 0)
  rw [List.getD_eq_getElem?_getD, List.getD_eq_getElem?_getD, List.getElem?_map, List.getElem?_eq_getElem (by omega)]
  rfl
def SpMade (o : Orc) (i : Nat) : Prop := ∀ (t : List Int) (d : D) (rows : List (List Int)) (m size : Nat), Tbl t m → Rws rows m size → 1 ≤ m → m ≤ 4 → size ≤ 1000 → seqOf d = some (rows.map tupI) → o.cl i [.fz (tupI t), .fz d] = .ok (.pl (tupI (madeL t rows size)), [.un, .un])
theorem u_made {o : Orc} {i : Nat} (h : SpWorth o i) (t : List Int) (d : D) (rows : List (List Int)) (m size : Nat) (T : Tbl t m) (R : Rws rows m size) (hm : 1 ≤ m) (h4 : m ≤ 4) (hs : size ≤ 1000) (hd' : seqOf d = some (rows.map tupI)) : runD o ⟨2, 3, [], k_made i⟩ [.fz (tupI t), .fz d] = .ok (.pl (tupI (madeL t rows size)), [.un, .un]) := by
  have lc : evE o [] (.lc [2] (.nm 2) .zst (.sole (.var 1)) (.yes) (.cal i (.cons (.var 0) (.cons (.var 2) (.nil))))) [.fz (tupI t), .fz d, .un] =
      .ok (.fr (((List.range size).map fun j => tupI (col rows j)).map fun x => .int (t.getD (placeI ((intsOf (memD x)).getD [])).toNat 0)), [.fz (tupI t), .fz d, .un]) :=
    lc_pure _ rfl rfl (it_zip R hm h4 hd') rfl (by rw [List.length_map, List.length_range]; exact Nat.le_trans hs (by decide)) (fun x hx => by
      obtain ⟨j, hj, rfl⟩ := List.mem_map.mp hx
      have hj : j < size := List.mem_range.mp hj
      obtain ⟨q, q1, q2⟩ := col_at T R hj
      have hw := h t (tupI (col rows j)) (col rows j) rfl q _ q1 q2
      exact ⟨[.fz (tupI t), .fz d, .fz (tupI (col rows j))], [.fz (tupI t), .fz d, .fz (tupI (col rows j))], .pl (.int (t.getD (placeI (col rows j)).toNat 0)), rfl, cal_of rfl (by exact List.nodup_nil) hw rfl, by simp [cv, memD, ints_map], rfl⟩) rfl
  have e : ((List.range size).map fun j => tupI (col rows j)).map (fun x => D.int (t.getD (placeI ((intsOf (memD x)).getD [])).toNat 0)) = (madeL t rows size).map .int := by
    rw [List.map_map, madeL, List.map_map]
    apply List.map_congr_left
    intro j _
    simp [memD, ints_map]
  rw [e] at lc
  have hb : evS o [] (k_made i) [.fz (tupI t), .fz d, .un] = .ok (.rt (.pl (tupI (madeL t rows size))), [.fz (tupI t), .fz d, .un]) := ret_seq (bi1_of lc rfl rfl) rfl
  exact runD_ok ⟨rfl, rfl⟩ hb (by show 2 ≤ 3; decide) True.intro rfl

def SpTable (o : Orc) (i : Nat) : Prop := ∀ d (m : Nat), m ≤ 1000 → noObj d = true → (∀ x ∈ memD d, noObj x = true) → (memD d).length ≤ 1000 → o.cl i [.fz d, .fz (.int m)] = .ok (.pl (.bl (rowB d (2 ^ m))), [.un, .un])
theorem pow_cast (m : Nat) : (1 * 2 ^ ((m : Int)).toNat : Int) = ((2 ^ m : Nat) : Int) := by simp
theorem shl_m {m : Nat} (hm : m ≤ 1000) : binD .LShift (.int 1) (.int (m : Int)) = some (.pl (.int ((2 ^ m : Nat) : Int))) := by
  rw [bshl_p (by refine ⟨Int.natCast_nonneg _, by omega, by decide⟩), pow_cast]
theorem u_table {o : Orc} {i : Nat} (h : SpRow o i) : ∀ d (m : Nat), m ≤ 1000 → noObj d = true → (∀ x ∈ memD d, noObj x = true) → (memD d).length ≤ 1000 → runD o ⟨2, 2, [], k_table i⟩ [.fz d, .fz (.int m)] = .ok (.pl (.bl (rowB d (2 ^ m))), [.un, .un]) := fun d m hm a b c =>
  runD_ok (δ' := [.fz d, .fz (.int m)]) ⟨rfl, rfl⟩ (ret_seq (cal_of (cons_of rfl (cons_of (bin_of rfl rfl rfl rfl (shl_m hm)) nil_of)) (by exact List.nodup_nil) (h d (2 ^ m) a b c) rfl) rfl) (by show 2 ≤ 2; decide) True.intro rfl
end U
/-! odd values, and what is no table -/
namespace U
open PySem L2 B
theorem at_some {α : Type} {xs : List α} {v : Int} (h0 : 0 ≤ v) (h1 : v < xs.length) : ∃ x ∈ xs, atI xs v = some x := by
  obtain ⟨j, rfl⟩ := Int.eq_ofNat_of_zero_le h0
  have hj : j < xs.length := by omega
  exact ⟨xs[j], List.getElem_mem hj, atI_nat (List.getElem?_eq_getElem hj)⟩
structure Good (d : D) : Prop where
  a : noObj d = true
  b : ∀ x ∈ memD d, noObj x = true
  c : (memD d).length ≤ 1000
theorem good_tup {xs : List D} (h : ∀ x ∈ xs, noObj x = true) (hl : xs.length ≤ 1000) : Good (.tup xs) := ⟨rfl, h, hl⟩
theorem good_leaf {d : D} (h : noObj d = true) (h2 : memD d = []) : Good d := ⟨h, by rw [h2]; exact fun x h => (nomatch h), by rw [h2]; exact Nat.zero_le _⟩
def goodB (d : D) : Bool := noObj d && (memD d).all noObj && decide ((memD d).length ≤ 1000)
theorem good_of {d : D} (h : goodB d = true) : Good d := by
  simp only [goodB, Bool.and_eq_true, decide_eq_true_eq, List.all_eq_true] at h
  exact ⟨h.1.1, h.1.2, h.2⟩
/-- the odd values that laws draw -/
def oddL : List D := [.non, .bl true, .int (-1), .str "0", .tup [], .lst [], .int 7, .str "", .tup [.int 0], .bl false, .int (10 ^ 20)]
def k_odd (i : Nat) : S := .seq (.ret (.ix (.lst (.cons (.non) (.cons (.bl true) (.cons (.neg (.int 1)) (.cons (.str "0") (.cons (.tup (.nil)) (.cons (.lst (.nil)) (.cons (.int 7) (.cons (.str "") (.cons (.tup (.cons (.int 0) (.nil))) (.cons (.bl false) (.cons (.bin .Pow (.int 10) (.int 20)) (.nil))))))))))))) (.cal i (.cons (.pk 0) (.cons (.int 11) (.nil)))))) (.skip)
def SpOdd (o : Orc) (i : Nat) : Prop := ∀ (ds : List Int) (p : Nat), ∃ d ∈ oddL, o.cl i [hd ds p] = .ok (.pl d, [hd ds (p + 1)])
theorem u_odd {o : Orc} {i : Nat} (h : SpTake o i) (ds : List Int) (p : Nat) : ∃ d ∈ oddL, runD o ⟨1, 1, [0], k_odd i⟩ [hd ds p] = .ok (.pl d, [hd ds (p + 1)]) := by
  obtain ⟨v, h0, h1, h2⟩ := h ds p 11 (by decide)
  obtain ⟨d, hm, hd'⟩ := at_some (xs := oddL) h0 h1
  refine ⟨d, hm, ?_⟩
  have hd'' : ixD (.lst oddL) (.int v) = some d := hd'
  have hl : evE o [0] (.lst (.cons (.non) (.cons (.bl true) (.cons (.neg (.int 1)) (.cons (.str "0") (.cons (.tup (.nil)) (.cons (.lst (.nil)) (.cons (.int 7) (.cons (.str "") (.cons (.tup (.cons (.int 0) (.nil))) (.cons (.bl false) (.cons (.bin .Pow (.int 10) (.int 20)) (.nil))))))))))))) [hd ds p] = .ok (.fr oddL, [hd ds p]) := rfl
  have hc : evE o [0] (.cal i (.cons (.pk 0) (.cons (.int 11) (.nil)))) [hd ds p] = .ok (.pl (.int v), [hd ds (p + 1)]) := cal_of rfl (by exact nd1) h2 rfl
  have hb : evS o [0] (k_odd i) [hd ds p] = .ok (.rt (.pl d), [hd ds (p + 1)]) := ret_seq (ix_of hl hc rfl rfl hd'') rfl
  exact runD_ok ⟨rfl, rfl⟩ hb (by show 1 ≤ 1; decide) True.intro rfl
/-! repr of small things -/
theorem rp_dec {d : D} {n : Nat} (h : (d.pure && d.py.canLay0 && decide (d.py.depth ≤ 2) && d.py.showable && decide (d.py.shown.length ≤ n) && PyData.strOk d.py.shown) = true) : Rp d 2 n := by
  simp only [Bool.and_eq_true, decide_eq_true_eq] at h
  exact ⟨h.1.1.1.1.1, h.1.1.1.1.2, h.1.1.1.2, h.1.1.2, h.1.2, h.2⟩
theorem rp_odd : ∀ d ∈ oddL, Rp d 2 30 := by
  intro d hd
  simp only [oddL, List.mem_cons, List.not_mem_nil, or_false] at hd
  rcases hd with rfl | rfl | rfl | rfl | rfl | rfl | rfl | rfl | rfl | rfl | rfl <;> exact rp_dec (by decide +kernel)
theorem good_odd : ∀ d ∈ oddL, Good d := by
  intro d hd
  simp only [oddL, List.mem_cons, List.not_mem_nil, or_false] at hd
  rcases hd with rfl | rfl | rfl | rfl | rfl | rfl | rfl | rfl | rfl | rfl | rfl <;> exact good_of (by decide +kernel)
/-- a triple of texts and a truth -/
theorem eq_three {a b : Str} {c : Bool} (ha : PyData.strOk a = true) (hb : PyData.strOk b = true) : cmpD .Eq (.tup [.str a, .str b, .bl c]) (.tup [.str a, .str b, .bl c]) = some true := by
  have cm : (D.tup [.str a, .str b, .bl c]).cmpb = true := by
    simp [D.cmpb, D.pure, D.pures, D.py, D.pys, SeqAt.shaped, PyData.canLay0, PyData.canLayAll0, PyData.depth, PyData.depthAll, ha, hb]
  show eqD _ _ = _
  unfold eqD
  rw [cm]
  simp [D.eqv, D.py, D.pys, PyData.eqv, PyData.eqvAll]
end U
/-! rows of 0 and 1, sorted, each once -/
namespace U
open PySem L2 B
theorem rowsI_map : ∀ rows : List (List Int), rowsI (rows.map tupI) = some rows
  | [] => rfl
  | r :: rows => by simp only [List.map_cons, rowsI, ints_map, Option.bind_some, rowsI_map rows, Option.map_some]
theorem fitU_ok {d : Nat} {rows : List (List Int)} (hd : 1 ≤ d) (hl : rows.length < 64) (h0 : rows ≠ []) (h : ∀ r ∈ rows, BitsN d r) : fitU rows = true := by
  cases rows with
  | nil => exact absurd rfl h0
  | cons r0 rs =>
    have e : ((r0 :: rs).headD []).length = d := (h r0 List.mem_cons_self).1
    simp only [fitU, e, Bool.and_eq_true, decide_eq_true_eq, List.all_eq_true, beq_iff_eq]
    exact ⟨⟨hl, hd⟩, fun r hr => ⟨(h r hr).1, (h r hr).2⟩⟩
theorem sset_rows {d : Nat} {rows : List (List Int)} (hd : 1 ≤ d) (hl : rows.length < 64) (h0 : rows ≠ []) (h : ∀ r ∈ rows, BitsN d r) : ssetD (.lst (rows.map tupI)) = some (.fr ((sortU rows).map tupI)) := by
  simp only [ssetD, rowsI_map, Option.bind_some, fitU_ok hd hl h0 h, if_true]
theorem every_asc : ∀ m, m ≤ 4 → Asc (every m) := by
  intro m hm
  match m, hm with
  | 0, _ => decide +kernel
  | 1, _ => decide +kernel
  | 2, _ => decide +kernel
  | 3, _ => decide +kernel
  | 4, _ => decide +kernel
theorem every_bits {m : Nat} : ∀ r ∈ every m, BitsN m r := fun r hr => by
  obtain ⟨h1, h2⟩ := every_row m r hr
  exact ⟨h1, fun v hv => by rcases h2 v hv with h | h <;> omega⟩
theorem sortU_self {d : Nat} {l : List (List Int)} (h : ∀ r ∈ l, BitsN d r) (a : Asc l) : sortU l = l := by
  obtain ⟨s1, s2⟩ := sortU_ok h
  exact asc_eq s2 a s1
theorem bits_bit {d : Nat} {r : List Int} (h : BitsN d r) : ∀ v ∈ r, v = 0 ∨ v = 1 := fun v hv => by
  have := h.2 v hv
  omega
/-- a row is one -/
theorem row_is {m : Nat} {r : List Int} (h : BitsN m r) : rowB (tupI r) m = true := by
  have : (r.map D.int).all bitD = true := by
    rw [List.all_eq_true]
    intro x hx
    obtain ⟨v, hv, rfl⟩ := List.mem_map.mp hx
    rcases bits_bit h v hv with rfl | rfl <;> rfl
  simp only [rowB, memD, this, isTupN, List.length_map, h.1, Bool.and_true]
  simp
theorem row_at {m : Nat} {r : List Int} (h : BitsN m r) {p : Nat} (hp : p < m) : ixD (tupI r) (.int (p : Int)) = some (.int (r.getD p 0)) := by
  have hp' : p < r.length := by rw [h.1]; exact hp
  show atI (r.map D.int) (p : Int) = _
  rw [atI_nat (j := p) (v := .int (r.getD p 0))]
  rw [List.getElem?_map, List.getElem?_eq_getElem hp', List.getD_eq_getElem?_getD, List.getElem?_eq_getElem hp']
  rfl
end U
namespace Pf
open PySem L2 B
def c_wall : S := .seq (.whl (.tst (.bl true)) (.seq (.pass) (.skip))) (.skip)
def d_wall : Def := ⟨1, 1, [], c_wall⟩
def c_is_integer : S := .seq (.ret (.bop .And (.isi (.pk 0) [.int]) (.one .And (.not (.isi (.pk 0) [.bool]))))) (.skip)
def d_is_integer : Def := ⟨1, 1, [], c_is_integer⟩
def c_is_number_below : S := .seq (.ret (.bop .And (.cal 1 (.cons (.var 0) (.nil))) (.one .And (.chn .LtE .Lt (.int 0) (.pk 0) (.pk 1))))) (.skip)
def d_is_number_below : Def := ⟨2, 2, [], c_is_number_below⟩
def c_is_sequence : S := .seq (.ret (.isi (.pk 0) [.list, .tuple])) (.skip)
def d_is_sequence : Def := ⟨1, 1, [], c_is_sequence⟩
def c_is_tuple : S := .seq (.ret (.bop .And (.isi (.pk 0) [.tuple]) (.one .And (.cmp .Eq (.bi .len (.cons (.pk 0) (.nil))) (.pk 1))))) (.skip)
def d_is_tuple : Def := ⟨2, 2, [], c_is_tuple⟩
def c_is_value : S := .seq (.ret (.cal 2 (.cons (.var 0) (.cons (.int 2) (.nil))))) (.skip)
def d_is_value : Def := ⟨1, 1, [], c_is_value⟩
def c_is_row : S := .seq (.ret (.bop .And (.cal 4 (.cons (.var 0) (.cons (.var 1) (.nil)))) (.one .And (.bi .all (.cons (.lc [2] (.nm 2) .seq (.sole (.var 0)) (.yes) (.cal 5 (.cons (.var 2) (.nil)))) (.nil)))))) (.skip)
def d_is_row : Def := ⟨2, 3, [], c_is_row⟩
def c_all_rows : S := .seq (.asg 1 (.lst (.cons (.tup (.nil)) (.nil)))) (.seq (.for_ (.nm 2) .rng1 (.sole (.var 0)) (.seq (.asg 1 (.lc2 [3, 4] [4] (.nm 3) .seq (.sole (.var 1)) (.yes) (.nm 4) .seq (.sole (.tup (.cons (.int 0) (.cons (.int 1) (.nil))))) (.yes) (.bin .Add (.pk 3) (.tup (.cons (.var 4) (.nil)))))) (.skip))) (.seq (.ret (.var 1)) (.skip)))
def d_all_rows : Def := ⟨1, 5, [], c_all_rows⟩
def c_is_size : S := .seq (.ret (.bop .And (.cal 1 (.cons (.var 0) (.nil))) (.one .And (.chn .LtE .LtE (.int 1) (.pk 0) (.gl 0))))) (.skip)
def d_is_size : Def := ⟨1, 1, [], c_is_size⟩
def c_are_rows : S := .seq (.ret (.bop .And (.cal 3 (.cons (.var 0) (.nil))) (.bop .And (.cmp .Gt (.bi .len (.cons (.pk 0) (.nil))) (.int 0)) (.one .And (.bi .all (.cons (.lc [2] (.nm 2) .seq (.sole (.var 0)) (.yes) (.cal 6 (.cons (.var 2) (.cons (.var 1) (.nil))))) (.nil))))))) (.skip)
def d_are_rows : Def := ⟨2, 3, [], c_are_rows⟩
def c_fulfils : S := .seq (.iff (.cmp .Eq (.ix (.pk 1) (.int 0)) (.str "pair")) (.seq (.unp [2, 3, 4, 5, 6] (.var 1)) (.seq (.ret (.bop .Or (.cmp .NotEq (.ix (.pk 0) (.pk 3)) (.pk 5)) (.one .Or (.cmp .NotEq (.ix (.pk 0) (.pk 4)) (.pk 6))))) (.skip))) (.skip)) (.seq (.iff (.cmp .Eq (.ix (.pk 1) (.int 0)) (.str "sum")) (.seq (.unp [2, 7, 8] (.var 1)) (.seq (.ret (.cmp .Eq (.bin .Mod (.bi .sum (.cons (.lc [9] (.nm 9) .seq (.sole (.var 7)) (.yes) (.ix (.pk 0) (.pk 9))) (.nil))) (.int 2)) (.pk 8))) (.skip))) (.skip)) (.seq (.iff (.bop .And (.cmp .Eq (.bi .len (.cons (.pk 1) (.nil))) (.int 3)) (.one .And (.cmp .Eq (.ix (.pk 0) (.ix (.pk 1) (.int 2))) (.int 1)))) (.seq (.ret (.bl true)) (.skip)) (.skip)) (.seq (.ret (.bi .any (.cons (.lc [9] (.nm 9) .seq (.sole (.ix (.pk 1) (.int 1))) (.yes) (.cmp .Eq (.ix (.pk 0) (.pk 9)) (.int 0))) (.nil)))) (.skip))))
def d_fulfils : Def := ⟨2, 10, [], c_fulfils⟩
def c_told_by : S := .seq (.iff (.bop .Or (.not (.tst (.cal 1 (.cons (.var 0) (.nil))))) (.one .Or (.not (.chn .LtE .LtE (.int 1) (.pk 0) (.gl 0))))) (.seq (.rai 2 (.cons (.var 0) (.nil))) (.skip)) (.skip)) (.seq (.asg 2 (.lc [3] (.nm 3) .seq (.sole (.cal 7 (.cons (.var 0) (.nil)))) (.one .And (.tst (.cal 12 (.cons (.var 3) (.cons (.var 1) (.nil)))))) (.var 3))) (.seq (.iff (.not (.tst (.pk 2))) (.seq (.rai 4 (.cons (.str "relation") (.nil))) (.skip)) (.skip)) (.seq (.ret (.mak 0 (.cons (.var 0) (.cons (.var 2) (.nil))))) (.skip))))
def d_told_by : Def := ⟨2, 4, [], c_told_by⟩
def c_fulfils_all : S := .seq (.ret (.bi .all (.cons (.lc [2] (.nm 2) .seq (.sole (.var 1)) (.yes) (.cal 10 (.cons (.var 0) (.cons (.var 2) (.nil))))) (.nil)))) (.skip)
def d_fulfils_all : Def := ⟨2, 3, [], c_fulfils_all⟩
def c_law_draws : S := .seq (.asg 2 (.lc [5] (.nm 5) .seq (.sole (.var 0)) (.yes) (.bi .abs (.cons (.bi .int (.cons (.pk 5) (.nil))) (.nil))))) (.seq (.asg 3 (.lst (.nil))) (.seq (.for_ (.nm 4) .rng1 (.sole (.var 1)) (.seq (.asg 5 (.var 4)) (.seq (.iff (.cmp .Gt (.bi .len (.cons (.pk 0) (.nil))) (.int 0)) (.seq (.asg 7 (.bin .Mod (.pk 4) (.bi .len (.cons (.pk 0) (.nil))))) (.seq (.asg 5 (.bi .int (.cons (.ix (.pk 0) (.pk 7)) (.nil)))) (.seq (.iff (.bop .And (.cmp .GtE (.pk 5) (.bin .Pow (.int 10) (.int 18))) (.one .And (.cmp .Gt (.ix (.pk 2) (.pk 7)) (.int 0)))) (.seq (.exp (.app 3 (.bin .Mod (.bi .int (.cons (.ix (.pk 2) (.pk 7)) (.nil))) (.int 1000003)))) (.seq (.sti 2 (.pk 7) (.bin .FloorDiv (.bi .int (.cons (.ix (.pk 2) (.pk 7)) (.nil))) (.int 1000003))) (.seq (.cnt) (.skip)))) (.skip)) (.skip)))) (.skip)) (.seq (.asg 6 (.bin .Mod (.bi .int (.cons (.bin .Add (.bin .Add (.bin .Mult (.pk 5) (.int 48271)) (.bin .Mult (.pk 4) (.int 69621))) (.int 11)) (.nil))) (.int 2147483647))) (.seq (.asg 6 (.bin .Mod (.bi .int (.cons (.bin .Add (.bin .FloorDiv (.bin .Mult (.pk 6) (.pk 6)) (.int 4096)) (.pk 6)) (.nil))) (.int 2147483629))) (.seq (.exp (.app 3 (.bin .Mod (.bi .int (.cons (.bin .Add (.bin .FloorDiv (.bin .Mult (.pk 6) (.pk 6)) (.int 4096)) (.bin .Mult (.pk 4) (.int 7919))) (.nil))) (.int 2147483629)))) (.skip))))))) (.seq (.ret (.var 3)) (.skip))))
def d_law_draws : Def := ⟨2, 8, [], c_law_draws⟩
def c_law_take : S := .seq (.asg 2 (.ix (.pk 0) (.int 1))) (.seq (.sti 0 (.int 1) (.bin .Add (.pk 2) (.int 1))) (.seq (.asg 3 (.ix (.pk 0) (.int 0))) (.seq (.iff (.cmp .GtE (.pk 2) (.bi .len (.cons (.pk 3) (.nil)))) (.seq (.ret (.int 0)) (.skip)) (.skip)) (.seq (.ret (.bin .Mod (.bin .FloorDiv (.bi .int (.cons (.ix (.pk 3) (.pk 2)) (.nil))) (.int 7)) (.pk 1))) (.skip)))))
def d_law_take : Def := ⟨2, 4, [0], c_law_take⟩
def c_law_all_rows : S := .seq (.asg 1 (.lst (.cons (.tup (.nil)) (.nil)))) (.seq (.for_ (.nm 2) .rng1 (.sole (.var 0)) (.seq (.asg 3 (.lst (.nil))) (.seq (.for_ (.nm 4) .seq (.sole (.var 1)) (.seq (.asg 3 (.bin .Add (.pk 3) (.lst (.cons (.bin .Add (.pk 4) (.tup (.cons (.int 0) (.nil)))) (.cons (.bin .Add (.pk 4) (.tup (.cons (.int 1) (.nil)))) (.nil)))))) (.skip))) (.seq (.asg 1 (.var 3)) (.skip))))) (.seq (.ret (.var 1)) (.skip)))
def d_law_all_rows : Def := ⟨1, 5, [], c_law_all_rows⟩
def c_law_rising : S := .seq (.ret (.bi .tuple (.cons (.lc [2] (.nm 2) .rng1 (.sole (.var 1)) (.one .And (.cmp .Eq (.cal 14 (.cons (.pk 0) (.cons (.int 2) (.nil)))) (.int 0))) (.var 2)) (.nil)))) (.skip)
def d_law_rising : Def := ⟨2, 3, [0], c_law_rising⟩
def c_law_clause : S := .seq (.asg 2 (.cal 14 (.cons (.pk 0) (.cons (.int 4) (.nil))))) (.seq (.iff (.cmp .Eq (.pk 2) (.int 0)) (.seq (.ret (.tup (.cons (.str "if") (.cons (.cal 16 (.cons (.pk 0) (.cons (.var 1) (.nil)))) (.cons (.cal 14 (.cons (.pk 0) (.cons (.var 1) (.nil)))) (.nil)))))) (.skip)) (.skip)) (.seq (.iff (.cmp .Eq (.pk 2) (.int 1)) (.seq (.ret (.tup (.cons (.str "if") (.cons (.cal 16 (.cons (.pk 0) (.cons (.var 1) (.nil)))) (.nil))))) (.skip)) (.skip)) (.seq (.iff (.bop .And (.cmp .Eq (.pk 2) (.int 2)) (.one .And (.cmp .Gt (.pk 1) (.int 1)))) (.seq (.asg 3 (.bin .Add (.int 1) (.cal 14 (.cons (.pk 0) (.cons (.bin .Sub (.pk 1) (.int 1)) (.nil)))))) (.seq (.ret (.tup (.cons (.str "pair") (.cons (.cal 14 (.cons (.pk 0) (.cons (.var 3) (.nil)))) (.cons (.var 3) (.cons (.cal 14 (.cons (.pk 0) (.cons (.int 2) (.nil)))) (.cons (.cal 14 (.cons (.pk 0) (.cons (.int 2) (.nil)))) (.nil)))))))) (.skip))) (.skip)) (.seq (.ret (.tup (.cons (.str "sum") (.cons (.cal 16 (.cons (.pk 0) (.cons (.var 1) (.nil)))) (.cons (.cal 14 (.cons (.pk 0) (.cons (.int 2) (.nil)))) (.nil)))))) (.skip)))))
def d_law_clause : Def := ⟨2, 4, [0], c_law_clause⟩
def c_law_fulfils : S := .seq (.iff (.cmp .Eq (.ix (.pk 1) (.int 0)) (.str "pair")) (.seq (.ret (.bop .Or (.cmp .NotEq (.ix (.pk 0) (.ix (.pk 1) (.int 1))) (.ix (.pk 1) (.int 3))) (.one .Or (.cmp .NotEq (.ix (.pk 0) (.ix (.pk 1) (.int 2))) (.ix (.pk 1) (.int 4)))))) (.skip)) (.skip)) (.seq (.asg 2 (.lc [3] (.nm 3) .seq (.sole (.ix (.pk 1) (.int 1))) (.yes) (.ix (.pk 0) (.pk 3)))) (.seq (.iff (.cmp .Eq (.ix (.pk 1) (.int 0)) (.str "sum")) (.seq (.ret (.cmp .Eq (.bin .Mod (.bi .int (.cons (.bi .sum (.cons (.pk 2) (.nil))) (.nil))) (.int 2)) (.ix (.pk 1) (.int 2)))) (.skip)) (.skip)) (.seq (.ret (.bop .Or (.cmp .In (.int 0) (.pk 2)) (.one .Or (.bop .And (.cmp .Eq (.bi .len (.cons (.pk 1) (.nil))) (.int 3)) (.one .And (.cmp .Eq (.ix (.pk 0) (.ix (.pk 1) (.int 2))) (.int 1))))))) (.skip))))
def d_law_fulfils : Def := ⟨2, 4, [], c_law_fulfils⟩
def c_law_told : S := .seq (.asg 2 (.lst (.nil))) (.seq (.for_ (.nm 3) .seq (.sole (.cal 15 (.cons (.var 0) (.nil)))) (.seq (.iff (.cmp .Eq (.bi .len (.cons (.lc [4] (.nm 4) .seq (.sole (.var 1)) (.one .And (.not (.tst (.cal 18 (.cons (.var 3) (.cons (.var 4) (.nil))))))) (.var 4)) (.nil))) (.int 0)) (.seq (.exp (.app 2 (.var 3))) (.skip)) (.skip)) (.skip))) (.seq (.ret (.tup (.cons (.var 0) (.cons (.bi .tuple (.cons (.pk 2) (.nil))) (.nil))))) (.skip)))
def d_law_told : Def := ⟨2, 5, [], c_law_told⟩
def c_law_is_relation : S := .seq (.ret (.bop .And (.isi (.pk 0) [.own 0]) (.one .And (.cmp .Eq (.bi .repr (.cons (.tup (.cons (.fld (.pk 0) "size") (.cons (.fld (.pk 0) "rows") (.nil)))) (.nil))) (.bi .repr (.cons (.pk 1) (.nil))))))) (.skip)
def d_law_is_relation : Def := ⟨2, 2, [], c_law_is_relation⟩
def c_law_refusal : S := .seq (.try_ (.seq (.exp (.cal 11 (.cons (.var 0) (.cons (.var 1) (.nil))))) (.skip)) (.hnd 1 (some 2) (.seq (.asg 3 (.lst (.nil))) (.seq (.iff (.tst (.xi 2 [.own 2])) (.seq (.exp (.app 3 (.bin .Add (.str "number ") (.bi .repr (.cons (.xf 2 "value") (.nil)))))) (.skip)) (.skip)) (.seq (.iff (.tst (.xi 2 [.own 4])) (.seq (.exp (.app 3 (.bin .Add (.str "undefined ") (.bi .repr (.cons (.xf 2 "what") (.nil)))))) (.skip)) (.skip)) (.seq (.iff (.bop .Or (.tst (.xi 2 [.own 3])) (.one .Or (.not (.tst (.xi 2 [.verr]))))) (.seq (.exp (.app 3 (.str "other"))) (.skip)) (.skip)) (.seq (.ret (.xt (.bm .join) (.str " ") (.cons (.pk 3) (.nil)))) (.skip)))))) (.skip))) (.seq (.ret (.str "none")) (.skip))
def d_law_refusal : Def := ⟨2, 4, [], c_law_refusal⟩
def c_law : S := .seq (.asg 1 (.lst (.cons (.cal 13 (.cons (.var 0) (.cons (.int 220) (.nil)))) (.cons (.int 0) (.nil))))) (.seq (.for_ (.nm 2) .rng1 (.sole (.int 4)) (.seq (.asg 3 (.bin .Add (.int 1) (.cal 14 (.cons (.pk 1) (.cons (.int 4) (.nil)))))) (.seq (.asg 4 (.lc [11] (.nm 11) .rng1 (.sole (.cal 14 (.cons (.pk 1) (.cons (.int 6) (.nil))))) (.yes) (.cal 17 (.cons (.pk 1) (.cons (.var 3) (.nil)))))) (.seq (.for_ (.nm 5) .seq (.sole (.var 4)) (.seq (.for_ (.nm 9) .seq (.sole (.cal 15 (.cons (.var 3) (.nil)))) (.seq (.asg 12 (.cal 10 (.cons (.var 9) (.cons (.var 5) (.nil))))) (.seq (.iff (.bop .Or (.not (.tst (.isi (.pk 12) [.bool]))) (.one .Or (.cmp .NotEq (.pk 12) (.cal 18 (.cons (.var 9) (.cons (.var 5) (.nil))))))) (.seq (.ret (.bl false)) (.skip)) (.skip)) (.skip)))) (.skip))) (.seq (.asg 6 (.cal 19 (.cons (.var 3) (.cons (.var 4) (.nil))))) (.seq (.asg 7 (.bi .repr (.cons (.pk 4) (.nil)))) (.seq (.iff (.cmp .Eq (.bi .len (.cons (.ix (.pk 6) (.int 1)) (.nil))) (.int 0)) (.seq (.iff (.cmp .NotEq (.cal 21 (.cons (.var 3) (.cons (.var 4) (.nil)))) (.str "undefined 'relation'")) (.seq (.ret (.bl false)) (.skip)) (.skip)) (.skip)) (.seq (.for_ (.nm 10) .seq (.sole (.lst (.cons (.var 4) (.cons (.bi .tuple (.cons (.pk 4) (.nil))) (.nil))))) (.seq (.iff (.not (.tst (.cal 20 (.cons (.cal 11 (.cons (.var 3) (.cons (.var 10) (.nil)))) (.cons (.var 6) (.nil)))))) (.seq (.ret (.bl false)) (.skip)) (.skip)) (.skip))) (.skip))) (.seq (.iff (.cmp .NotEq (.bi .repr (.cons (.pk 4) (.nil))) (.pk 7)) (.seq (.ret (.bl false)) (.skip)) (.skip)) (.seq (.asg 8 (.ix (.lst (.cons (.int 0) (.cons (.int 5) (.cons (.neg (.int 1)) (.cons (.bl true) (.cons (.non) (.cons (.str "2") (.cons (.tup (.cons (.int 2) (.nil))) (.cons (.lst (.cons (.int 2) (.nil))) (.cons (.bl false) (.cons (.int 9) (.nil)))))))))))) (.cal 14 (.cons (.pk 1) (.cons (.int 10) (.nil)))))) (.seq (.iff (.cmp .NotEq (.cal 21 (.cons (.var 8) (.cons (.ix (.lst (.cons (.var 4) (.cons (.tup (.nil)) (.nil)))) (.cal 14 (.cons (.pk 1) (.cons (.int 2) (.nil))))) (.nil)))) (.bin .Add (.str "number ") (.bi .repr (.cons (.pk 8) (.nil))))) (.seq (.ret (.bl false)) (.skip)) (.skip)) (.skip))))))))))) (.seq (.ret (.bl true)) (.skip)))
def d_law : Def := ⟨1, 13, [], c_law⟩
def c_Relation_init : S := .seq (.iff (.bop .Or (.not (.tst (.cal 8 (.cons (.var 1) (.nil))))) (.one .Or (.not (.tst (.cal 9 (.cons (.var 2) (.cons (.var 1) (.nil)))))))) (.seq (.rai 3 (.cons (.tup (.cons (.var 1) (.cons (.var 2) (.nil)))) (.nil))) (.skip)) (.skip)) (.seq (.stf 0 "size" (.var 1)) (.seq (.stf 0 "rows" (.bi .tuple (.cons (.xt .sset (.pk 2) (.nil)) (.nil)))) (.skip)))
def d_Relation_init : Def := ⟨3, 3, [0], c_Relation_init⟩
def c_Relation_eq : S := .seq (.ret (.bop .And (.isi (.pk 1) [.own 0]) (.bop .And (.cmp .Eq (.fld (.pk 0) "size") (.fld (.pk 1) "size")) (.one .And (.cmp .Eq (.fld (.pk 0) "rows") (.fld (.pk 1) "rows")))))) (.skip)
def d_Relation_eq : Def := ⟨2, 2, [], c_Relation_eq⟩
def c_Relation_len : S := .seq (.ret (.bi .len (.cons (.fld (.pk 0) "rows") (.nil)))) (.skip)
def d_Relation_len : Def := ⟨1, 1, [], c_Relation_len⟩
def c_Relation_has : S := .seq (.exp (.cal 0 (.cons (.int 0) (.nil)))) (.skip)
def d_Relation_has : Def := ⟨2, 2, [], c_Relation_has⟩
def c_Relation_opposite : S := .seq (.exp (.cal 0 (.cons (.int 1) (.nil)))) (.skip)
def d_Relation_opposite : Def := ⟨1, 1, [], c_Relation_opposite⟩
def c_Relation_read_at : S := .seq (.exp (.cal 0 (.cons (.int 2) (.nil)))) (.skip)
def d_Relation_read_at : Def := ⟨2, 2, [], c_Relation_read_at⟩
def c_Relation_alike : S := .seq (.exp (.cal 0 (.cons (.int 3) (.nil)))) (.skip)
def d_Relation_alike : Def := ⟨3, 3, [], c_Relation_alike⟩
def c_Relation_both : S := .seq (.exp (.cal 0 (.cons (.int 4) (.nil)))) (.skip)
def d_Relation_both : Def := ⟨2, 2, [], c_Relation_both⟩
def c_Relation_beside : S := .seq (.exp (.cal 0 (.cons (.int 5) (.nil)))) (.skip)
def d_Relation_beside : Def := ⟨2, 2, [], c_Relation_beside⟩
def ds : List Def := [d_wall, d_is_integer, d_is_number_below, d_is_sequence, d_is_tuple, d_is_value, d_is_row, d_all_rows, d_is_size, d_are_rows, d_fulfils, d_told_by, d_fulfils_all, d_law_draws, d_law_take, d_law_all_rows, d_law_rising, d_law_clause, d_law_fulfils, d_law_told, d_law_is_relation, d_law_refusal, d_law, d_Relation_init, d_Relation_eq, d_Relation_len, d_Relation_has, d_Relation_opposite, d_Relation_read_at, d_Relation_alike, d_Relation_both, d_Relation_beside]
def gls : List (Option D) := [some (.int 4)]
def xfs : List (Option (List Str)) := [none, some ["value"], some ["value"], some ["what"]]
def fls : List (Nat × Str) := [(2, "value"), (3, "value"), (4, "what"), (0, "rows"), (0, "size")]
def xss : List ((Nat × Nat) × Bool) := [((2, 1), true), ((2, 2), true), ((2, 3), false), ((2, 4), false), ((3, 1), true), ((3, 2), false), ((3, 3), true), ((3, 4), false), ((4, 1), true), ((4, 2), false), ((4, 3), false), ((4, 4), true)]
def pn : List Str := ["Relation"]
def xn : List Str := ["CellError", "InvalidNumber", "InvalidRelation", "Undefined"]
def sbs : List ((Nat × Nat) × Bool) := [((0, 0), true), ((0, 1), false), ((0, 2), false), ((0, 3), false), ((0, 4), false)]
def mts : List ((Nat × Str) × Nat) := [((0, "has"), 26), ((0, "opposite"), 27), ((0, "read_at"), 28), ((0, "alike"), 29), ((0, "both"), 30), ((0, "beside"), 31)]
def ins : List (Nat × Nat) := [(0, 23)]
def gv : Gv := gvp gls pn.length sbs (xfp pn.length xfs) fls xss mts ins
end Pf
/-! k43: the shared defs at their numbers -/
namespace Pf
open PySem L2 B U
local macro_rules | `(tactic| walk_at "ev") => `(tactic| simp only [vE_int, vE_bl, vE_non, vE_str, vE_var, vE_pk, vE_gl, vE_bin, vE_neg, vE_not, vE_one, vE_and, vE_or, vE_cmp, vE_chn, vE_ite, vE_cal, vE_kal, vE_bm, vE_sset, vE_mak, vE_mt, endM_ok, endM_ex, vE_bi, vE_isi, vE_app, vE_fld, vE_xf, vE_xi, vE_ix, vE_sl, vE_tup, vE_lst, vT_yes, vT_not, vT_one, vT_and, vT_or, vT_tst, vT_cmp, vT_chn, vA_nil, vA_cons, vA_sole, vA_two, vO_nil, vO_tst, vS_skip, vS_pass, vS_seq, vS_asg, vS_par, vS_unp, vS_sti, vS_stf, vS_iff, vS_ret, vS_retN, vS_exp, vS_brk, vS_cnt, vS_rai, vS_try, vH_hnd, vH_skip, R.bind_ok, R.bind_ex, R.ofO_some, gS_z, gS_s, dv_pl, dv_fr, dv_al, cv_pl, cv_fr, cvs_nil, cvs_cons, dvs_nil, dvs_cons, als_nil, als_al, als_pl, als_fr, slA_pl, slA_fr, slA_al, slV_pl, slV_fr, endC_ok, endC_ex, gb_nil, gb_al, gb_pl, gb_fr, set_z, set_s, putS_nil, putS_one, bindN_one, Nat.reduceBEq, bindT_nm, bindT_tp, bindN_nil, bindN_cons, int_cmp_eq, int_cmp_ne, int_cmp_lt, int_cmp_le, int_cmp_gt, int_cmp_ge, bl_cmp_eq, bl_cmp_ne, is_non, isnt_non, is_bl, tru_bl, tru_int, bin_add_i, bin_sub_i, notD_of, isi_int_non, isi_int_bl, isi_int_int, isi_int_str, isi_int_tup, isi_int_lst, isi_int_ro, isi_bool_non, isi_bool_bl, isi_bool_int, isi_bool_str, isi_bool_tup, isi_bool_lst, isi_bool_ro, isi_str_non, isi_str_bl, isi_str_int, isi_str_str, isi_str_tup, isi_str_lst, isi_str_ro, isi_list_non, isi_list_bl, isi_list_int, isi_list_str, isi_list_tup, isi_list_lst, isi_list_ro, isi_tuple_non, isi_tuple_bl, isi_tuple_int, isi_tuple_str, isi_tuple_tup, isi_tuple_lst, isi_tuple_ro, isi_lt_non, isi_lt_bl, isi_lt_int, isi_lt_str, isi_lt_tup, isi_lt_lst, isi_lt_ro, bi_len_tup, bi_len_lst, bi_tuple_lst, bi_tuple_tup, bi_list_tup, bi_list_lst, bi_int_int, bi_int_bl, nn_non, nn_tup, nn_lst, nn_int, nn_bl, nn_str, nn_obj, Option.bind_some, Option.map_some, List.map_cons, List.map_nil, List.nodup_nil, nd1e, List.length_cons, List.length_nil, List.append_nil, List.nil_append, Nat.reduceAdd, Nat.reduceLeDiff, Nat.le_zero_eq, Nat.not_succ_le_zero, if_true, if_false, Bool.false_eq_true, Bool.not_true, Bool.not_false, Bool.true_eq_false, eq_self, decide_true, decide_false, and_self, true_and, and_true, List.not_mem_nil, or_false, false_or, reduceIte, *])
abbrev O (n : Nat) : Orc := orc ds gv n
theorem cl_of {n f : Nat} {d : Def} (h : ds[f]? = some d) (as : List Sl) : (O (n + 1)).cl f as = runD (O n) d as := by
  show (match ds[f]? with | some d => runD (O n) d as | none => .no) = _
  rw [h]
theorem i_integer (n : Nat) : SpInteger (O (n + 1)) 1 := fun d h => (cl_of (d := d_is_integer) rfl _).trans (u_integer d h)
theorem i_below (n : Nat) : SpBelow (O (n + 2)) 2 := fun d b h => (cl_of (d := d_is_number_below) rfl _).trans (u_below (i_integer n) d b h)
theorem i_tuple (n : Nat) : SpTuple (O (n + 1)) 4 := fun d m h => (cl_of (d := d_is_tuple) rfl _).trans (u_tuple d m h)
theorem i_value (n : Nat) : SpValue (O (n + 3)) 5 := fun d h => (cl_of (d := d_is_value) rfl _).trans (u_value (i_below n) d h)
theorem i_row (n : Nat) : SpRow (O (n + 4)) 6 := fun d m h1 h2 h3 => (cl_of (d := d_is_row) rfl _).trans (u_row (i_tuple (n + 2)) (i_value n) d m h1 h2 h3)
theorem i_draws (n : Nat) (ns : List Int) (N : Nat) (hN : N ≤ 1000) (hl : ns.length ≤ 63) : ∃ ds : List Int, ds.length = N ∧ (O (n + 1)).cl 13 [.fz (scr ns), .fz (.int N)] = .ok (.pl (.lst (ds.map .int)), [.un, .un]) := by
  obtain ⟨ds, h1, h2⟩ := run_draws (O n) ns N hN hl
  exact ⟨ds, h1, (cl_of (d := d_law_draws) rfl _).trans h2⟩
theorem i_take (n : Nat) : SpTake (O (n + 1)) 14 := fun ds p m hm => by
  obtain ⟨v, h1, h2, h3⟩ := run_take (O n) ds p m hm
  exact ⟨v, h1, h2, (cl_of (d := d_law_take) rfl _).trans h3⟩
theorem i_every (n : Nat) : SpEvery (O (n + 1)) 15 := fun m hm => (cl_of (d := d_law_all_rows) rfl _).trans (run_every (O n) m hm)
abbrev hL (ds : List Int) (p : Nat) : List D := [.lst (ds.map .int), .int p]
theorem gl0 (n : Nat) : (O n).gl 0 = some (.int 4) := by cases n <;> rfl
theorem it_n1 {N : Nat} (h : N ≤ 1000) : itD .rng1 [D.int (N : Int)] = some ((List.range ((N : Int)).toNat).map fun (i : Nat) => .int (0 + (i : Int))) := by
  simp only [itD]; rw [if_pos]; omega
theorem it_n {N : Nat} (h : N ≤ 1000) : itD .rng1 [D.int (N : Int)] = some ((List.range N).map fun (i : Nat) => .int (0 + (i : Int))) := by
  have := it_n1 h
  rw [Int.toNat_natCast] at this
  exact this
/-! all rows, by two clauses -/
def bitsB : List (List Int) → List (List Int) := fun E => E.flatMap two
/-- the inner loop: a row, both its continuations -/
theorem lc_two {o : Orc} {m k : D} {s1 : Sl} {r : List Int} {acc : List D} (hr : r.length ≤ 1000) (ha : acc.length ≤ 1000) : lcLoop [4] (bindT [] (.nm 4)) (evT o [] .yes) (evE o [] (.bin .Add (.pk 3) (.tup (.cons (.var 4) (.nil))))) [.int 0, .int 1] acc [.fz m, s1, .fz k, .fz (tupI r), .un] =
    .ok (acc ++ (two r).map tupI, [.fz m, s1, .fz k, .fz (tupI r), .un]) := by
  have z1 : acc.length < sizeLine := Nat.lt_of_le_of_lt ha (by decide)
  have z2 : (acc ++ [D.tup (r.map .int ++ [.int 0])]).length < sizeLine := by
    rw [List.length_append]
    exact Nat.lt_of_le_of_lt (Nat.add_le_add_right ha _) (by show 1000 + 1 < sizeLine; decide)
  have b1 : ∀ x : Int, binD .Add (tupI r) (.tup [.int x]) = some (.pl (.tup (r.map .int ++ [.int x]))) := fun x => badd_t (by rw [List.length_map]; exact Nat.le_trans (Nat.add_le_add_right hr _) (by show 1000 + 1 ≤ sizeLine; decide))
  have bt : ∀ x : D, bindT [] (.nm 4) x [.fz m, s1, .fz k, .fz (tupI r), .un] = some [.fz m, s1, .fz k, .fz (tupI r), .fz x] := fun _ => rfl
  have wp : ∀ x : D, wipeS [.fz m, s1, .fz k, .fz (tupI r), .fz x] [4] = [.fz m, s1, .fz k, .fz (tupI r), .un] := fun _ => rfl
  have t1 : 1 ≤ sizeLine := by decide
  have e1 : ∀ x : Int, evE o [] (.bin .Add (.pk 3) (.tup (.cons (.var 4) (.nil)))) [.fz m, s1, .fz k, .fz (tupI r), .fz (.int x)] = .ok (.pl (.tup (r.map .int ++ [.int x])), [.fz m, s1, .fz k, .fz (tupI r), .fz (.int x)]) := fun x => by
    have b1 := b1 x
    generalize tupI r = R at *
    walk_at "ev"
  have ty : ∀ δ, evT o [] .yes δ = .ok (true, δ) := fun _ => rfl
  simp only [lcLoop, bt, R.ofO_some, R.bind_ok, ty, if_true, e1, cv_pl, z1, z2, wp]
  simp [two, tupI]
theorem lc2_all {o : Orc} {m k : D} {s1 : Sl} : ∀ (E : List (List Int)) (acc : List D), (∀ r ∈ E, r.length ≤ 1000) → acc.length + 2 * E.length ≤ 1000 →
    lcLoop2 [3, 4] [4] (bindT [] (.nm 3)) (evT o [] .yes) (fun δ => (evA o [] (.sole (.tup (.cons (.int 0) (.cons (.int 1) (.nil))))) δ).bind fun (vs, δ1) => (R.ofO (cvs vs)).bind fun ds => (R.ofO (itD .seq ds)).bind fun items => .ok (items, δ1)) (bindT [] (.nm 4)) (evT o [] .yes) (evE o [] (.bin .Add (.pk 3) (.tup (.cons (.var 4) (.nil))))) (E.map tupI) acc [.fz m, s1, .fz k, .un, .un] =
      .ok (acc ++ (E.flatMap two).map tupI, [.fz m, s1, .fz k, .un, .un])
  | [], acc, _, _ => by simp [lcLoop2]
  | r :: E, acc, h, hl => by
    simp only [List.length_cons] at hl
    have hr := h r List.mem_cons_self
    have l1 := lc_two (o := o) (m := m) (k := k) (s1 := s1) (r := r) (acc := acc) hr (by omega)
    have ih := lc2_all (o := o) (m := m) (k := k) (s1 := s1) E (acc ++ (two r).map tupI) (fun q hq => h q (List.mem_cons_of_mem _ hq)) (by rw [List.length_append]; simp only [two, List.map_cons, List.map_nil, List.length_cons, List.length_nil]; omega)
    have bt : bindT [] (.nm 3) (tupI r) [.fz m, s1, .fz k, .un, .un] = some [.fz m, s1, .fz k, .fz (tupI r), .un] := rfl
    have ty : ∀ δ, evT o [] .yes δ = .ok (true, δ) := fun _ => rfl
    have ea : evA o [] (.sole (.tup (.cons (.int 0) (.cons (.int 1) (.nil))))) [.fz m, s1, .fz k, .fz (tupI r), .un] = .ok ([.pl (.tup [.int 0, .int 1])], [.fz m, s1, .fz k, .fz (tupI r), .un]) := rfl
    have ec : cvs [.pl (.tup [.int 0, .int 1])] = some [.tup [.int 0, .int 1]] := rfl
    have ei : itD .seq [.tup [.int 0, .int 1]] = some [.int 0, .int 1] := rfl
    have w0 : wipeS [.fz m, s1, .fz k, .fz (tupI r), .un] [4] = [.fz m, s1, .fz k, .fz (tupI r), .un] := rfl
    have w1 : wipeS [.fz m, s1, .fz k, .fz (tupI r), .un] [3, 4] = [.fz m, s1, .fz k, .un, .un] := rfl
    simp only [List.map_cons, lcLoop2, bt, R.ofO_some, R.bind_ok, ty, if_true, ea, ec, ei, w0, l1, w1]
    rw [ih, List.flatMap_cons, List.map_append, List.append_assoc]
theorem r_all_rows (n m : Nat) (hm : m ≤ 4) : (O (n + 1)).cl 7 [.fz (.int m)] = .ok (.pl (.lst ((every m).map tupI)), [.un]) := by
  rw [cl_of (d := d_all_rows) rfl]
  generalize O n = o
  have lens : ∀ k, k ≤ 4 → (every k).length ≤ 16 := fun k hk => by
    rw [every_len]
    exact Nat.le_trans (Nat.pow_le_pow_right (by decide) hk) (by decide)
  obtain ⟨δ', f1, s1, s2, h1, q1⟩ := for_run (o := o) (bd := []) (tg := .nm 2) (k := .rng1) (is := .sole (.var 0)) (b := (.seq (.asg 1 (.lc2 [3, 4] [4] (.nm 3) .seq (.sole (.var 1)) (.yes) (.nm 4) .seq (.sole (.tup (.cons (.int 0) (.cons (.int 1) (.nil))))) (.yes) (.bin .Add (.pk 3) (.tup (.cons (.var 4) (.nil)))))) (.skip))) (δ := [.fz (.int m), .ow [.tup []], .un, .un, .un])
    (fun i δ => ∃ s1 s2, (s1 = .ow ((every i).map tupI) ∨ s1 = .fz (.lst ((every i).map tupI))) ∧ δ = [.fz (.int m), s1, s2, .un, .un]) rfl rfl (it_n (by omega)) ⟨.ow [.tup []], .un, .inl rfl, rfl⟩ (by
      rintro i d δ hi ⟨s1, s2, h1, rfl⟩
      obtain ⟨hd, hlt⟩ := rng_at hi
      subst hd
      refine ⟨[.fz (.int m), s1, .fz (.int i), .un, .un], [.fz (.int m), .ow ((every (i + 1)).map tupI), .fz (.int i), .un, .un], rfl, .inl ?_, _, _, .inl rfl, rfl⟩
      have hs : evA o [] (.sole (.var 1)) [.fz (.int m), s1, .fz (.int i), .un, .un] = .ok ([.pl (.lst ((every i).map tupI))], [.fz (.int m), .fz (.lst ((every i).map tupI)), .fz (.int i), .un, .un]) := by
        rcases h1 with rfl | rfl <;> rfl
      have q := lc2_all (o := o) (m := .int m) (k := .int i) (s1 := .fz (.lst ((every i).map tupI))) (every i) [] (fun r hr => by have := (every_row i r hr).1; omega) (by have := lens i (by omega); simp; omega)
      have c1 : cvs [Vl.pl (.lst ((every i).map tupI))] = some [.lst ((every i).map tupI)] := rfl
      have c2 : itD .seq [.lst ((every i).map tupI)] = some ((every i).map tupI) := rfl
      have e : evE o [] (.lc2 [3, 4] [4] (.nm 3) .seq (.sole (.var 1)) (.yes) (.nm 4) .seq (.sole (.tup (.cons (.int 0) (.cons (.int 1) (.nil))))) (.yes) (.bin .Add (.pk 3) (.tup (.cons (.var 4) (.nil))))) [.fz (.int m), s1, .fz (.int i), .un, .un] = .ok (.fr ((every (i + 1)).map tupI), [.fz (.int m), .fz (.lst ((every i).map tupI)), .fz (.int i), .un, .un]) := by
        simp only [evE, hs, R.bind_ok, c1, c2, R.ofO_some]
        have hp : (([3, 4] : List Nat).all (fun j => plainS (gS [.fz (.int (m : Int)), .fz (.lst ((every i).map tupI)), .fz (.int (i : Int)), .un, .un] j)) && ([3, 4] : List Nat).all (fun j => !([] : List Nat).contains j)) = true := rfl
        have hw : wipeS [.fz (.int (m : Int)), .fz (.lst ((every i).map tupI)), .fz (.int (i : Int)), .un, .un] [3, 4] = [.fz (.int (m : Int)), .fz (.lst ((every i).map tupI)), .fz (.int (i : Int)), .un, .un] := rfl
        rw [if_pos hp, hw]
        simp only [evE] at q
        rw [q]
        rfl
      exact (asg_seq e rfl).trans rfl)
  subst q1
  rw [List.length_map, List.length_range] at h1
  refine runD_ok (v := .pl (.lst ((every m).map tupI))) (δ' := [.fz (.int m), .fz (.lst ((every m).map tupI)), s2, .un, .un]) ⟨rfl, rfl⟩ ?_ (by show 1 ≤ 5; decide) True.intro rfl
  refine (asg_seq (v := .fr [.tup []]) (δ2 := [.fz (.int m), .ow [.tup []], .un, .un, .un]) rfl rfl).trans ((seq_nx f1).trans ?_)
  rcases h1 with rfl | rfl <;> exact ret_seq rfl rfl
end Pf
/-! k43: relations are made -/
namespace Pf
open PySem L2 B U
local macro_rules | `(tactic| walk_at "ev") => `(tactic| simp only [vE_int, vE_bl, vE_non, vE_str, vE_var, vE_pk, vE_gl, vE_bin, vE_neg, vE_not, vE_one, vE_and, vE_or, vE_cmp, vE_chn, vE_ite, vE_cal, vE_kal, vE_bm, vE_sset, vE_mak, vE_mt, endM_ok, endM_ex, vE_bi, vE_isi, vE_app, vE_fld, vE_xf, vE_xi, vE_ix, vE_sl, vE_tup, vE_lst, vT_yes, vT_not, vT_one, vT_and, vT_or, vT_tst, vT_cmp, vT_chn, vA_nil, vA_cons, vA_sole, vA_two, vO_nil, vO_tst, vS_skip, vS_pass, vS_seq, vS_asg, vS_par, vS_unp, vS_sti, vS_stf, vS_iff, vS_ret, vS_retN, vS_exp, vS_brk, vS_cnt, vS_rai, vS_try, vH_hnd, vH_skip, R.bind_ok, R.bind_ex, R.ofO_some, gS_z, gS_s, dv_pl, dv_fr, dv_al, cv_pl, cv_fr, cvs_nil, cvs_cons, dvs_nil, dvs_cons, als_nil, als_al, als_pl, als_fr, slA_pl, slA_fr, slA_al, slV_pl, slV_fr, endC_ok, endC_ex, gb_nil, gb_al, gb_pl, gb_fr, set_z, set_s, putS_nil, putS_one, bindN_one, Nat.reduceBEq, bindT_nm, bindT_tp, bindN_nil, bindN_cons, int_cmp_eq, int_cmp_ne, int_cmp_lt, int_cmp_le, int_cmp_gt, int_cmp_ge, bl_cmp_eq, bl_cmp_ne, is_non, isnt_non, is_bl, tru_bl, tru_int, bin_add_i, bin_sub_i, notD_of, isi_int_non, isi_int_bl, isi_int_int, isi_int_str, isi_int_tup, isi_int_lst, isi_int_ro, isi_bool_non, isi_bool_bl, isi_bool_int, isi_bool_str, isi_bool_tup, isi_bool_lst, isi_bool_ro, isi_str_non, isi_str_bl, isi_str_int, isi_str_str, isi_str_tup, isi_str_lst, isi_str_ro, isi_list_non, isi_list_bl, isi_list_int, isi_list_str, isi_list_tup, isi_list_lst, isi_list_ro, isi_tuple_non, isi_tuple_bl, isi_tuple_int, isi_tuple_str, isi_tuple_tup, isi_tuple_lst, isi_tuple_ro, isi_lt_non, isi_lt_bl, isi_lt_int, isi_lt_str, isi_lt_tup, isi_lt_lst, isi_lt_ro, bi_len_tup, bi_len_lst, bi_tuple_lst, bi_tuple_tup, bi_list_tup, bi_list_lst, bi_int_int, bi_int_bl, nn_non, nn_tup, nn_lst, nn_int, nn_bl, nn_str, nn_obj, Option.bind_some, Option.map_some, List.map_cons, List.map_nil, List.nodup_nil, nd1e, List.length_cons, List.length_nil, List.append_nil, List.nil_append, Nat.reduceAdd, Nat.reduceLeDiff, Nat.le_zero_eq, Nat.not_succ_le_zero, if_true, if_false, Bool.false_eq_true, Bool.not_true, Bool.not_false, Bool.true_eq_false, eq_self, decide_true, decide_false, and_self, true_and, and_true, List.not_mem_nil, or_false, false_or, reduceIte, *])
/-- the relation of these rows -/
def fld1 (m : Nat) : List (Str × D) := [("size", .int m)]
def fld2 (m : Nat) (R : List D) : List (Str × D) := [("size", .int m), ("rows", .tup R)]
def relD (m : Nat) (rows : List (List Int)) : D := .obj 0 (fld2 m (rows.map tupI))
theorem r_is_size {m : Nat} (h1 : 1 ≤ m) (h4 : m ≤ 4) (n : Nat) : (O (n + 2)).cl 8 [.fz (.int m)] = .ok (.pl (.bl true), [.un]) := by
  have e1 : (O (n + 1)).cl 1 [.fz (.int m)] = .ok (.pl (.bl true), [.un]) := i_integer n (.int m) rfl
  rw [show n + 2 = (n + 1) + 1 from rfl, cl_of (d := d_is_size) rfl]
  have g0 := gl0 (n + 1)
  generalize O (n + 1) = o at *
  have c1 : decide ((1 : Int) ≤ (m : Int)) = true := by rw [decide_eq_true_eq]; omega
  have c2 : decide ((m : Int) ≤ 4) = true := by rw [decide_eq_true_eq]; omega
  refine runD_ok (v := .pl (.bl true)) (δ' := [.fz (.int m)]) ⟨rfl, rfl⟩ ?_ (by show 1 ≤ 1; decide) True.intro rfl
  show evS o [] c_is_size [.fz (.int m)] = _
  unfold c_is_size
  clear h1 h4
  walk_at "ev"
theorem all_true : ∀ k : Nat, (List.replicate k true).all id = true
  | 0 => rfl
  | k + 1 => by simp
theorem r_are_rows {m : Nat} (hm : m ≤ 4) {rows : List (List Int)} (h0 : rows ≠ []) (hl : rows.length < 64) (h : ∀ r ∈ rows, BitsN m r) (n : Nat) : (O (n + 5)).cl 9 [.fz (.lst (rows.map tupI)), .fz (.int m)] = .ok (.pl (.bl true), [.un, .un]) := by
  have e1 : (O (n + 4)).cl 3 [.fz (.lst (rows.map tupI))] = .ok (.pl (.bl true), [.un]) := rfl
  have e6 : ∀ r ∈ rows, (O (n + 4)).cl 6 [.fz (tupI r), .fz (.int m)] = .ok (.pl (.bl true), [.un, .un]) := fun r hr => by
    have hb := h r hr
    have := i_row n (tupI r) m rfl (fun x hx => by obtain ⟨v, _, rfl⟩ := List.mem_map.mp hx; rfl) (by show (r.map D.int).length ≤ 1000; rw [List.length_map, hb.1]; omega)
    rw [row_is hb] at this
    exact this
  rw [show n + 5 = (n + 4) + 1 from rfl, cl_of (d := d_are_rows) rfl]
  generalize O (n + 4) = o at *
  have lc : evE o [] (.lc [2] (.nm 2) .seq (.sole (.var 0)) (.yes) (.cal 6 (.cons (.var 2) (.cons (.var 1) (.nil))))) [.fz (.lst (rows.map tupI)), .fz (.int m), .un] = .ok (.fr (rows.map fun _ => .bl true), [.fz (.lst (rows.map tupI)), .fz (.int m), .un]) := by
    refine lc_mp (vs := [.pl (.lst (rows.map tupI))]) (dd := [.lst (rows.map tupI)]) rows tupI _ rfl rfl rfl rfl (Nat.le_trans (Nat.le_of_lt hl) (by decide)) (fun r hr => ?_) rfl
    have e := e6 r hr
    exact ⟨[.fz (.lst (rows.map tupI)), .fz (.int m), .fz (tupI r)], _, .pl (.bl true), rfl, cal_of rfl (by exact List.nodup_nil) e rfl, rfl, rfl⟩
  have al : biD .all [.lst (rows.map fun _ => .bl true)] = some (.pl (.bl true)) := by
    have := bools_map (fun _ => true) (rows.map tupI)
    rw [List.map_map] at this
    have this : boolsOf (rows.map fun _ => D.bl true) = some ((rows.map tupI).map fun _ => true) := this
    simp only [biD, this, Option.map_some, List.map_map]
    congr 3
    rw [List.all_eq_true]
    intro x hx
    obtain ⟨_, _, rfl⟩ := List.mem_map.mp hx
    rfl
  have c1 : decide ((0 : Int) < (((rows.map tupI).length : Nat) : Int)) = true := by
    rw [decide_eq_true_eq, List.length_map]
    have : 0 < rows.length := List.length_pos_iff.mpr h0
    omega
  refine runD_ok (v := .pl (.bl true)) (δ' := [.fz (.lst (rows.map tupI)), .fz (.int m), .un]) ⟨rfl, rfl⟩ ?_ (by show 2 ≤ 3; decide) True.intro rfl
  show evS o [] c_are_rows [.fz (.lst (rows.map tupI)), .fz (.int m), .un] = _
  unfold c_are_rows
  generalize rows.map tupI = R at *
  generalize (rows.map fun _ => D.bl true) = B at *
  clear e6 h h0 hl
  walk_at "ev"
/-- Relation(size, rows) -/
theorem r_init {m : Nat} (h1 : 1 ≤ m) (h4 : m ≤ 4) {rows : List (List Int)} (h0 : rows ≠ []) (hl : rows.length < 64) (h : ∀ r ∈ rows, BitsN m r) (n : Nat) :
    (O (n + 6)).cl 23 [.ob 0 [], .fz (.int m), .fz (.lst (rows.map tupI))] = .ok (.pl .non, [.ob 0 (fld2 m ((sortU rows).map tupI)), .un, .un]) := by
  have e8 : (O (n + 5)).cl 8 [.fz (.int m)] = .ok (.pl (.bl true), [.un]) := r_is_size h1 h4 (n + 3)
  have e9 := r_are_rows h4 h0 hl h n
  have es := sset_rows h1 hl h0 h
  rw [show n + 6 = (n + 5) + 1 from rfl, cl_of (d := d_Relation_init) rfl]
  have f1 : 0 < (O (n + 5)).nc := by show 0 < 1; decide
  have f2 : (O (n + 5)).fl 0 "size" = true := rfl
  have f3 : (O (n + 5)).fl 0 "rows" = true := rfl
  generalize O (n + 5) = o at *
  have p1 : putD "size" (.int (m : Int)) [] = fld1 m := rfl
  have p2 : putD "rows" (.tup ((sortU rows).map tupI)) (fld1 m) = fld2 m ((sortU rows).map tupI) := rfl
  have l0 : ([] : List (Str × D)).length < 1000 := by decide
  have l1 : (fld1 m).length < 1000 := by show 1 < 1000; decide
  refine runD_nx (δ' := [.ob 0 (fld2 m ((sortU rows).map tupI)), .fz (.int m), .fz (.lst (rows.map tupI))]) ⟨rfl, rfl⟩ ?_ (by show 3 ≤ 3; decide) rfl
  show evS o [0] c_Relation_init [.ob 0 [], .fz (.int m), .fz (.lst (rows.map tupI))] = _
  unfold c_Relation_init
  generalize rows.map tupI = R at *
  generalize (sortU rows).map tupI = S at *
  generalize fld2 m S = F2 at *
  generalize fld1 m = F1 at *
  have z0 : (0 < 1000) = True := by simp
  clear h h0 hl h1 h4
  walk_at "ev"
end Pf
/-! k43: clauses -/
namespace Pf
open PySem L2 B U
local macro_rules | `(tactic| walk_at "ev") => `(tactic| simp only [vE_int, vE_bl, vE_non, vE_str, vE_var, vE_pk, vE_gl, vE_bin, vE_neg, vE_not, vE_one, vE_and, vE_or, vE_cmp, vE_chn, vE_ite, vE_cal, vE_kal, vE_bm, vE_sset, vE_mak, vE_mt, endM_ok, endM_ex, vE_bi, vE_isi, vE_app, vE_fld, vE_xf, vE_xi, vE_ix, vE_sl, vE_tup, vE_lst, vT_yes, vT_not, vT_one, vT_and, vT_or, vT_tst, vT_cmp, vT_chn, vA_nil, vA_cons, vA_sole, vA_two, vO_nil, vO_tst, vS_skip, vS_pass, vS_seq, vS_asg, vS_par, vS_unp, vS_sti, vS_stf, vS_iff, vS_ret, vS_retN, vS_exp, vS_brk, vS_cnt, vS_rai, vS_try, vH_hnd, vH_skip, R.bind_ok, R.bind_ex, R.ofO_some, gS_z, gS_s, dv_pl, dv_fr, dv_al, cv_pl, cv_fr, cvs_nil, cvs_cons, dvs_nil, dvs_cons, als_nil, als_al, als_pl, als_fr, slA_pl, slA_fr, slA_al, slV_pl, slV_fr, endC_ok, endC_ex, gb_nil, gb_al, gb_pl, gb_fr, set_z, set_s, putS_nil, putS_one, bindN_one, Nat.reduceBEq, bindT_nm, bindT_tp, bindN_nil, bindN_cons, int_cmp_eq, int_cmp_ne, int_cmp_lt, int_cmp_le, int_cmp_gt, int_cmp_ge, bl_cmp_eq, bl_cmp_ne, is_non, isnt_non, is_bl, tru_bl, tru_int, bin_add_i, bin_sub_i, notD_of, isi_int_non, isi_int_bl, isi_int_int, isi_int_str, isi_int_tup, isi_int_lst, isi_int_ro, isi_bool_non, isi_bool_bl, isi_bool_int, isi_bool_str, isi_bool_tup, isi_bool_lst, isi_bool_ro, isi_str_non, isi_str_bl, isi_str_int, isi_str_str, isi_str_tup, isi_str_lst, isi_str_ro, isi_list_non, isi_list_bl, isi_list_int, isi_list_str, isi_list_tup, isi_list_lst, isi_list_ro, isi_tuple_non, isi_tuple_bl, isi_tuple_int, isi_tuple_str, isi_tuple_tup, isi_tuple_lst, isi_tuple_ro, isi_lt_non, isi_lt_bl, isi_lt_int, isi_lt_str, isi_lt_tup, isi_lt_lst, isi_lt_ro, bi_len_tup, bi_len_lst, bi_tuple_lst, bi_tuple_tup, bi_list_tup, bi_list_lst, bi_int_int, bi_int_bl, nn_non, nn_tup, nn_lst, nn_int, nn_bl, nn_str, nn_obj, Option.bind_some, Option.map_some, List.map_cons, List.map_nil, List.nodup_nil, nd1e, List.length_cons, List.length_nil, List.append_nil, List.nil_append, Nat.reduceAdd, Nat.reduceLeDiff, Nat.le_zero_eq, Nat.not_succ_le_zero, if_true, if_false, Bool.false_eq_true, Bool.not_true, Bool.not_false, Bool.true_eq_false, eq_self, decide_true, decide_false, and_self, true_and, and_true, List.not_mem_nil, or_false, false_or, reduceIte, *])
inductive Cs where
  | ifh (ps : List Nat) (j : Nat) | ifn (ps : List Nat) | pair (i j a b : Nat) | sum (ps : List Nat) (b : Nat)
def plc (ps : List Nat) : List D := ps.map fun (p : Nat) => D.int (p : Int)
def Cs.d : Cs → D
  | .ifh ps j => .tup [.str "if", .tup (plc ps), .int j]
  | .ifn ps => .tup [.str "if", .tup (plc ps)]
  | .pair i j a b => .tup [.str "pair", .int i, .int j, .int a, .int b]
  | .sum ps b => .tup [.str "sum", .tup (plc ps), .int b]
def psOk (m : Nat) (ps : List Nat) : Prop := ps.length ≤ 4 ∧ ∀ p ∈ ps, p < m
def Cs.ok (m : Nat) : Cs → Prop
  | .ifh ps j => psOk m ps ∧ j < m
  | .ifn ps => psOk m ps
  | .pair i j a b => i < m ∧ j < m ∧ a < 2 ∧ b < 2
  | .sum ps b => psOk m ps ∧ b < 2
def at_ (r : List Int) (p : Nat) : Int := r.getD p 0
def Cs.holds (r : List Int) : Cs → Bool
  | .ifh ps j => (ps.any fun p => at_ r p == 0) || at_ r j == 1
  | .ifn ps => ps.any fun p => at_ r p == 0
  | .pair i j a b => !(at_ r i == (a : Int)) || !(at_ r j == (b : Int))
  | .sum ps b => (ps.map (at_ r)).sum % 2 == (b : Int)
theorem st_pp : cmpD .Eq (.str "pair") (.str "pair") = some true := by decide +kernel
theorem st_ip : cmpD .Eq (.str "if") (.str "pair") = some false := by decide +kernel
theorem st_sp : cmpD .Eq (.str "sum") (.str "pair") = some false := by decide +kernel
theorem st_is : cmpD .Eq (.str "if") (.str "sum") = some false := by decide +kernel
theorem st_ss : cmpD .Eq (.str "sum") (.str "sum") = some true := by decide +kernel
theorem ints_cmpb (ns : List Int) : (D.lst (ns.map .int)).cmpb = true := by
  simp [D.cmpb, D.pure, D.py, SeqAt.shaped, PyData.canLay0, PyData.depth, ints_pure, ints_lay, ints_dep]
theorem in_ints (x : Int) (ns : List Int) : cmpD .In (.int x) (.lst (ns.map .int)) = some (ns.any (· == x)) := by
  show (if (D.int x).cmpb && (D.lst (ns.map .int)).cmpb then some ((ns.map D.int).any fun z => z.eqv (.int x)) else none) = _
  rw [ints_cmpb]
  show some ((ns.map D.int).any fun z => z.eqv (.int x)) = _
  rw [List.any_map]
  rfl
section
variable {m : Nat} {r : List Int} (hr : BitsN m r) {o : Orc}
include hr
theorem lc_row9 {c : D} {s2 s3 s4 s5 s6 s7 s8 : Sl} {is : C} {ps : List Nat} (hp : psOk m ps) (h : evE o [] is [.fz (tupI r), .fz c, s2, s3, s4, s5, s6, s7, s8, .un] = .ok (.pl (.tup (plc ps)), [.fz (tupI r), .fz c, s2, s3, s4, s5, s6, s7, s8, .un])) :
    evE o [] (.lc [9] (.nm 9) .seq (.sole is) (.yes) (.ix (.pk 0) (.pk 9))) [.fz (tupI r), .fz c, s2, s3, s4, s5, s6, s7, s8, .un] = .ok (.fr ((ps.map (at_ r)).map .int), [.fz (tupI r), .fz c, s2, s3, s4, s5, s6, s7, s8, .un]) := by
  rw [List.map_map]
  refine lc_mp (vs := [.pl (.tup (plc ps))]) (dd := [.tup (plc ps)]) ps (fun (p : Nat) => D.int (p : Int)) _ (sole_of h) rfl rfl rfl (Nat.le_trans hp.1 (by decide)) (fun p hpm => ?_) rfl
  exact ⟨[.fz (tupI r), .fz c, s2, s3, s4, s5, s6, s7, s8, .fz (.int (p : Int))], [.fz (tupI r), .fz c, s2, s3, s4, s5, s6, s7, s8, .fz (.int (p : Int))], .pl (.int (at_ r p)), rfl, ix_of rfl rfl rfl rfl (row_at hr (hp.2 p hpm)), rfl, rfl⟩
theorem lc_zero9 {c : D} {s2 s3 s4 s5 s6 s7 s8 : Sl} {is : C} {ps : List Nat} (hp : psOk m ps) (h : evE o [] is [.fz (tupI r), .fz c, s2, s3, s4, s5, s6, s7, s8, .un] = .ok (.pl (.tup (plc ps)), [.fz (tupI r), .fz c, s2, s3, s4, s5, s6, s7, s8, .un])) :
    evE o [] (.lc [9] (.nm 9) .seq (.sole is) (.yes) (.cmp .Eq (.ix (.pk 0) (.pk 9)) (.int 0))) [.fz (tupI r), .fz c, s2, s3, s4, s5, s6, s7, s8, .un] = .ok (.fr (ps.map fun p => .bl (at_ r p == 0)), [.fz (tupI r), .fz c, s2, s3, s4, s5, s6, s7, s8, .un]) := by
  refine lc_mp (vs := [.pl (.tup (plc ps))]) (dd := [.tup (plc ps)]) ps (fun (p : Nat) => D.int (p : Int)) _ (sole_of h) rfl rfl rfl (Nat.le_trans hp.1 (by decide)) (fun p hpm => ?_) rfl
  exact ⟨[.fz (tupI r), .fz c, s2, s3, s4, s5, s6, s7, s8, .fz (.int (p : Int))], [.fz (tupI r), .fz c, s2, s3, s4, s5, s6, s7, s8, .fz (.int (p : Int))], .pl (.bl (at_ r p == 0)), rfl, cmp_of (ix_of rfl rfl rfl rfl (row_at hr (hp.2 p hpm))) rfl rfl rfl (int_cmp_eq _ _), rfl, rfl⟩
theorem lc_row3 {c : D} {s2 : Sl} {ps : List Nat} (hp : psOk m ps) (h : evE o [] (.ix (.pk 1) (.int 1)) [.fz (tupI r), .fz c, s2, .un] = .ok (.pl (.tup (plc ps)), [.fz (tupI r), .fz c, s2, .un])) :
    evE o [] (.lc [3] (.nm 3) .seq (.sole (.ix (.pk 1) (.int 1))) (.yes) (.ix (.pk 0) (.pk 3))) [.fz (tupI r), .fz c, s2, .un] = .ok (.fr ((ps.map (at_ r)).map .int), [.fz (tupI r), .fz c, s2, .un]) := by
  rw [List.map_map]
  refine lc_mp (vs := [.pl (.tup (plc ps))]) (dd := [.tup (plc ps)]) ps (fun (p : Nat) => D.int (p : Int)) _ (sole_of h) rfl rfl rfl (Nat.le_trans hp.1 (by decide)) (fun p hpm => ?_) rfl
  exact ⟨[.fz (tupI r), .fz c, s2, .fz (.int (p : Int))], [.fz (tupI r), .fz c, s2, .fz (.int (p : Int))], .pl (.int (at_ r p)), rfl, ix_of rfl rfl rfl rfl (row_at hr (hp.2 p hpm)), rfl, rfl⟩
omit hr in
theorem sum_at (ns : List Int) : biD .sum [.lst (ns.map .int)] = some (.pl (.int ns.sum)) := by
  simp only [biD, ints_map, Option.map_some]
omit hr in
theorem any_at {α : Type} (ps : List α) (f : α → Bool) : biD .any [.lst (ps.map fun p => .bl (f p))] = some (.pl (.bl (ps.any f))) := by
  have e : ∀ ps : List α, boolsOf (ps.map fun p => D.bl (f p)) = some (ps.map f) := fun ps => by
    induction ps with
    | nil => rfl
    | cons p ps ih => simp only [List.map_cons, boolsOf, ih, Option.map_some]
  simp only [biD, e, Option.map_some, List.any_map]
  rfl
theorem r_fulfils {c : Cs} (hc : c.ok m) (n : Nat) : (O (n + 1)).cl 10 [.fz (tupI r), .fz c.d] = .ok (.pl (.bl (c.holds r)), [.un, .un]) := by
  rw [cl_of (d := d_fulfils) rfl]
  generalize O n = o
  have q1 := st_pp
  have q2 := st_ip
  have q3 := st_sp
  have q4 := st_is
  have q5 := st_ss
  have i3 : ((3 : Int) == 3) = true := rfl
  have i2 : ((2 : Int) == 3) = false := rfl
  cases c with
  | pair i j a b =>
    have a1 := row_at hr hc.1
    have a2 := row_at hr hc.2.1
    refine runD_ok (v := .pl (.bl (!(at_ r i == (a : Int)) || !(at_ r j == (b : Int))))) (δ' := [.fz (tupI r), .fz (Cs.pair i j a b).d, .fz (.str "pair"), .fz (.int i), .fz (.int j), .fz (.int a), .fz (.int b), .un, .un, .un]) ⟨rfl, rfl⟩ ?_ (by show 2 ≤ 10; decide) True.intro rfl
    show evS o [] c_fulfils [.fz (tupI r), .fz (.tup [.str "pair", .int i, .int j, .int a, .int b]), .un, .un, .un, .un, .un, .un, .un, .un] = R.ok (Fl.rt _, ([.fz (tupI r), .fz (.tup [.str "pair", .int i, .int j, .int a, .int b]), .fz (.str "pair"), .fz (.int i), .fz (.int j), .fz (.int a), .fz (.int b), .un, .un, .un] : En))
    have x0 : ixD (.tup [.str "pair", .int i, .int j, .int a, .int b]) (.int 0) = some (.str "pair") := rfl
    unfold c_fulfils
    change ixD (tupI r) (.int (i : Int)) = some (.int (at_ r i)) at a1
    change ixD (tupI r) (.int (j : Int)) = some (.int (at_ r j)) at a2
    generalize tupI r = T at *
    generalize at_ r i = x at *
    generalize at_ r j = y at *
    clear hr hc
    cases hx : (x == (a : Int)) with
    | true => walk_at "ev"; rfl
    | false => walk_at "ev"; rfl
  | sum ps b =>
    have lc := lc_row9 hr (o := o) (c := .tup [.str "sum", .tup (plc ps), .int b]) (s2 := .fz (.str "sum")) (s3 := .un) (s4 := .un) (s5 := .un) (s6 := .un) (s7 := .fz (.tup (plc ps))) (s8 := .fz (.int b)) (is := .var 7) hc.1 rfl
    have sm := sum_at (ps.map (at_ r))
    refine runD_ok (v := .pl (.bl ((ps.map (at_ r)).sum % 2 == (b : Int)))) (δ' := [.fz (tupI r), .fz (Cs.sum ps b).d, .fz (.str "sum"), .un, .un, .un, .un, .fz (.tup (plc ps)), .fz (.int b), .un]) ⟨rfl, rfl⟩ ?_ (by show 2 ≤ 10; decide) True.intro rfl
    show evS o [] c_fulfils [.fz (tupI r), .fz (.tup [.str "sum", .tup (plc ps), .int b]), .un, .un, .un, .un, .un, .un, .un, .un] = R.ok (Fl.rt _, ([.fz (tupI r), .fz (.tup [.str "sum", .tup (plc ps), .int b]), .fz (.str "sum"), .un, .un, .un, .un, .fz (.tup (plc ps)), .fz (.int b), .un] : En))
    have x0 : ixD (.tup [.str "sum", .tup (plc ps), .int b]) (.int 0) = some (.str "sum") := rfl
    have md : ∀ x : Int, binD .Mod (.int x) (.int 2) = some (.pl (.int (x % 2))) := fun x => bmod_p (by decide)
    unfold c_fulfils
    generalize tupI r = T at *
    generalize (ps.map (at_ r)).map D.int = L at *
    generalize (ps.map (at_ r)).sum = S at *
    generalize plc ps = P at *
    clear hr hc
    walk_at "ev"
  | ifh ps j =>
    have a1 : ixD (tupI r) (.int (j : Int)) = some (.int (at_ r j)) := row_at hr hc.2
    have lc := lc_zero9 hr (o := o) (c := .tup [.str "if", .tup (plc ps), .int j]) (s2 := .un) (s3 := .un) (s4 := .un) (s5 := .un) (s6 := .un) (s7 := .un) (s8 := .un) (is := .ix (.pk 1) (.int 1)) hc.1 rfl
    have an := any_at ps (fun p => at_ r p == 0)
    refine runD_ok (v := .pl (.bl ((ps.any fun p => at_ r p == 0) || at_ r j == 1))) (δ' := [.fz (tupI r), .fz (Cs.ifh ps j).d, .un, .un, .un, .un, .un, .un, .un, .un]) ⟨rfl, rfl⟩ ?_ (by show 2 ≤ 10; decide) True.intro rfl
    show evS o [] c_fulfils [.fz (tupI r), .fz (.tup [.str "if", .tup (plc ps), .int j]), .un, .un, .un, .un, .un, .un, .un, .un] = R.ok (Fl.rt _, ([.fz (tupI r), .fz (.tup [.str "if", .tup (plc ps), .int j]), .un, .un, .un, .un, .un, .un, .un, .un] : En))
    have x0 : ixD (.tup [.str "if", .tup (plc ps), .int j]) (.int 0) = some (.str "if") := rfl
    have x2 : ixD (.tup [.str "if", .tup (plc ps), .int j]) (.int 2) = some (.int j) := rfl
    have ln : biD .len [.tup [.str "if", .tup (plc ps), .int j]] = some (.pl (.int 3)) := rfl
    unfold c_fulfils
    generalize tupI r = T at *
    generalize (ps.map fun p => D.bl (at_ r p == 0)) = L at *
    generalize (ps.any fun p => at_ r p == 0) = A at *
    generalize at_ r j = y at *
    generalize Cs.d (.ifh ps j) = dd at *
    generalize plc ps = P at *
    clear hr hc
    cases hy : (y == 1) with
    | true => walk_at "ev"; rw [Bool.or_true]
    | false => walk_at "ev"; rw [Bool.or_false]
  | ifn ps =>
    have lc := lc_zero9 hr (o := o) (c := .tup [.str "if", .tup (plc ps)]) (s2 := .un) (s3 := .un) (s4 := .un) (s5 := .un) (s6 := .un) (s7 := .un) (s8 := .un) (is := .ix (.pk 1) (.int 1)) hc rfl
    have an := any_at ps (fun p => at_ r p == 0)
    refine runD_ok (v := .pl (.bl (ps.any fun p => at_ r p == 0))) (δ' := [.fz (tupI r), .fz (Cs.ifn ps).d, .un, .un, .un, .un, .un, .un, .un, .un]) ⟨rfl, rfl⟩ ?_ (by show 2 ≤ 10; decide) True.intro rfl
    show evS o [] c_fulfils [.fz (tupI r), .fz (.tup [.str "if", .tup (plc ps)]), .un, .un, .un, .un, .un, .un, .un, .un] = R.ok (Fl.rt _, ([.fz (tupI r), .fz (.tup [.str "if", .tup (plc ps)]), .un, .un, .un, .un, .un, .un, .un, .un] : En))
    have x0 : ixD (.tup [.str "if", .tup (plc ps)]) (.int 0) = some (.str "if") := rfl
    have ln : biD .len [.tup [.str "if", .tup (plc ps)]] = some (.pl (.int 2)) := rfl
    unfold c_fulfils
    generalize tupI r = T at *
    generalize (ps.map fun p => D.bl (at_ r p == 0)) = L at *
    generalize (ps.any fun p => at_ r p == 0) = A at *
    generalize plc ps = P at *
    clear hr hc
    walk_at "ev"
end
end Pf
/-! k43: the law's clauses; relations told by clauses -/
namespace Pf
open PySem L2 B U
local macro_rules | `(tactic| walk_at "ev") => `(tactic| simp only [vE_int, vE_bl, vE_non, vE_str, vE_var, vE_pk, vE_gl, vE_bin, vE_neg, vE_not, vE_one, vE_and, vE_or, vE_cmp, vE_chn, vE_ite, vE_cal, vE_kal, vE_bm, vE_sset, vE_mak, vE_mt, endM_ok, endM_ex, vE_bi, vE_isi, vE_app, vE_fld, vE_xf, vE_xi, vE_ix, vE_sl, vE_tup, vE_lst, vT_yes, vT_not, vT_one, vT_and, vT_or, vT_tst, vT_cmp, vT_chn, vA_nil, vA_cons, vA_sole, vA_two, vO_nil, vO_tst, vS_skip, vS_pass, vS_seq, vS_asg, vS_par, vS_unp, vS_sti, vS_stf, vS_iff, vS_ret, vS_retN, vS_exp, vS_brk, vS_cnt, vS_rai, vS_try, vH_hnd, vH_skip, R.bind_ok, R.bind_ex, R.ofO_some, gS_z, gS_s, dv_pl, dv_fr, dv_al, cv_pl, cv_fr, cvs_nil, cvs_cons, dvs_nil, dvs_cons, als_nil, als_al, als_pl, als_fr, slA_pl, slA_fr, slA_al, slV_pl, slV_fr, endC_ok, endC_ex, gb_nil, gb_al, gb_pl, gb_fr, set_z, set_s, putS_nil, putS_one, bindN_one, Nat.reduceBEq, bindT_nm, bindT_tp, bindN_nil, bindN_cons, int_cmp_eq, int_cmp_ne, int_cmp_lt, int_cmp_le, int_cmp_gt, int_cmp_ge, bl_cmp_eq, bl_cmp_ne, is_non, isnt_non, is_bl, tru_bl, tru_int, bin_add_i, bin_sub_i, notD_of, isi_int_non, isi_int_bl, isi_int_int, isi_int_str, isi_int_tup, isi_int_lst, isi_int_ro, isi_bool_non, isi_bool_bl, isi_bool_int, isi_bool_str, isi_bool_tup, isi_bool_lst, isi_bool_ro, isi_str_non, isi_str_bl, isi_str_int, isi_str_str, isi_str_tup, isi_str_lst, isi_str_ro, isi_list_non, isi_list_bl, isi_list_int, isi_list_str, isi_list_tup, isi_list_lst, isi_list_ro, isi_tuple_non, isi_tuple_bl, isi_tuple_int, isi_tuple_str, isi_tuple_tup, isi_tuple_lst, isi_tuple_ro, isi_lt_non, isi_lt_bl, isi_lt_int, isi_lt_str, isi_lt_tup, isi_lt_lst, isi_lt_ro, bi_len_tup, bi_len_lst, bi_tuple_lst, bi_tuple_tup, bi_list_tup, bi_list_lst, bi_int_int, bi_int_bl, nn_non, nn_tup, nn_lst, nn_int, nn_bl, nn_str, nn_obj, Option.bind_some, Option.map_some, List.map_cons, List.map_nil, List.nodup_nil, nd1e, List.length_cons, List.length_nil, List.append_nil, List.nil_append, Nat.reduceAdd, Nat.reduceLeDiff, Nat.le_zero_eq, Nat.not_succ_le_zero, if_true, if_false, Bool.false_eq_true, Bool.not_true, Bool.not_false, Bool.true_eq_false, eq_self, decide_true, decide_false, and_self, true_and, and_true, List.not_mem_nil, or_false, false_or, reduceIte, *])
theorem r_law_fulfils {m : Nat} {r : List Int} (hr : BitsN m r) {c : Cs} (hc : c.ok m) (n : Nat) : (O (n + 1)).cl 18 [.fz (tupI r), .fz c.d] = .ok (.pl (.bl (c.holds r)), [.un, .un]) := by
  rw [cl_of (d := d_law_fulfils) rfl]
  generalize O n = o
  have q1 := st_pp
  have q2 := st_ip
  have q3 := st_sp
  have q4 := st_is
  have q5 := st_ss
  have i3 : ((3 : Int) == 3) = true := rfl
  have i2 : ((2 : Int) == 3) = false := rfl
  cases c with
  | pair i j a b =>
    have a1 : ixD (tupI r) (.int (i : Int)) = some (.int (at_ r i)) := row_at hr hc.1
    have a2 : ixD (tupI r) (.int (j : Int)) = some (.int (at_ r j)) := row_at hr hc.2.1
    refine runD_ok (v := .pl (.bl (!(at_ r i == (a : Int)) || !(at_ r j == (b : Int))))) (δ' := [.fz (tupI r), .fz (Cs.pair i j a b).d, .un, .un]) ⟨rfl, rfl⟩ ?_ (by show 2 ≤ 4; decide) True.intro rfl
    show evS o [] c_law_fulfils [.fz (tupI r), .fz (.tup [.str "pair", .int i, .int j, .int a, .int b]), .un, .un] = R.ok (Fl.rt _, ([.fz (tupI r), .fz (.tup [.str "pair", .int i, .int j, .int a, .int b]), .un, .un] : En))
    have x0 : ixD (.tup [.str "pair", .int i, .int j, .int a, .int b]) (.int 0) = some (.str "pair") := rfl
    have x1 : ixD (.tup [.str "pair", .int i, .int j, .int a, .int b]) (.int 1) = some (.int i) := rfl
    have x2 : ixD (.tup [.str "pair", .int i, .int j, .int a, .int b]) (.int 2) = some (.int j) := rfl
    have x3 : ixD (.tup [.str "pair", .int i, .int j, .int a, .int b]) (.int 3) = some (.int a) := rfl
    have x4 : ixD (.tup [.str "pair", .int i, .int j, .int a, .int b]) (.int 4) = some (.int b) := rfl
    unfold c_law_fulfils
    generalize tupI r = T at *
    generalize at_ r i = x at *
    generalize at_ r j = y at *
    clear hr hc
    cases hx : (x == (a : Int)) with
    | true => walk_at "ev"; rfl
    | false => walk_at "ev"; rfl
  | sum ps b =>
    have lc := lc_row3 hr (o := o) (c := .tup [.str "sum", .tup (plc ps), .int b]) (s2 := .un) hc.1 rfl
    have sm := sum_at (ps.map (at_ r))
    refine runD_ok (v := .pl (.bl ((ps.map (at_ r)).sum % 2 == (b : Int)))) (δ' := [.fz (tupI r), .fz (Cs.sum ps b).d, .ow ((ps.map (at_ r)).map .int), .un]) ⟨rfl, rfl⟩ ?_ (by show 2 ≤ 4; decide) True.intro rfl
    show evS o [] c_law_fulfils [.fz (tupI r), .fz (.tup [.str "sum", .tup (plc ps), .int b]), .un, .un] = R.ok (Fl.rt _, ([.fz (tupI r), .fz (.tup [.str "sum", .tup (plc ps), .int b]), .ow ((ps.map (at_ r)).map .int), .un] : En))
    have x0 : ixD (.tup [.str "sum", .tup (plc ps), .int b]) (.int 0) = some (.str "sum") := rfl
    have x2 : ixD (.tup [.str "sum", .tup (plc ps), .int b]) (.int 2) = some (.int b) := rfl
    have md : ∀ x : Int, binD .Mod (.int x) (.int 2) = some (.pl (.int (x % 2))) := fun x => bmod_p (by decide)
    unfold c_law_fulfils
    generalize tupI r = T at *
    generalize (ps.map (at_ r)).map D.int = L at *
    generalize (ps.map (at_ r)).sum = S at *
    generalize plc ps = P at *
    clear hr hc
    walk_at "ev"
  | ifh ps j =>
    have a1 : ixD (tupI r) (.int (j : Int)) = some (.int (at_ r j)) := row_at hr hc.2
    have lc := lc_row3 hr (o := o) (c := .tup [.str "if", .tup (plc ps), .int j]) (s2 := .un) hc.1 rfl
    have an := in_ints 0 (ps.map (at_ r))
    rw [List.any_map] at an
    refine runD_ok (v := .pl (.bl ((ps.any fun p => at_ r p == 0) || at_ r j == 1))) (δ' := [.fz (tupI r), .fz (Cs.ifh ps j).d, .ow ((ps.map (at_ r)).map .int), .un]) ⟨rfl, rfl⟩ ?_ (by show 2 ≤ 4; decide) True.intro rfl
    show evS o [] c_law_fulfils [.fz (tupI r), .fz (.tup [.str "if", .tup (plc ps), .int j]), .un, .un] = R.ok (Fl.rt _, ([.fz (tupI r), .fz (.tup [.str "if", .tup (plc ps), .int j]), .ow ((ps.map (at_ r)).map .int), .un] : En))
    have x0 : ixD (.tup [.str "if", .tup (plc ps), .int j]) (.int 0) = some (.str "if") := rfl
    have x2 : ixD (.tup [.str "if", .tup (plc ps), .int j]) (.int 2) = some (.int j) := rfl
    have ln : biD .len [.tup [.str "if", .tup (plc ps), .int j]] = some (.pl (.int 3)) := rfl
    unfold c_law_fulfils
    change cmpD .In (.int 0) (.lst ((ps.map (at_ r)).map D.int)) = some (ps.any fun p => at_ r p == 0) at an
    generalize tupI r = T at *
    generalize (ps.map (at_ r)).map D.int = L at *
    generalize (ps.any fun p => at_ r p == 0) = A at *
    generalize at_ r j = y at *
    generalize plc ps = P at *
    clear hr hc
    cases A with
    | true => walk_at "ev"; rfl
    | false => walk_at "ev"; rfl
  | ifn ps =>
    have lc := lc_row3 hr (o := o) (c := .tup [.str "if", .tup (plc ps)]) (s2 := .un) hc rfl
    have an := in_ints 0 (ps.map (at_ r))
    rw [List.any_map] at an
    refine runD_ok (v := .pl (.bl (ps.any fun p => at_ r p == 0))) (δ' := [.fz (tupI r), .fz (Cs.ifn ps).d, .ow ((ps.map (at_ r)).map .int), .un]) ⟨rfl, rfl⟩ ?_ (by show 2 ≤ 4; decide) True.intro rfl
    show evS o [] c_law_fulfils [.fz (tupI r), .fz (.tup [.str "if", .tup (plc ps)]), .un, .un] = R.ok (Fl.rt _, ([.fz (tupI r), .fz (.tup [.str "if", .tup (plc ps)]), .ow ((ps.map (at_ r)).map .int), .un] : En))
    have x0 : ixD (.tup [.str "if", .tup (plc ps)]) (.int 0) = some (.str "if") := rfl
    have ln : biD .len [.tup [.str "if", .tup (plc ps)]] = some (.pl (.int 2)) := rfl
    unfold c_law_fulfils
    change cmpD .In (.int 0) (.lst ((ps.map (at_ r)).map D.int)) = some (ps.any fun p => at_ r p == 0) at an
    generalize tupI r = T at *
    generalize (ps.map (at_ r)).map D.int = L at *
    generalize (ps.any fun p => at_ r p == 0) = A at *
    generalize plc ps = P at *
    clear hr hc
    cases A with
    | true => walk_at "ev"
    | false => walk_at "ev"
/-- all clauses -/
def holdsAll (cs : List Cs) (r : List Int) : Bool := cs.all fun c => c.holds r
def csD (cs : List Cs) : List D := cs.map Cs.d
def toldR (m : Nat) (cs : List Cs) : List (List Int) := (every m).filter (holdsAll cs)
/-- clauses handed as a list or a tuple -/
def CsIn (m : Nat) (d : D) (cs : List Cs) : Prop := (d = .lst (csD cs) ∨ d = .tup (csD cs)) ∧ cs.length ≤ 5 ∧ ∀ c ∈ cs, c.ok m
theorem CsIn.walk {m : Nat} {d : D} {cs : List Cs} (h : CsIn m d cs) : itD .seq [d] = some (cs.map Cs.d) := by
  rcases h.1 with rfl | rfl <;> rfl
theorem all_at {α : Type} (ps : List α) (f : α → Bool) : biD .all [.lst (ps.map fun p => .bl (f p))] = some (.pl (.bl (ps.all f))) := by
  have e : ∀ ps : List α, boolsOf (ps.map fun p => D.bl (f p)) = some (ps.map f) := fun ps => by
    induction ps with
    | nil => rfl
    | cons p ps ih => simp only [List.map_cons, boolsOf, ih, Option.map_some]
  simp only [biD, e, Option.map_some, List.all_map]
  rfl
theorem r_all {m : Nat} {r : List Int} (hr : BitsN m r) {d : D} {cs : List Cs} (h : CsIn m d cs) (n : Nat) : (O (n + 2)).cl 12 [.fz (tupI r), .fz d] = .ok (.pl (.bl (holdsAll cs r)), [.un, .un]) := by
  have e : ∀ c ∈ cs, (O (n + 1)).cl 10 [.fz (tupI r), .fz c.d] = .ok (.pl (.bl (c.holds r)), [.un, .un]) := fun c hc => r_fulfils hr (h.2.2 c hc) n
  rw [show n + 2 = (n + 1) + 1 from rfl, cl_of (d := d_fulfils_all) rfl]
  generalize O (n + 1) = o at *
  have lc : evE o [] (.lc [2] (.nm 2) .seq (.sole (.var 1)) (.yes) (.cal 10 (.cons (.var 0) (.cons (.var 2) (.nil))))) [.fz (tupI r), .fz d, .un] = .ok (.fr (cs.map fun c => .bl (c.holds r)), [.fz (tupI r), .fz d, .un]) := by
    refine lc_mp (vs := [.pl d]) (dd := [d]) cs Cs.d _ rfl rfl h.walk rfl (Nat.le_trans h.2.1 (by decide)) (fun c hc => ?_) rfl
    exact ⟨[.fz (tupI r), .fz d, .fz c.d], [.fz (tupI r), .fz d, .fz c.d], .pl (.bl (c.holds r)), rfl, cal_of rfl (by exact List.nodup_nil) (e c hc) rfl, rfl, rfl⟩
  have al := all_at cs (fun c => c.holds r)
  exact runD_ok (v := .pl (.bl (holdsAll cs r))) (δ' := [.fz (tupI r), .fz d, .un]) ⟨rfl, rfl⟩ (ret_seq (bi1_of lc rfl al) rfl) (by show 2 ≤ 3; decide) True.intro rfl
theorem told_bits {m : Nat} {cs : List Cs} : ∀ r ∈ toldR m cs, BitsN m r := fun r hr => every_bits r ((List.mem_filter.mp hr).1)
theorem told_len {m : Nat} (h4 : m ≤ 4) {cs : List Cs} : (toldR m cs).length ≤ 16 := by
  refine Nat.le_trans (List.length_filter_le _ _) ?_
  rw [every_len]
  exact Nat.le_trans (Nat.pow_le_pow_right (by decide) h4) (by decide)
theorem told_sort {m : Nat} (h4 : m ≤ 4) {cs : List Cs} : sortU (toldR m cs) = toldR m cs := sortU_self told_bits (List.Pairwise.filter _ (every_asc m h4))
theorem lc_told {o : Orc} {m : Nat} (h4 : m ≤ 4) {d : D} {cs : List Cs} (e7 : o.cl 7 [.fz (.int m)] = .ok (.pl (.lst ((every m).map tupI)), [.un])) (e12 : ∀ r ∈ every m, o.cl 12 [.fz (tupI r), .fz d] = .ok (.pl (.bl (holdsAll cs r)), [.un, .un])) :
    evE o [] (.lc [3] (.nm 3) .seq (.sole (.cal 7 (.cons (.var 0) (.nil)))) (.one .And (.tst (.cal 12 (.cons (.var 3) (.cons (.var 1) (.nil)))))) (.var 3)) [.fz (.int m), .fz d, .un, .un] = .ok (.fr ((toldR m cs).map tupI), [.fz (.int m), .fz d, .un, .un]) := by
  refine lc_fm (vs := [.pl (.lst ((every m).map tupI))]) (dd := [.lst ((every m).map tupI)]) (every m) tupI (holdsAll cs) tupI (sole_of (cal_of rfl (by exact List.nodup_nil) e7 rfl)) rfl rfl rfl ?_ (fun r hr => ?_) rfl
  · rw [every_len]
    exact Nat.le_trans (Nat.pow_le_pow_right (by decide) h4) (by decide)
  · have e := e12 r hr
    exact ⟨[.fz (.int m), .fz d, .un, .fz (tupI r)], [.fz (.int m), .fz d, .un, .fz (tupI r)], rfl, tst_of (cal_of rfl (by exact List.nodup_nil) e rfl) rfl rfl, fun _ => rfl, fun _ => ⟨[.fz (.int m), .fz d, .un, .fz (tupI r)], .pl (tupI r), rfl, rfl, rfl⟩⟩
theorem r_told {m : Nat} (h1 : 1 ≤ m) (h4 : m ≤ 4) {d : D} {cs : List Cs} (h : CsIn m d cs) (n : Nat) : (O (n + 9)).cl 11 [.fz (.int m), .fz d] = if toldR m cs = [] then .ex 4 [("what", .str "relation")] [.un, .un] else .ok (.pl (relD m (toldR m cs)), [.un, .un]) := by
  have e1 : (O (n + 8)).cl 1 [.fz (.int m)] = .ok (.pl (.bl true), [.un]) := i_integer (n + 7) (.int m) rfl
  have e7 := r_all_rows (n + 7) m h4
  have e12 : ∀ r ∈ every m, (O (n + 8)).cl 12 [.fz (tupI r), .fz d] = .ok (.pl (.bl (holdsAll cs r)), [.un, .un]) := fun r hr => r_all (every_bits r hr) h (n + 6)
  have em : toldR m cs ≠ [] → (O (n + 8)).mkc 0 [.ob 0 [], .fz (.int m), .fz (.lst ((toldR m cs).map tupI))] = .ok (.pl .non, [.ob 0 (fld2 m ((sortU (toldR m cs)).map tupI)), .un, .un]) := fun h0 => r_init h1 h4 h0 (Nat.lt_of_le_of_lt (told_len h4) (by decide)) told_bits (n + 1)
  rw [told_sort h4] at em
  rw [show n + 9 = (n + 8) + 1 from rfl, cl_of (d := d_told_by) rfl]
  have g0 := gl0 (n + 8)
  have x4 : (O (n + 8)).xf 4 = some ([("what" : Str)] : List Str) := rfl
  have z : ([("what" : Str)].zip [D.str "relation"]).reverse = [(("what" : Str), D.str "relation")] := rfl
  generalize O (n + 8) = o at *
  have lc := lc_told h4 e7 e12
  have c1 : decide ((1 : Int) ≤ (m : Int)) = true := by rw [decide_eq_true_eq]; omega
  have c2 : decide ((m : Int) ≤ 4) = true := by rw [decide_eq_true_eq]; omega
  by_cases h0 : toldR m cs = []
  · rw [if_pos h0]
    rw [h0] at lc
    refine runD_exc (δ' := [.fz (.int m), .fz d, .ow [], .un]) ⟨rfl, rfl⟩ ?_ (by show 2 ≤ 4; decide) rfl
    show evS o [] c_told_by [.fz (.int m), .fz d, .un, .un] = _
    unfold c_told_by
    have lc : evE o [] (.lc [3] (.nm 3) .seq (.sole (.cal 7 (.cons (.var 0) (.nil)))) (.one .And (.tst (.cal 12 (.cons (.var 3) (.cons (.var 1) (.nil)))))) (.var 3)) [.fz (.int m), .fz d, .un, .un] = .ok (.fr [], [.fz (.int m), .fz d, .un, .un]) := lc
    have t0 : truD (.lst []) = some false := rfl
    clear em e7 e12 h0 h h1 h4
    walk_at "ev"
  · rw [if_neg h0]
    have em := em h0
    have t0 : truD (.lst ((toldR m cs).map tupI)) = some true := by
      cases hh : toldR m cs with
      | nil => exact absurd hh h0
      | cons a b => rfl
    refine runD_ok (v := .pl (relD m (toldR m cs))) (δ' := [.fz (.int m), .fz d, .fz (.lst ((toldR m cs).map tupI)), .un]) ⟨rfl, rfl⟩ ?_ (by show 2 ≤ 4; decide) True.intro rfl
    show evS o [] c_told_by [.fz (.int m), .fz d, .un, .un] = _
    unfold c_told_by relD
    generalize (toldR m cs).map tupI = R at *
    generalize fld2 m R = F at *
    clear e7 e12 h0 h h1 h4
    walk_at "ev"
end Pf
/-! k43: what the law tells, is it the relation, what is refused -/
namespace Pf
open PySem L2 B U
local macro_rules | `(tactic| walk_at "ev") => `(tactic| simp only [vE_int, vE_bl, vE_non, vE_str, vE_var, vE_pk, vE_gl, vE_bin, vE_neg, vE_not, vE_one, vE_and, vE_or, vE_cmp, vE_chn, vE_ite, vE_cal, vE_kal, vE_bm, vE_sset, vE_mak, vE_mt, endM_ok, endM_ex, vE_bi, vE_isi, vE_app, vE_fld, vE_xf, vE_xi, vE_ix, vE_sl, vE_tup, vE_lst, vT_yes, vT_not, vT_one, vT_and, vT_or, vT_tst, vT_cmp, vT_chn, vA_nil, vA_cons, vA_sole, vA_two, vO_nil, vO_tst, vS_skip, vS_pass, vS_seq, vS_asg, vS_par, vS_unp, vS_sti, vS_stf, vS_iff, vS_ret, vS_retN, vS_exp, vS_brk, vS_cnt, vS_rai, vS_try, vH_hnd, vH_skip, R.bind_ok, R.bind_ex, R.ofO_some, gS_z, gS_s, dv_pl, dv_fr, dv_al, cv_pl, cv_fr, cvs_nil, cvs_cons, dvs_nil, dvs_cons, als_nil, als_al, als_pl, als_fr, slA_pl, slA_fr, slA_al, slV_pl, slV_fr, endC_ok, endC_ex, gb_nil, gb_al, gb_pl, gb_fr, set_z, set_s, putS_nil, putS_one, bindN_one, Nat.reduceBEq, bindT_nm, bindT_tp, bindN_nil, bindN_cons, int_cmp_eq, int_cmp_ne, int_cmp_lt, int_cmp_le, int_cmp_gt, int_cmp_ge, bl_cmp_eq, bl_cmp_ne, is_non, isnt_non, is_bl, tru_bl, tru_int, bin_add_i, bin_sub_i, notD_of, isi_int_non, isi_int_bl, isi_int_int, isi_int_str, isi_int_tup, isi_int_lst, isi_int_ro, isi_bool_non, isi_bool_bl, isi_bool_int, isi_bool_str, isi_bool_tup, isi_bool_lst, isi_bool_ro, isi_str_non, isi_str_bl, isi_str_int, isi_str_str, isi_str_tup, isi_str_lst, isi_str_ro, isi_list_non, isi_list_bl, isi_list_int, isi_list_str, isi_list_tup, isi_list_lst, isi_list_ro, isi_tuple_non, isi_tuple_bl, isi_tuple_int, isi_tuple_str, isi_tuple_tup, isi_tuple_lst, isi_tuple_ro, isi_lt_non, isi_lt_bl, isi_lt_int, isi_lt_str, isi_lt_tup, isi_lt_lst, isi_lt_ro, bi_len_tup, bi_len_lst, bi_tuple_lst, bi_tuple_tup, bi_list_tup, bi_list_lst, bi_int_int, bi_int_bl, nn_non, nn_tup, nn_lst, nn_int, nn_bl, nn_str, nn_obj, Option.bind_some, Option.map_some, List.map_cons, List.map_nil, List.nodup_nil, nd1e, List.length_cons, List.length_nil, List.append_nil, List.nil_append, Nat.reduceAdd, Nat.reduceLeDiff, Nat.le_zero_eq, Nat.not_succ_le_zero, if_true, if_false, Bool.false_eq_true, Bool.not_true, Bool.not_false, Bool.true_eq_false, eq_self, decide_true, decide_false, and_self, true_and, and_true, List.not_mem_nil, or_false, false_or, reduceIte, *])
def dueD (m : Nat) (rows : List (List Int)) : D := .tup [.int m, .tup (rows.map tupI)]
def tB : S := (.seq (.iff (.cmp .Eq (.bi .len (.cons (.lc [4] (.nm 4) .seq (.sole (.var 1)) (.one .And (.not (.tst (.cal 18 (.cons (.var 3) (.cons (.var 4) (.nil))))))) (.var 4)) (.nil))) (.int 0)) (.seq (.exp (.app 2 (.var 3))) (.skip)) (.skip)) (.skip))
theorem none_bad {cs : List Cs} {r : List Int} : (((cs.filter fun c => !(c.holds r)).map Cs.d).length : Int) == 0 ↔ holdsAll cs r = true := by
  rw [beq_iff_eq, List.length_map]
  have : ((cs.filter fun c => !(c.holds r)).length : Int) = 0 ↔ (cs.filter fun c => !(c.holds r)) = [] := by
    rw [← List.length_eq_zero_iff]; omega
  rw [this, List.filter_eq_nil_iff]
  unfold holdsAll
  rw [List.all_eq_true]
  constructor
  · intro h c hc
    have := h c hc
    simpa using this
  · intro h c hc
    simp [h c hc]
theorem t_turn {o : Orc} {m : D} {d : D} {cs : List Cs} {mm : Nat} (h : CsIn mm d cs) {r : List Int} {acc : List D} (hl : acc.length < sizeLine) (e : ∀ c ∈ cs, o.cl 18 [.fz (tupI r), .fz c.d] = .ok (.pl (.bl (c.holds r)), [.un, .un])) :
    evS o [] tB [.fz m, .fz d, .ow acc, .fz (tupI r), .un] = .ok (.nx, [.fz m, .fz d, .ow (if holdsAll cs r then acc ++ [tupI r] else acc), .fz (tupI r), .un]) := by
  have lc : evE o [] (.lc [4] (.nm 4) .seq (.sole (.var 1)) (.one .And (.not (.tst (.cal 18 (.cons (.var 3) (.cons (.var 4) (.nil))))))) (.var 4)) [.fz m, .fz d, .ow acc, .fz (tupI r), .un] = .ok (.fr ((cs.filter fun c => !(c.holds r)).map Cs.d), [.fz m, .fz d, .ow acc, .fz (tupI r), .un]) := by
    refine lc_fm (vs := [.pl d]) (dd := [d]) cs Cs.d (fun c => !(c.holds r)) Cs.d rfl rfl h.walk rfl (Nat.le_trans h.2.1 (by decide)) (fun c hc => ?_) rfl
    have e := e c hc
    exact ⟨[.fz m, .fz d, .ow acc, .fz (tupI r), .fz c.d], [.fz m, .fz d, .ow acc, .fz (tupI r), .fz c.d], rfl, notT_of (tst_of (cal_of rfl (by exact List.nodup_nil) e rfl) rfl rfl), fun _ => rfl, fun _ => ⟨[.fz m, .fz d, .ow acc, .fz (tupI r), .fz c.d], .pl c.d, rfl, rfl, rfl⟩⟩
  have nb := none_bad (cs := cs) (r := r)
  unfold tB
  clear e
  generalize ((cs.filter fun c => !(c.holds r)).map Cs.d) = L at *
  cases hh : holdsAll cs r with
  | true =>
    have hb : (((L.length : Nat) : Int) == 0) = true := nb.mpr hh
    clear nb hh h
    generalize tupI r = T at *
    walk_at "ev"
  | false =>
    have hb : (((L.length : Nat) : Int) == 0) = false := by
      cases q : (((L.length : Nat) : Int) == 0) with
      | false => rfl
      | true => rw [nb.mp q] at hh; cases hh
    clear nb hh h
    generalize tupI r = T at *
    walk_at "ev"
theorem r_law_told {m : Nat} (h4 : m ≤ 4) {d : D} {cs : List Cs} (h : CsIn m d cs) (n : Nat) : (O (n + 2)).cl 19 [.fz (.int m), .fz d] = .ok (.pl (dueD m (toldR m cs)), [.un, .un]) := by
  have e15 := i_every n m (by omega)
  have e18 : ∀ r ∈ every m, ∀ c ∈ cs, (O (n + 1)).cl 18 [.fz (tupI r), .fz c.d] = .ok (.pl (.bl (c.holds r)), [.un, .un]) := fun r hr c hc => r_law_fulfils (every_bits r hr) (h.2.2 c hc) n
  have hlen : (every m).length ≤ 16 := by rw [every_len]; exact Nat.le_trans (Nat.pow_le_pow_right (by decide) h4) (by decide)
  rw [show n + 2 = (n + 1) + 1 from rfl, cl_of (d := d_law_told) rfl]
  generalize O (n + 1) = o at *
  obtain ⟨δ', f1, s3, q1⟩ := for_run (o := o) (bd := []) (tg := .nm 3) (k := .seq) (is := .sole (.cal 15 (.cons (.var 0) (.nil)))) (b := tB) (δ := [.fz (.int m), .fz d, .ow [], .un, .un]) (vs := [.pl (.lst ((every m).map tupI))]) (dd := [.lst ((every m).map tupI)]) (items := (every m).map tupI)
    (fun i δ => ∃ s3, δ = [.fz (.int m), .fz d, .ow ((((every m).take i).filter (holdsAll cs)).map tupI), s3, .un]) (sole_of (cal_of rfl (by exact List.nodup_nil) e15 rfl)) rfl rfl ⟨.un, rfl⟩ (by
      rintro i x δ hi ⟨s3, rfl⟩
      rw [List.getElem?_map] at hi
      cases hr : (every m)[i]? with
      | none => rw [hr] at hi; cases hi
      | some r =>
        rw [hr] at hi
        cases hi
        have t := t_turn (o := o) (m := .int m) h (r := r) (acc := (((every m).take i).filter (holdsAll cs)).map tupI) (by
          rw [List.length_map]
          refine Nat.lt_of_le_of_lt (List.length_filter_le _ _) ?_
          rw [List.length_take]
          exact Nat.lt_of_le_of_lt (Nat.le_trans (Nat.min_le_right _ _) hlen) (by decide)) (e18 r (List.mem_of_getElem? hr))
        refine ⟨_, _, rfl, .inl t, .fz (tupI r), ?_⟩
        have et : (every m).take (i + 1) = (every m).take i ++ [r] := by rw [List.take_add_one, hr]; rfl
        rw [et, List.filter_append, List.map_append]
        cases hh : holdsAll cs r with
        | true => simp [hh]
        | false => simp [hh])
  subst q1
  rw [List.take_of_length_le (by rw [List.length_map]; exact Nat.le_refl _)] at f1
  refine runD_ok (v := .pl (dueD m (toldR m cs))) (δ' := [.fz (.int m), .fz d, .ow ((toldR m cs).map tupI), s3, .un]) ⟨rfl, rfl⟩ ?_ (by show 2 ≤ 5; decide) True.intro rfl
  have rt : evS o [] (.seq (.ret (.tup (.cons (.var 0) (.cons (.bi .tuple (.cons (.pk 2) (.nil))) (.nil))))) (.skip)) [.fz (.int m), .fz d, .ow ((toldR m cs).map tupI), s3, .un] = .ok (.rt (.pl (dueD m (toldR m cs))), [.fz (.int m), .fz d, .ow ((toldR m cs).map tupI), s3, .un]) := by
    unfold dueD
    generalize (toldR m cs).map tupI = R at *
    have z2 : 2 ≤ sizeLine := by decide
    clear f1 e15 e18 h
    walk_at "ev"
  exact (asg_seq (v := .fr []) (δ2 := [.fz (.int m), .fz d, .ow [], .un, .un]) rfl rfl).trans ((seq_nx f1).trans rt)
/-! repr of it -/
theorem rp_num {m : Nat} (h : m ≤ 4) : Rp (.int (m : Int)) 2 1 := by
  match m, h with
  | 0, _ => exact rp_dec (by decide +kernel)
  | 1, _ => exact rp_dec (by decide +kernel)
  | 2, _ => exact rp_dec (by decide +kernel)
  | 3, _ => exact rp_dec (by decide +kernel)
  | 4, _ => exact rp_dec (by decide +kernel)
theorem rp_row {m : Nat} (h4 : m ≤ 4) {r : List Int} (h : BitsN m r) : Rp (tupI r) 1 15 := by
  refine Rp.tup (k := 0) (n := 1) (m := 4) (fun x hx => ?_) (by rw [List.length_map, h.1]; exact h4)
  obtain ⟨v, hv, rfl⟩ := List.mem_map.mp hx
  exact Rp.bit (bits_bit h v hv)
theorem rp_due {m : Nat} (h4 : m ≤ 4) {rows : List (List Int)} (hl : rows.length ≤ 16) (h : ∀ r ∈ rows, BitsN m r) : Rp (dueD m rows) 3 557 := by
  refine Rp.tup (k := 2) (n := 275) (m := 2) (fun x hx => ?_) (Nat.le_refl _)
  simp only [List.mem_cons, List.not_mem_nil, or_false] at hx
  rcases hx with rfl | rfl
  · exact (rp_num h4).mono (by decide) (by decide)
  · refine Rp.tup (k := 1) (n := 15) (m := 16) (fun y hy => ?_) (by rw [List.length_map]; exact hl)
    obtain ⟨r, hr, rfl⟩ := List.mem_map.mp hy
    exact rp_row h4 (h r hr)
theorem r_is_rel {m : Nat} (h4 : m ≤ 4) {rows : List (List Int)} (hl : rows.length ≤ 16) (h : ∀ r ∈ rows, BitsN m r) (n : Nat) : (O (n + 1)).cl 20 [.fz (relD m rows), .fz (dueD m rows)] = .ok (.pl (.bl true), [.un, .un]) := by
  have rp := rp_due h4 hl h
  have r1 := repr_of rp (by decide) (by decide)
  have r2 : cmpD .Eq (.str (dueD m rows).py.shown) (.str (dueD m rows).py.shown) = some true := same_repr rp
  rw [cl_of (d := d_law_is_relation) rfl]
  have i0 : isiD (O n).nc (O n).sub [.own 0] (relD m rows) = some true := by cases n <;> rfl
  have f1 : fldD (O n) "size" (relD m rows) = some (.int m) := by cases n <;> rfl
  have f2 : fldD (O n) "rows" (relD m rows) = some (.tup (rows.map tupI)) := by cases n <;> rfl
  generalize O n = o at *
  have ed : dueD m rows = .tup [.int m, .tup (rows.map tupI)] := rfl
  generalize hsh : (dueD m rows).py.shown = sh at *
  refine runD_ok (v := .pl (.bl true)) (δ' := [.fz (relD m rows), .fz (dueD m rows)]) ⟨rfl, rfl⟩ ?_ (by show 2 ≤ 2; decide) True.intro rfl
  show evS o [] c_law_is_relation [.fz (relD m rows), .fz (dueD m rows)] = _
  unfold c_law_is_relation
  rw [ed] at r1 ⊢
  generalize relD m rows = X at *
  generalize D.tup (rows.map tupI) = R at *
  have z2 : 2 ≤ sizeLine := by decide
  clear rp ed hsh h hl h4
  walk_at "ev"
end Pf
/-! k43: what is refused -/
namespace Pf
open PySem L2 B U
local macro_rules | `(tactic| walk_at "ev") => `(tactic| simp only [vE_int, vE_bl, vE_non, vE_str, vE_var, vE_pk, vE_gl, vE_bin, vE_neg, vE_not, vE_one, vE_and, vE_or, vE_cmp, vE_chn, vE_ite, vE_cal, vE_kal, vE_bm, vE_sset, vE_mak, vE_mt, endM_ok, endM_ex, vE_bi, vE_isi, vE_app, vE_fld, vE_xf, vE_xi, vE_ix, vE_sl, vE_tup, vE_lst, vT_yes, vT_not, vT_one, vT_and, vT_or, vT_tst, vT_cmp, vT_chn, vA_nil, vA_cons, vA_sole, vA_two, vO_nil, vO_tst, vS_skip, vS_pass, vS_seq, vS_asg, vS_par, vS_unp, vS_sti, vS_stf, vS_iff, vS_ret, vS_retN, vS_exp, vS_brk, vS_cnt, vS_rai, vS_try, vH_hnd, vH_skip, R.bind_ok, R.bind_ex, R.ofO_some, gS_z, gS_s, dv_pl, dv_fr, dv_al, cv_pl, cv_fr, cvs_nil, cvs_cons, dvs_nil, dvs_cons, als_nil, als_al, als_pl, als_fr, slA_pl, slA_fr, slA_al, slV_pl, slV_fr, endC_ok, endC_ex, gb_nil, gb_al, gb_pl, gb_fr, set_z, set_s, putS_nil, putS_one, bindN_one, Nat.reduceBEq, bindT_nm, bindT_tp, bindN_nil, bindN_cons, int_cmp_eq, int_cmp_ne, int_cmp_lt, int_cmp_le, int_cmp_gt, int_cmp_ge, bl_cmp_eq, bl_cmp_ne, is_non, isnt_non, is_bl, tru_bl, tru_int, bin_add_i, bin_sub_i, notD_of, isi_int_non, isi_int_bl, isi_int_int, isi_int_str, isi_int_tup, isi_int_lst, isi_int_ro, isi_bool_non, isi_bool_bl, isi_bool_int, isi_bool_str, isi_bool_tup, isi_bool_lst, isi_bool_ro, isi_str_non, isi_str_bl, isi_str_int, isi_str_str, isi_str_tup, isi_str_lst, isi_str_ro, isi_list_non, isi_list_bl, isi_list_int, isi_list_str, isi_list_tup, isi_list_lst, isi_list_ro, isi_tuple_non, isi_tuple_bl, isi_tuple_int, isi_tuple_str, isi_tuple_tup, isi_tuple_lst, isi_tuple_ro, isi_lt_non, isi_lt_bl, isi_lt_int, isi_lt_str, isi_lt_tup, isi_lt_lst, isi_lt_ro, bi_len_tup, bi_len_lst, bi_tuple_lst, bi_tuple_tup, bi_list_tup, bi_list_lst, bi_int_int, bi_int_bl, nn_non, nn_tup, nn_lst, nn_int, nn_bl, nn_str, nn_obj, Option.bind_some, Option.map_some, List.map_cons, List.map_nil, List.nodup_nil, nd1e, List.length_cons, List.length_nil, List.append_nil, List.nil_append, Nat.reduceAdd, Nat.reduceLeDiff, Nat.le_zero_eq, Nat.not_succ_le_zero, if_true, if_false, Bool.false_eq_true, Bool.not_true, Bool.not_false, Bool.true_eq_false, eq_self, decide_true, decide_false, and_self, true_and, and_true, List.not_mem_nil, or_false, false_or, reduceIte, *])
def sizeD : D → Bool
  | .int i => decide (1 ≤ i) && decide (i ≤ 4)
  | _ => false
theorem r_told_odd {d x : D} (hn : noObj d = true) (hs : sizeD d = false) (n : Nat) : (O (n + 3)).cl 11 [.fz d, .fz x] = .ex 2 [("value", d)] [.un, .un] := by
  have e1 := i_integer (n + 1) d hn
  rw [show n + 3 = (n + 2) + 1 from rfl, cl_of (d := d_told_by) rfl]
  have g0 := gl0 (n + 2)
  have x2 : (O (n + 2)).xf 2 = some ([("value" : Str)] : List Str) := rfl
  have z : ([("value" : Str)].zip [d]).reverse = [(("value" : Str), d)] := rfl
  change (O (n + 2)).cl 1 _ = _ at e1
  generalize O (n + 2) = o at *
  refine runD_exc (δ' := [.fz d, .fz x, .un, .un]) ⟨rfl, rfl⟩ ?_ (by show 2 ≤ 4; decide) rfl
  show evS o [] c_told_by [.fz d, .fz x, .un, .un] = _
  unfold c_told_by
  cases d with
  | int i =>
    replace e1 : o.cl 1 [.fz (.int i)] = .ok (.pl (.bl true), [.un]) := e1
    cases c1 : decide ((1 : Int) ≤ i) with
    | false => clear hn hs; walk_at "ev"
    | true =>
      have c2 : decide (i ≤ (4 : Int)) = false := by
        have : (decide (1 ≤ i) && decide (i ≤ 4)) = false := hs
        rw [c1, Bool.true_and] at this
        exact this
      clear hn hs
      walk_at "ev"
  | obj c fs => simp [noObj] at hn
  | tbl fs => simp [noObj] at hn
  | non => replace e1 : o.cl 1 [.fz .non] = .ok (.pl (.bl false), [.un]) := e1; clear hn hs; walk_at "ev"
  | bl b => replace e1 : o.cl 1 [.fz (.bl b)] = .ok (.pl (.bl false), [.un]) := e1; clear hn hs; walk_at "ev"
  | str s => replace e1 : o.cl 1 [.fz (.str s)] = .ok (.pl (.bl false), [.un]) := e1; clear hn hs; walk_at "ev"
  | tup xs => replace e1 : o.cl 1 [.fz (.tup xs)] = .ok (.pl (.bl false), [.un]) := e1; clear hn hs; walk_at "ev"
  | lst xs => replace e1 : o.cl 1 [.fz (.lst xs)] = .ok (.pl (.bl false), [.un]) := e1; clear hn hs; walk_at "ev"
  | ro xs => replace e1 : o.cl 1 [.fz (.ro xs)] = .ok (.pl (.bl false), [.un]) := e1; clear hn hs; walk_at "ev"
theorem join1 {x : Str} (h : x.length ≤ 1000) : bmD .join (.str " ") [.lst [.str x]] = some (.pl (.str x)) := by
  have e : strsOf [.str x] = some [x] := rfl
  have l1 : ((" " : Str).length) = 1 := rfl
  simp only [bmD, e, Option.bind_some, List.map_cons, List.map_nil, List.sum_cons, List.sum_nil, List.length_cons, List.length_nil, l1]
  rw [if_pos (by omega)]
  rfl
/-- the suite's end: what was found -/
theorem r_ref_number {d x : D} {n k : Nat} (hn : noObj d = true) (hs : sizeD d = false) (rp : Rp d 3 k) (hk : k ≤ 500) : (O (n + 4)).cl 21 [.fz d, .fz x] = .ok (.pl (.str ("number " ++ d.py.shown)), [.un, .un]) := by
  have e1 := r_told_odd (x := x) hn hs n
  have r1 := repr_of rp (by decide) (by omega)
  have hl : (("number " : Str) ++ d.py.shown).length ≤ 1000 := by
    rw [strLen_append]
    have : (("number " : String) : Str).length = 7 := rfl
    have := rp.len
    omega
  have ad : binD .Add (.str "number ") (.str d.py.shown) = some (.pl (.str ("number " ++ d.py.shown))) := by
    show (if (("number " : String) : Str).length + d.py.shown.length ≤ sizeLine then _ else _) = _
    have l7 : (("number " : String) : Str).length = 7 := rfl
    have := rp.len
    rw [if_pos (Nat.le_trans (by omega : _ ≤ 1000) (by decide))]
  have jn := join1 hl
  rw [show n + 4 = (n + 3) + 1 from rfl, cl_of (d := d_law_refusal) rfl]
  have x1 : (O (n + 3)).xs 2 1 = some true := rfl
  have nf : (O (n + 3)).nc ≤ 2 ∧ (O (n + 3)).fl 2 "value" = true := ⟨by show 1 ≤ 2; decide, rfl⟩
  have x2 : xiD (O (n + 3)) 2 [.own 2] = some true := rfl
  have x3 : xiD (O (n + 3)) 2 [.own 4] = some false := rfl
  have x4 : xiD (O (n + 3)) 2 [.own 3] = some false := rfl
  have x5 : xiD (O (n + 3)) 2 [.verr] = some true := rfl
  generalize O (n + 3) = o at *
  refine runD_ok (v := .pl (.str ("number " ++ d.py.shown))) (δ' := [.fz d, .fz x, .un, .ow [.str ("number " ++ d.py.shown)]]) ⟨rfl, rfl⟩ ?_ (by show 2 ≤ 4; decide) True.intro rfl
  show evS o [] c_law_refusal [.fz d, .fz x, .un, .un] = _
  unfold c_law_refusal
  have lk : List.lookup ("value" : Str) [(("value" : Str), d)] = some d := rfl
  have sub : ∀ s w, endX 2 (.ok (s, [.fz d, .fz x, .xc 2 [("value", d)], .ow w])) = .ok (s, [.fz d, .fz x, .un, .ow w]) := fun s w => rfl
  have bt : ∀ z : Str, bmT .join (.str z) = true := fun _ => rfl
  have z0 : 0 < sizeLine := by decide
  have z0' : 0 ≤ sizeLine := by decide
  generalize ("number " : Str) ++ d.py.shown = sn at *
  generalize d.py.shown = sh at *
  clear rp hl hn hs
  walk_at "ev"
theorem undef_s : binD .Add (.str "undefined ") (.str (D.str "relation").py.shown) = some (.pl (.str "undefined 'relation'")) := by
  have e : ("undefined " : Str) ++ (D.str "relation").py.shown = "undefined 'relation'" := by decide +kernel
  have l : ("undefined " : Str).length + (D.str "relation").py.shown.length ≤ sizeLine := by decide +kernel
  show (if _ then _ else _) = _
  rw [if_pos l, e]
theorem r_ref_undef {m : Nat} (h1 : 1 ≤ m) (h4 : m ≤ 4) {d : D} {cs : List Cs} (h : CsIn m d cs) (h0 : toldR m cs = []) (n : Nat) : (O (n + 10)).cl 21 [.fz (.int m), .fz d] = .ok (.pl (.str "undefined 'relation'"), [.un, .un]) := by
  have e1 := r_told h1 h4 h n
  rw [if_pos h0] at e1
  have rp : Rp (.str "relation") 2 30 := rp_dec (by decide +kernel)
  have r1 := repr_of rp (by decide) (by decide)
  have ad := undef_s
  have jn := join1 (x := "undefined 'relation'") (by decide +kernel)
  rw [show n + 10 = (n + 9) + 1 from rfl, cl_of (d := d_law_refusal) rfl]
  have x1 : (O (n + 9)).xs 4 1 = some true := rfl
  have nf : (O (n + 9)).nc ≤ 4 ∧ (O (n + 9)).fl 4 "what" = true := ⟨by show 1 ≤ 4; decide, rfl⟩
  have x2 : xiD (O (n + 9)) 4 [.own 2] = some false := rfl
  have x3 : xiD (O (n + 9)) 4 [.own 4] = some true := rfl
  have x4 : xiD (O (n + 9)) 4 [.own 3] = some false := rfl
  have x5 : xiD (O (n + 9)) 4 [.verr] = some true := rfl
  generalize O (n + 9) = o at *
  generalize hm : D.int (m : Int) = mD at *
  refine runD_ok (v := .pl (.str "undefined 'relation'")) (δ' := [.fz mD, .fz d, .un, .ow [.str "undefined 'relation'"]]) ⟨rfl, rfl⟩ ?_ (by show 2 ≤ 4; decide) True.intro rfl
  show evS o [] c_law_refusal [.fz mD, .fz d, .un, .un] = _
  unfold c_law_refusal
  have lk : List.lookup ("what" : Str) [(("what" : Str), D.str "relation")] = some (.str "relation") := rfl
  have sub : ∀ s w, endX 2 (.ok (s, [.fz mD, .fz d, .xc 4 [("what", .str "relation")], .ow w])) = .ok (s, [.fz mD, .fz d, .un, .ow w]) := fun s w => rfl
  have bt : ∀ z : Str, bmT .join (.str z) = true := fun _ => rfl
  have z0 : 0 < sizeLine := by decide
  have z0' : 0 ≤ sizeLine := by decide
  generalize (D.str "relation").py.shown = sh at *
  clear rp h h0 h1 h4 hm
  walk_at "ev"
end Pf
/-! k43: drawn clauses -/
namespace Pf
open PySem L2 B U
local macro_rules | `(tactic| walk_at "ev") => `(tactic| simp only [vE_int, vE_bl, vE_non, vE_str, vE_var, vE_pk, vE_gl, vE_bin, vE_neg, vE_not, vE_one, vE_and, vE_or, vE_cmp, vE_chn, vE_ite, vE_cal, vE_kal, vE_bm, vE_sset, vE_mak, vE_mt, endM_ok, endM_ex, vE_bi, vE_isi, vE_app, vE_fld, vE_xf, vE_xi, vE_ix, vE_sl, vE_tup, vE_lst, vT_yes, vT_not, vT_one, vT_and, vT_or, vT_tst, vT_cmp, vT_chn, vA_nil, vA_cons, vA_sole, vA_two, vO_nil, vO_tst, vS_skip, vS_pass, vS_seq, vS_asg, vS_par, vS_unp, vS_sti, vS_stf, vS_iff, vS_ret, vS_retN, vS_exp, vS_brk, vS_cnt, vS_rai, vS_try, vH_hnd, vH_skip, R.bind_ok, R.bind_ex, R.ofO_some, gS_z, gS_s, dv_pl, dv_fr, dv_al, cv_pl, cv_fr, cvs_nil, cvs_cons, dvs_nil, dvs_cons, als_nil, als_al, als_pl, als_fr, slA_pl, slA_fr, slA_al, slV_pl, slV_fr, endC_ok, endC_ex, gb_nil, gb_al, gb_pl, gb_fr, set_z, set_s, putS_nil, putS_one, bindN_one, Nat.reduceBEq, bindT_nm, bindT_tp, bindN_nil, bindN_cons, int_cmp_eq, int_cmp_ne, int_cmp_lt, int_cmp_le, int_cmp_gt, int_cmp_ge, bl_cmp_eq, bl_cmp_ne, is_non, isnt_non, is_bl, tru_bl, tru_int, bin_add_i, bin_sub_i, notD_of, isi_int_non, isi_int_bl, isi_int_int, isi_int_str, isi_int_tup, isi_int_lst, isi_int_ro, isi_bool_non, isi_bool_bl, isi_bool_int, isi_bool_str, isi_bool_tup, isi_bool_lst, isi_bool_ro, isi_str_non, isi_str_bl, isi_str_int, isi_str_str, isi_str_tup, isi_str_lst, isi_str_ro, isi_list_non, isi_list_bl, isi_list_int, isi_list_str, isi_list_tup, isi_list_lst, isi_list_ro, isi_tuple_non, isi_tuple_bl, isi_tuple_int, isi_tuple_str, isi_tuple_tup, isi_tuple_lst, isi_tuple_ro, isi_lt_non, isi_lt_bl, isi_lt_int, isi_lt_str, isi_lt_tup, isi_lt_lst, isi_lt_ro, bi_len_tup, bi_len_lst, bi_tuple_lst, bi_tuple_tup, bi_list_tup, bi_list_lst, bi_int_int, bi_int_bl, nn_non, nn_tup, nn_lst, nn_int, nn_bl, nn_str, nn_obj, Option.bind_some, Option.map_some, List.map_cons, List.map_nil, List.nodup_nil, nd1e, List.length_cons, List.length_nil, List.append_nil, List.nil_append, Nat.reduceAdd, Nat.reduceLeDiff, Nat.le_zero_eq, Nat.not_succ_le_zero, if_true, if_false, Bool.false_eq_true, Bool.not_true, Bool.not_false, Bool.true_eq_false, eq_self, decide_true, decide_false, and_self, true_and, and_true, List.not_mem_nil, or_false, false_or, reduceIte, *])
theorem tk_of (n : Nat) (ds : List Int) (p : Nat) (m : Int) (h : 0 < m) : ∃ v, 0 ≤ v ∧ v < m ∧ (O (n + 1)).cl 14 [.ow (hL ds p), .fz (.int m)] = .ok (.pl (.int v), [.ow (hL ds (p + 1)), .un]) := i_take n ds p m h
abbrev Tk (o : Orc) (ds : List Int) : Prop := ∀ (p : Nat) (m : Int), 0 < m → ∃ v, 0 ≤ v ∧ v < m ∧ o.cl 14 [.ow (hL ds p), .fz (.int m)] = .ok (.pl (.int v), [.ow (hL ds (p + 1)), .un])
theorem lc_rise {o : Orc} {ds : List Int} (tk : Tk o ds) {m : D} : ∀ (is : List Nat) (acc : List D) (p : Nat), acc.length + is.length ≤ 100 → ∃ (ps : List Nat) (p' : Nat), (∀ q ∈ ps, q ∈ is) ∧ ps.length ≤ is.length ∧
    lcLoop [2] (bindT [0] (.nm 2)) (evT o [0] (.one .And (.cmp .Eq (.cal 14 (.cons (.pk 0) (.cons (.int 2) (.nil)))) (.int 0)))) (evE o [0] (.var 2)) (is.map fun (i : Nat) => .int (0 + (i : Int))) acc [.ow (hL ds p), .fz m, .un] = .ok (acc ++ plc ps, [.ow (hL ds p'), .fz m, .un])
  | [], acc, p, _ => ⟨[], p, fun q h => (nomatch h), Nat.le_refl _, by simp [lcLoop, plc]⟩
  | i :: is, acc, p, hl => by
    simp only [List.length_cons] at hl
    obtain ⟨v, v0, v1, v2⟩ := tk p 2 (by decide)
    have b1 : bindT [0] (.nm 2) (.int (0 + (i : Int))) [.ow (hL ds p), .fz m, .un] = some [.ow (hL ds p), .fz m, .fz (.int (0 + (i : Int)))] := rfl
    have t1 : evT o [0] (.one .And (.cmp .Eq (.cal 14 (.cons (.pk 0) (.cons (.int 2) (.nil)))) (.int 0))) [.ow (hL ds p), .fz m, .fz (.int (0 + (i : Int)))] = .ok (v == 0, [.ow (hL ds (p + 1)), .fz m, .fz (.int (0 + (i : Int)))]) :=
      cmpT_of (cal_of rfl (by exact nd1) v2 rfl) rfl rfl rfl (int_cmp_eq _ _)
    have e1 : evE o [0] (.var 2) [.ow (hL ds (p + 1)), .fz m, .fz (.int (0 + (i : Int)))] = .ok (.pl (.int (0 + (i : Int))), [.ow (hL ds (p + 1)), .fz m, .fz (.int (0 + (i : Int)))]) := rfl
    have w1 : wipeS [.ow (hL ds (p + 1)), .fz m, .fz (.int (0 + (i : Int)))] [2] = [.ow (hL ds (p + 1)), .fz m, .un] := rfl
    have big : acc.length < sizeLine := Nat.lt_of_le_of_lt (by omega : acc.length ≤ 100) (by decide)
    have zi : (0 + (i : Int)) = (i : Int) := by omega
    cases hv : (v == 0) with
    | true =>
      obtain ⟨ps, p', h1, h2, h3⟩ := lc_rise tk is (acc ++ [.int (0 + (i : Int))]) (p + 1) (by rw [List.length_append, List.length_singleton]; omega)
      refine ⟨i :: ps, p', fun q hq => ?_, by simp only [List.length_cons]; omega, ?_⟩
      · rcases List.mem_cons.mp hq with rfl | hq
        · exact List.mem_cons_self
        · exact List.mem_cons_of_mem _ (h1 q hq)
      · simp only [List.map_cons, lcLoop, b1, R.ofO_some, R.bind_ok, t1, hv, if_true, e1, cv_pl, w1]
        rw [if_pos big, h3]
        simp [plc]
    | false =>
      obtain ⟨ps, p', h1, h2, h3⟩ := lc_rise tk is acc (p + 1) (by omega)
      refine ⟨ps, p', fun q hq => List.mem_cons_of_mem _ (h1 q hq), by simp only [List.length_cons]; omega, ?_⟩
      simp only [List.map_cons, lcLoop, b1, R.ofO_some, R.bind_ok, t1, hv, Bool.false_eq_true, if_false, w1]
      exact h3
theorem lc_by {o : Orc} {bd own : List Nat} {tg : Tg} {k : B.It} {is t e : C} {δ δ1 δ2 : En} {vs : List Vl} {dd items zs : List D} (h1 : evA o bd is δ = .ok (vs, δ1)) (h2 : cvs vs = some dd) (h3 : itD k dd = some items) (hp : (own.all (fun i => plainS (gS δ1 i)) && own.all (fun i => !bd.contains i)) = true)
    (hl : lcLoop own (bindT bd tg) (evT o bd t) (evE o bd e) items [] (wipeS δ1 own) = .ok (zs, δ2)) : evE o bd (.lc own tg k is t e) δ = .ok (.fr zs, backS δ1 own δ2) := by
  simp only [evE, h1, R.bind_ok, h2, R.ofO_some, h3]
  rw [if_pos hp, hl]
  simp only [R.calm_ok, R.bind_ok]
theorem r_rising {m : Nat} (h4 : m ≤ 4) (n : Nat) (ds : List Int) (p : Nat) : ∃ (ps : List Nat) (p' : Nat), psOk m ps ∧ (O (n + 2)).cl 16 [.ow (hL ds p), .fz (.int m)] = .ok (.pl (.tup (plc ps)), [.ow (hL ds p'), .un]) := by
  have tk : Tk (O (n + 1)) ds := tk_of n ds
  rw [show n + 2 = (n + 1) + 1 from rfl, cl_of (d := d_law_rising) rfl]
  generalize O (n + 1) = o at *
  obtain ⟨ps, p', h1, h2, h3⟩ := lc_rise tk (m := .int m) (List.range m) [] p (by simp; omega)
  refine ⟨ps, p', ⟨by rw [List.length_range] at h2; omega, fun q hq => List.mem_range.mp (h1 q hq)⟩, ?_⟩
  rw [List.nil_append] at h3
  have lc := lc_by (o := o) (bd := [0]) (own := [2]) (tg := .nm 2) (k := .rng1) (is := .sole (.var 1)) (δ := [.ow (hL ds p), .fz (.int m), .un]) (δ1 := [.ow (hL ds p), .fz (.int m), .un]) (vs := [.pl (.int m)]) (dd := [.int m]) rfl rfl (it_n (by omega)) rfl h3
  have hb : backS [.ow (hL ds p), .fz (.int (m : Int)), .un] [2] [.ow (hL ds p'), .fz (.int (m : Int)), .un] = [.ow (hL ds p'), .fz (.int (m : Int)), .un] := rfl
  rw [hb] at lc
  exact runD_ok (v := .pl (.tup (plc ps))) (δ' := [.ow (hL ds p'), .fz (.int m), .un]) ⟨rfl, rfl⟩ (ret_seq (bi1_of lc rfl rfl) rfl) (by show 2 ≤ 3; decide) True.intro rfl
theorem nat_of {v : Int} {m : Nat} (h0 : 0 ≤ v) (h1 : v < m) : ∃ j : Nat, v = j ∧ j < m := ⟨v.toNat, by omega, by omega⟩
def clRest : S := .seq (.iff (.cmp .Eq (.pk 2) (.int 0)) (.seq (.ret (.tup (.cons (.str "if") (.cons (.cal 16 (.cons (.pk 0) (.cons (.var 1) (.nil)))) (.cons (.cal 14 (.cons (.pk 0) (.cons (.var 1) (.nil)))) (.nil)))))) (.skip)) (.skip)) (.seq (.iff (.cmp .Eq (.pk 2) (.int 1)) (.seq (.ret (.tup (.cons (.str "if") (.cons (.cal 16 (.cons (.pk 0) (.cons (.var 1) (.nil)))) (.nil))))) (.skip)) (.skip)) (.seq (.iff (.bop .And (.cmp .Eq (.pk 2) (.int 2)) (.one .And (.cmp .Gt (.pk 1) (.int 1)))) (.seq (.asg 3 (.bin .Add (.int 1) (.cal 14 (.cons (.pk 0) (.cons (.bin .Sub (.pk 1) (.int 1)) (.nil)))))) (.seq (.ret (.tup (.cons (.str "pair") (.cons (.cal 14 (.cons (.pk 0) (.cons (.var 3) (.nil)))) (.cons (.var 3) (.cons (.cal 14 (.cons (.pk 0) (.cons (.int 2) (.nil)))) (.cons (.cal 14 (.cons (.pk 0) (.cons (.int 2) (.nil)))) (.nil)))))))) (.skip))) (.skip)) (.seq (.ret (.tup (.cons (.str "sum") (.cons (.cal 16 (.cons (.pk 0) (.cons (.var 1) (.nil)))) (.cons (.cal 14 (.cons (.pk 0) (.cons (.int 2) (.nil)))) (.nil)))))) (.skip))))
theorem w_sum {o : Orc} {H H1 H2 P : List D} {m b : Nat} {k : Int} (z3 : 3 ≤ sizeLine) (s2 : o.cl 16 [.ow H, .fz (.int m)] = .ok (.pl (.tup P), [.ow H1, .un])) (v2 : o.cl 14 [.ow H1, .fz (.int 2)] = .ok (.pl (.int b), [.ow H2, .un])) :
    evS o [0] (.seq (.ret (.tup (.cons (.str "sum") (.cons (.cal 16 (.cons (.pk 0) (.cons (.var 1) (.nil)))) (.cons (.cal 14 (.cons (.pk 0) (.cons (.int 2) (.nil)))) (.nil)))))) (.skip)) [.ow H, .fz (.int m), .fz (.int k), .un] = .ok (.rt (.pl (.tup [.str "sum", .tup P, .int b])), [.ow H2, .fz (.int m), .fz (.int k), .un]) := by
  walk_at "ev"
theorem w_ifh {o : Orc} {H H1 H2 P : List D} {m j : Nat} {k : Int} (hk0 : (k == 0) = true) (z3 : 3 ≤ sizeLine) (s2 : o.cl 16 [.ow H, .fz (.int m)] = .ok (.pl (.tup P), [.ow H1, .un])) (v2 : o.cl 14 [.ow H1, .fz (.int m)] = .ok (.pl (.int j), [.ow H2, .un])) :
    evS o [0] clRest [.ow H, .fz (.int m), .fz (.int k), .un] = .ok (.rt (.pl (.tup [.str "if", .tup P, .int j])), [.ow H2, .fz (.int m), .fz (.int k), .un]) := by
  unfold clRest
  walk_at "ev"
theorem w_ifn {o : Orc} {H H1 P : List D} {m : Nat} {k : Int} (hk0 : (k == 0) = false) (hk1 : (k == 1) = true) (z2 : 2 ≤ sizeLine) (s2 : o.cl 16 [.ow H, .fz (.int m)] = .ok (.pl (.tup P), [.ow H1, .un])) :
    evS o [0] clRest [.ow H, .fz (.int m), .fz (.int k), .un] = .ok (.rt (.pl (.tup [.str "if", .tup P])), [.ow H1, .fz (.int m), .fz (.int k), .un]) := by
  unfold clRest
  walk_at "ev"
theorem w_pair {o : Orc} {H1 H2 H3 H4 H5 : List D} {m i j a b : Nat} {k v : Int} (hk0 : (k == 0) = false) (hk1 : (k == 1) = false) (hk2 : (k == 2) = true) (hm2 : decide ((1 : Int) < (m : Int)) = true) (z5 : 5 ≤ sizeLine) (hj : 1 + v = (j : Int))
    (v2 : o.cl 14 [.ow H1, .fz (.int ((m : Int) - 1))] = .ok (.pl (.int v), [.ow H2, .un])) (u2 : o.cl 14 [.ow H2, .fz (.int j)] = .ok (.pl (.int i), [.ow H3, .un])) (x2 : o.cl 14 [.ow H3, .fz (.int 2)] = .ok (.pl (.int a), [.ow H4, .un])) (y2 : o.cl 14 [.ow H4, .fz (.int 2)] = .ok (.pl (.int b), [.ow H5, .un])) :
    evS o [0] clRest [.ow H1, .fz (.int m), .fz (.int k), .un] = .ok (.rt (.pl (.tup [.str "pair", .int i, .int j, .int a, .int b])), [.ow H5, .fz (.int m), .fz (.int k), .fz (.int j)]) := by
  unfold clRest
  walk_at "ev"
theorem r_clause {m : Nat} (h1 : 1 ≤ m) (h4 : m ≤ 4) (n : Nat) (ds : List Int) (p : Nat) : ∃ (c : Cs) (p' : Nat), c.ok m ∧ (O (n + 3)).cl 17 [.ow (hL ds p), .fz (.int m)] = .ok (.pl c.d, [.ow (hL ds p'), .un]) := by
  have tk : Tk (O (n + 2)) ds := tk_of (n + 1) ds
  have rs : ∀ p, ∃ (ps : List Nat) (p' : Nat), psOk m ps ∧ (O (n + 2)).cl 16 [.ow (hL ds p), .fz (.int m)] = .ok (.pl (.tup (plc ps)), [.ow (hL ds p'), .un]) := fun p => r_rising h4 n ds p
  rw [show n + 3 = (n + 2) + 1 from rfl, cl_of (d := d_law_clause) rfl]
  generalize O (n + 2) = o at *
  obtain ⟨k, k0, k1, k2⟩ := tk p 4 (by decide)
  have z2 : 2 ≤ sizeLine := by decide
  have z3 : 3 ≤ sizeLine := by decide
  have z5 : 5 ≤ sizeLine := by decide
  have sumCase : ∀ p, ∃ (c : Cs) (p' : Nat) , c.ok m ∧ evS o [0] (.seq (.ret (.tup (.cons (.str "sum") (.cons (.cal 16 (.cons (.pk 0) (.cons (.var 1) (.nil)))) (.cons (.cal 14 (.cons (.pk 0) (.cons (.int 2) (.nil)))) (.nil)))))) (.skip)) [.ow (hL ds p), .fz (.int m), .fz (.int k), .un] = .ok (.rt (.pl c.d), [.ow (hL ds p'), .fz (.int m), .fz (.int k), .un]) := fun p => by
    obtain ⟨ps, pa, s1, s2⟩ := rs p
    obtain ⟨v, v0, v1, v2⟩ := tk pa 2 (by decide)
    obtain ⟨b, rfl, hb⟩ := nat_of (m := 2) v0 v1
    refine ⟨.sum ps b, pa + 1, ⟨s1, hb⟩, ?_⟩
    exact w_sum z3 s2 v2
  have fin : ∀ {c : Cs} {p' : Nat} {s3 : Sl}, c.ok m → evS o [0] c_law_clause [.ow (hL ds p), .fz (.int m), .un, .un] = .ok (.rt (.pl c.d), [.ow (hL ds p'), .fz (.int m), .fz (.int k), s3]) → ∃ (c : Cs) (p' : Nat), c.ok m ∧ runD o d_law_clause [.ow (hL ds p), .fz (.int m)] = .ok (.pl c.d, [.ow (hL ds p'), .un]) := fun {c p' s3} ok e =>
    ⟨c, p', ok, runD_ok (v := .pl c.d) (δ' := [.ow (hL ds p'), .fz (.int m), .fz (.int k), s3]) ⟨rfl, rfl⟩ e (by show 2 ≤ 4; decide) True.intro rfl⟩
  have a0 : evS o [0] (.asg 2 (.cal 14 (.cons (.pk 0) (.cons (.int 4) (.nil))))) [.ow (hL ds p), .fz (.int m), .un, .un] = .ok (.nx, [.ow (hL ds (p + 1)), .fz (.int m), .fz (.int k), .un]) := asg_of (cal_of rfl (by exact nd1) k2 rfl) rfl
  cases hk0 : (k == 0) with
  | true =>
    obtain ⟨ps, pa, s1, s2⟩ := rs (p + 1)
    obtain ⟨v, v0, v1, v2⟩ := tk pa m (by omega)
    obtain ⟨j, rfl, hj⟩ := nat_of v0 v1
    refine fin (c := .ifh ps j) (p' := pa + 1) (s3 := .un) ⟨s1, hj⟩ ?_
    exact (seq_nx a0).trans (w_ifh hk0 z3 s2 v2)
  | false =>
    cases hk1 : (k == 1) with
    | true =>
      obtain ⟨ps, pa, s1, s2⟩ := rs (p + 1)
      refine fin (c := .ifn ps) (p' := pa) (s3 := .un) s1 ?_
      exact (seq_nx a0).trans (w_ifn hk0 hk1 z2 s2)
    | false =>
      cases hc : ((k == 2) && decide ((1 : Int) < (m : Int))) with
      | true =>
        simp only [Bool.and_eq_true] at hc
        obtain ⟨hk2, hm2⟩ := hc
        have hm2' : (1 : Int) < m := of_decide_eq_true hm2
        obtain ⟨v, v0, v1, v2⟩ := tk (p + 1) ((m : Int) - 1) (by omega)
        obtain ⟨j, hj, hjm⟩ : ∃ j : Nat, (1 + v : Int) = j ∧ j < m ∧ 1 ≤ j := ⟨(1 + v).toNat, by omega, by omega, by omega⟩
        obtain ⟨u, u0, u1, u2⟩ := tk (p + 1 + 1) (j : Int) (by omega)
        obtain ⟨i, rfl, hi⟩ := nat_of u0 u1
        obtain ⟨x, x0, x1, x2⟩ := tk (p + 1 + 1 + 1) 2 (by decide)
        obtain ⟨a, rfl, ha⟩ := nat_of (m := 2) x0 x1
        obtain ⟨y, y0, y1, y2⟩ := tk (p + 1 + 1 + 1 + 1) 2 (by decide)
        obtain ⟨b, rfl, hb⟩ := nat_of (m := 2) y0 y1
        refine fin (c := .pair i j a b) (p' := p + 1 + 1 + 1 + 1 + 1) (s3 := .fz (.int j)) ⟨by omega, hjm.1, ha, hb⟩ ?_
        exact (seq_nx a0).trans (w_pair hk0 hk1 hk2 hm2 z5 hj v2 u2 x2 y2)
      | false =>
        obtain ⟨c, p', ok, e⟩ := sumCase (p + 1)
        refine fin (c := c) (p' := p') (s3 := .un) ok ?_
        have t3 : evT o [0] (.bop .And (.cmp .Eq (.pk 2) (.int 2)) (.one .And (.cmp .Gt (.pk 1) (.int 1)))) [.ow (hL ds (p + 1)), .fz (.int m), .fz (.int k), .un] = .ok (false, [.ow (hL ds (p + 1)), .fz (.int m), .fz (.int k), .un]) := by
          cases h2 : (k == 2) with
          | false => exact andT_f (cmpT_of rfl rfl rfl rfl (by rw [int_cmp_eq, h2]))
          | true =>
            rw [h2, Bool.true_and] at hc
            exact (andT_t (cmpT_of rfl rfl rfl rfl (by rw [int_cmp_eq, h2]))).trans (cmpT_of rfl rfl rfl rfl (by rw [int_cmp_gt, hc]))
        have t1 : evT o [0] (.cmp .Eq (.pk 2) (.int 0)) [.ow (hL ds (p + 1)), .fz (.int m), .fz (.int k), .un] = .ok (false, [.ow (hL ds (p + 1)), .fz (.int m), .fz (.int k), .un]) := cmpT_of rfl rfl rfl rfl (by rw [int_cmp_eq, hk0])
        have t2 : evT o [0] (.cmp .Eq (.pk 2) (.int 1)) [.ow (hL ds (p + 1)), .fz (.int m), .fz (.int k), .un] = .ok (false, [.ow (hL ds (p + 1)), .fz (.int m), .fz (.int k), .un]) := cmpT_of rfl rfl rfl rfl (by rw [int_cmp_eq, hk1])
        unfold c_law_clause
        exact (seq_nx a0).trans ((seq_nx (iffs_f t1)).trans ((seq_nx (iffs_f t2)).trans ((seq_nx (iffs_f t3)).trans e)))
end Pf
/-! k43: the law -/
namespace Pf
open PySem L2 B U
local macro_rules | `(tactic| walk_at "ev") => `(tactic| simp only [vE_int, vE_bl, vE_non, vE_str, vE_var, vE_pk, vE_gl, vE_bin, vE_neg, vE_not, vE_one, vE_and, vE_or, vE_cmp, vE_chn, vE_ite, vE_cal, vE_kal, vE_bm, vE_sset, vE_mak, vE_mt, endM_ok, endM_ex, vE_bi, vE_isi, vE_app, vE_fld, vE_xf, vE_xi, vE_ix, vE_sl, vE_tup, vE_lst, vT_yes, vT_not, vT_one, vT_and, vT_or, vT_tst, vT_cmp, vT_chn, vA_nil, vA_cons, vA_sole, vA_two, vO_nil, vO_tst, vS_skip, vS_pass, vS_seq, vS_asg, vS_par, vS_unp, vS_sti, vS_stf, vS_iff, vS_ret, vS_retN, vS_exp, vS_brk, vS_cnt, vS_rai, vS_try, vH_hnd, vH_skip, R.bind_ok, R.bind_ex, R.ofO_some, gS_z, gS_s, dv_pl, dv_fr, dv_al, cv_pl, cv_fr, cvs_nil, cvs_cons, dvs_nil, dvs_cons, als_nil, als_al, als_pl, als_fr, slA_pl, slA_fr, slA_al, slV_pl, slV_fr, endC_ok, endC_ex, gb_nil, gb_al, gb_pl, gb_fr, set_z, set_s, putS_nil, putS_one, bindN_one, Nat.reduceBEq, bindT_nm, bindT_tp, bindN_nil, bindN_cons, int_cmp_eq, int_cmp_ne, int_cmp_lt, int_cmp_le, int_cmp_gt, int_cmp_ge, bl_cmp_eq, bl_cmp_ne, is_non, isnt_non, is_bl, tru_bl, tru_int, bin_add_i, bin_sub_i, notD_of, isi_int_non, isi_int_bl, isi_int_int, isi_int_str, isi_int_tup, isi_int_lst, isi_int_ro, isi_bool_non, isi_bool_bl, isi_bool_int, isi_bool_str, isi_bool_tup, isi_bool_lst, isi_bool_ro, isi_str_non, isi_str_bl, isi_str_int, isi_str_str, isi_str_tup, isi_str_lst, isi_str_ro, isi_list_non, isi_list_bl, isi_list_int, isi_list_str, isi_list_tup, isi_list_lst, isi_list_ro, isi_tuple_non, isi_tuple_bl, isi_tuple_int, isi_tuple_str, isi_tuple_tup, isi_tuple_lst, isi_tuple_ro, isi_lt_non, isi_lt_bl, isi_lt_int, isi_lt_str, isi_lt_tup, isi_lt_lst, isi_lt_ro, bi_len_tup, bi_len_lst, bi_tuple_lst, bi_tuple_tup, bi_list_tup, bi_list_lst, bi_int_int, bi_int_bl, nn_non, nn_tup, nn_lst, nn_int, nn_bl, nn_str, nn_obj, Option.bind_some, Option.map_some, List.map_cons, List.map_nil, List.nodup_nil, nd1e, List.length_cons, List.length_nil, List.append_nil, List.nil_append, Nat.reduceAdd, Nat.reduceLeDiff, Nat.le_zero_eq, Nat.not_succ_le_zero, if_true, if_false, Bool.false_eq_true, Bool.not_true, Bool.not_false, Bool.true_eq_false, eq_self, decide_true, decide_false, and_self, true_and, and_true, List.not_mem_nil, or_false, false_or, reduceIte, *])
abbrev en43 (sc : D) (H : List D) (s2 s3 s4 s5 s6 s7 s8 s9 s10 s12 : Sl) : En := [.fz sc, .ow H, s2, s3, s4, s5, s6, s7, s8, s9, s10, .un, s12]
theorem rp_plc {m : Nat} (h4 : m ≤ 4) {ps : List Nat} (h : psOk m ps) : Rp (.tup (plc ps)) 3 30 := by
  refine (Rp.tup (k := 2) (n := 1) (m := 4) (fun x hx => ?_) (by rw [plc, List.length_map]; exact h.1)).mono (by decide) (by decide)
  obtain ⟨p, hp, rfl⟩ := List.mem_map.mp hx
  exact rp_num (by have := h.2 p hp; omega)
theorem rp_n3 {j m : Nat} (hj : j < m) (h4 : m ≤ 4) : Rp (.int (j : Int)) 3 30 := (rp_num (by omega)).mono (by decide) (by decide)
theorem rp_cs {m : Nat} (h4 : m ≤ 4) {c : Cs} (h : c.ok m) : Rp c.d 4 163 := by
  have s1 : Rp (.str "if") 3 30 := (rp_dec (n := 30) (by decide +kernel)).mono (by decide) (by decide)
  have s2 : Rp (.str "pair") 3 30 := (rp_dec (n := 30) (by decide +kernel)).mono (by decide) (by decide)
  have s3 : Rp (.str "sum") 3 30 := (rp_dec (n := 30) (by decide +kernel)).mono (by decide) (by decide)
  cases c with
  | ifh ps j =>
    refine Rp.tup (k := 3) (n := 30) (m := 5) (fun x hx => ?_) (by show 3 ≤ 5; decide)
    simp only [List.mem_cons, List.not_mem_nil, or_false] at hx
    rcases hx with rfl | rfl | rfl
    · exact s1
    · exact rp_plc h4 h.1
    · exact rp_n3 h.2 h4
  | ifn ps =>
    refine Rp.tup (k := 3) (n := 30) (m := 5) (fun x hx => ?_) (by show 2 ≤ 5; decide)
    simp only [List.mem_cons, List.not_mem_nil, or_false] at hx
    rcases hx with rfl | rfl
    · exact s1
    · exact rp_plc h4 h
  | pair i j a b =>
    refine Rp.tup (k := 3) (n := 30) (m := 5) (fun x hx => ?_) (by show 5 ≤ 5; decide)
    simp only [List.mem_cons, List.not_mem_nil, or_false] at hx
    rcases hx with rfl | rfl | rfl | rfl | rfl
    · exact s2
    · exact rp_n3 h.1 h4
    · exact rp_n3 h.2.1 h4
    · exact rp_n3 h.2.2.1 (by decide)
    · exact rp_n3 h.2.2.2 (by decide)
  | sum ps b =>
    refine Rp.tup (k := 3) (n := 30) (m := 5) (fun x hx => ?_) (by show 3 ≤ 5; decide)
    simp only [List.mem_cons, List.not_mem_nil, or_false] at hx
    rcases hx with rfl | rfl | rfl
    · exact s3
    · exact rp_plc h4 h.1
    · exact rp_n3 h.2 (by decide)
theorem rp_csL {m : Nat} (h4 : m ≤ 4) {cs : List Cs} (hl : cs.length ≤ 5) (h : ∀ c ∈ cs, c.ok m) : Rp (.lst (csD cs)) 5 828 := by
  refine Rp.lst (k := 4) (n := 163) (m := 5) (fun x hx => ?_) (by rw [csD, List.length_map]; exact hl)
  obtain ⟨c, hc, rfl⟩ := List.mem_map.mp hx
  exact rp_cs h4 (h c hc)
def wrongs : List D := [.int 0, .int 5, .int (-1), .bl true, .non, .str "2", .tup [.int 2], .lst [.int 2], .bl false, .int 9]
theorem wrongs_ok : ∀ d ∈ wrongs, noObj d = true ∧ sizeD d = false ∧ Rp d 3 30 := by
  intro d hd
  simp only [wrongs, List.mem_cons, List.not_mem_nil, or_false] at hd
  rcases hd with rfl | rfl | rfl | rfl | rfl | rfl | rfl | rfl | rfl | rfl <;> exact ⟨rfl, rfl, (rp_dec (n := 30) (by decide +kernel)).mono (by decide) (by decide)⟩
section
variable {o : Orc} {H H1 H2 : List D} {sc : D} {s2 s3 s4 s5 s6 s7 s8 s9 s10 s12 : Sl}
def st3 : S := (.asg 3 (.bin .Add (.int 1) (.cal 14 (.cons (.pk 1) (.cons (.int 4) (.nil))))))
theorem w3 {v : Int} {m : Nat} (hm : 1 + v = (m : Int)) (h : o.cl 14 [.ow H, .fz (.int 4)] = .ok (.pl (.int v), [.ow H1, .un])) : evS o [] st3 (en43 sc H s2 s3 s4 s5 s6 s7 s8 s9 s10 s12) = .ok (.nx, en43 sc H1 s2 (.fz (.int m)) s4 s5 s6 s7 s8 s9 s10 s12) := by
  unfold st3
  walk_at "ev"
def st4 : S := (.asg 4 (.lc [11] (.nm 11) .rng1 (.sole (.cal 14 (.cons (.pk 1) (.cons (.int 6) (.nil))))) (.yes) (.cal 17 (.cons (.pk 1) (.cons (.var 3) (.nil))))))
/-- one row asked of one clause -/
def rB : S := (.seq (.asg 12 (.cal 10 (.cons (.var 9) (.cons (.var 5) (.nil))))) (.seq (.iff (.bop .Or (.not (.tst (.isi (.pk 12) [.bool]))) (.one .Or (.cmp .NotEq (.pk 12) (.cal 18 (.cons (.var 9) (.cons (.var 5) (.nil))))))) (.seq (.ret (.bl false)) (.skip)) (.skip)) (.skip)))
theorem wr {r c : D} {b : Bool} (h1 : o.cl 10 [.fz r, .fz c] = .ok (.pl (.bl b), [.un, .un])) (h2 : o.cl 18 [.fz r, .fz c] = .ok (.pl (.bl b), [.un, .un])) : evS o [] rB (en43 sc H s2 s3 s4 (.fz c) s6 s7 s8 (.fz r) s10 s12) = .ok (.nx, en43 sc H s2 s3 s4 (.fz c) s6 s7 s8 (.fz r) s10 (.fz (.bl b))) := by
  unfold rB
  have bb : (b == b) = true := by simp
  walk_at "ev"
def st6 : S := (.asg 6 (.cal 19 (.cons (.var 3) (.cons (.var 4) (.nil)))))
theorem w6 {a b c : D} (h : o.cl 19 [.fz a, .fz b] = .ok (.pl c, [.un, .un])) : evS o [] st6 (en43 sc H s2 (.fz a) (.fz b) s5 s6 s7 s8 s9 s10 s12) = .ok (.nx, en43 sc H s2 (.fz a) (.fz b) s5 (.fz c) s7 s8 s9 s10 s12) := by
  unfold st6
  walk_at "ev"
def st7 : S := (.asg 7 (.bi .repr (.cons (.pk 4) (.nil))))
theorem w7 {b : D} {sh : Str} (h : biD .repr [b] = some (.pl (.str sh))) : evS o [] st7 (en43 sc H s2 s3 (.fz b) s5 s6 s7 s8 s9 s10 s12) = .ok (.nx, en43 sc H s2 s3 (.fz b) s5 s6 (.fz (.str sh)) s8 s9 s10 s12) := by
  unfold st7
  walk_at "ev"
def hB : S := (.seq (.iff (.not (.tst (.cal 20 (.cons (.cal 11 (.cons (.var 3) (.cons (.var 10) (.nil)))) (.cons (.var 6) (.nil)))))) (.seq (.ret (.bl false)) (.skip)) (.skip)) (.skip))
theorem wh {a b c r : D} (h : o.cl 11 [.fz a, .fz b] = .ok (.pl r, [.un, .un])) (h2 : o.cl 20 [.fz r, .fz c] = .ok (.pl (.bl true), [.un, .un])) : evS o [] hB (en43 sc H s2 (.fz a) s4 s5 (.fz c) s7 s8 s9 (.fz b) s12) = .ok (.nx, en43 sc H s2 (.fz a) s4 s5 (.fz c) s7 s8 s9 (.fz b) s12) := by
  unfold hB
  walk_at "ev"
def st8 : S := (.iff (.cmp .Eq (.bi .len (.cons (.ix (.pk 6) (.int 1)) (.nil))) (.int 0)) (.seq (.iff (.cmp .NotEq (.cal 21 (.cons (.var 3) (.cons (.var 4) (.nil)))) (.str "undefined 'relation'")) (.seq (.ret (.bl false)) (.skip)) (.skip)) (.skip)) (.seq (.for_ (.nm 10) .seq (.sole (.lst (.cons (.var 4) (.cons (.bi .tuple (.cons (.pk 4) (.nil))) (.nil))))) hB) (.skip)))
theorem w8a {a b x : D} (hs : cmpD .NotEq (.str "undefined 'relation'") (.str "undefined 'relation'") = some false) (h : o.cl 21 [.fz a, .fz b] = .ok (.pl (.str "undefined 'relation'"), [.un, .un])) : evS o [] st8 (en43 sc H s2 (.fz a) (.fz b) s5 (.fz (.tup [x, .tup []])) s7 s8 s9 s10 s12) = .ok (.nx, en43 sc H s2 (.fz a) (.fz b) s5 (.fz (.tup [x, .tup []])) s7 s8 s9 s10 s12) := by
  unfold st8 hB
  have x1 : ixD (.tup [x, .tup []]) (.int 1) = some (.tup []) := rfl
  have l0 : biD .len [.tup []] = some (.pl (.int 0)) := rfl
  have z : ((0 : Int) == 0) = true := rfl
  walk_at "ev"
theorem w8b {a x : D} {ys RR : List D} (hR : RR ≠ []) (h : ∀ d, d = .lst ys ∨ d = .tup ys → ∃ r, o.cl 11 [.fz a, .fz d] = .ok (.pl r, [.un, .un]) ∧ o.cl 20 [.fz r, .fz (.tup [x, .tup RR])] = .ok (.pl (.bl true), [.un, .un])) : ∃ s, evS o [] st8 (en43 sc H s2 (.fz a) (.fz (.lst ys)) s5 (.fz (.tup [x, .tup RR])) s7 s8 s9 s10 s12) = .ok (.nx, en43 sc H s2 (.fz a) (.fz (.lst ys)) s5 (.fz (.tup [x, .tup RR])) s7 s8 s9 s s12) := by
  obtain ⟨r1, a1, a2⟩ := h (.lst ys) (.inl rfl)
  obtain ⟨r2, b1, b2⟩ := h (.tup ys) (.inr rfl)
  refine ⟨.fz (.tup ys), ?_⟩
  have t1 : evT o [] (.cmp .Eq (.bi .len (.cons (.ix (.pk 6) (.int 1)) (.nil))) (.int 0)) (en43 sc H s2 (.fz a) (.fz (.lst ys)) s5 (.fz (.tup [x, .tup RR])) s7 s8 s9 s10 s12) = .ok (false, en43 sc H s2 (.fz a) (.fz (.lst ys)) s5 (.fz (.tup [x, .tup RR])) s7 s8 s9 s10 s12) := by
    have x1 : ixD (.tup [x, .tup RR]) (.int 1) = some (.tup RR) := rfl
    have z : (((RR.length : Nat) : Int) == 0) = false := by
      rw [beq_eq_false_iff_ne]
      have := List.length_pos_iff.mpr hR
      omega
    clear h a1 a2 b1 b2
    walk_at "ev"
  have h1 := wh (o := o) (sc := sc) (H := H) (s2 := s2) (s4 := .fz (.lst ys)) (s5 := s5) (s7 := s7) (s8 := s8) (s9 := s9) (s12 := s12) a1 a2
  have h2 := wh (o := o) (sc := sc) (H := H) (s2 := s2) (s4 := .fz (.lst ys)) (s5 := s5) (s7 := s7) (s8 := s8) (s9 := s9) (s12 := s12) b1 b2
  unfold st8
  refine (iff_f t1).trans ?_
  have ea : evA o [] (.sole (.lst (.cons (.var 4) (.cons (.bi .tuple (.cons (.pk 4) (.nil))) (.nil))))) (en43 sc H s2 (.fz a) (.fz (.lst ys)) s5 (.fz (.tup [x, .tup RR])) s7 s8 s9 s10 s12) = .ok ([.fr [.lst ys, .tup ys]], en43 sc H s2 (.fz a) (.fz (.lst ys)) s5 (.fz (.tup [x, .tup RR])) s7 s8 s9 s10 s12) := rfl
  have bt : ∀ (y : D) (s : Sl), bindT [] (.nm 10) y (en43 sc H s2 (.fz a) (.fz (.lst ys)) s5 (.fz (.tup [x, .tup RR])) s7 s8 s9 s s12) = some (en43 sc H s2 (.fz a) (.fz (.lst ys)) s5 (.fz (.tup [x, .tup RR])) s7 s8 s9 (.fz y) s12) := fun _ _ => rfl
  have f1 : evS o [] (.for_ (.nm 10) .seq (.sole (.lst (.cons (.var 4) (.cons (.bi .tuple (.cons (.pk 4) (.nil))) (.nil))))) hB) (en43 sc H s2 (.fz a) (.fz (.lst ys)) s5 (.fz (.tup [x, .tup RR])) s7 s8 s9 s10 s12) = .ok (.nx, en43 sc H s2 (.fz a) (.fz (.lst ys)) s5 (.fz (.tup [x, .tup RR])) s7 s8 s9 (.fz (.tup ys)) s12) := by
    have ec : cvs [.fr [.lst ys, .tup ys]] = some [.lst [.lst ys, .tup ys]] := rfl
    have ei : itD .seq [.lst [.lst ys, .tup ys]] = some [.lst ys, .tup ys] := rfl
    simp only [evS, ea, R.bind_ok, ec, R.ofO_some, ei, loop, bt, h1, h2]
  exact (seq_nx f1).trans rfl
def st9 : S := (.iff (.cmp .NotEq (.bi .repr (.cons (.pk 4) (.nil))) (.pk 7)) (.seq (.ret (.bl false)) (.skip)) (.skip))
theorem w9 {b : D} {sh : Str} (h : biD .repr [b] = some (.pl (.str sh))) (hs : cmpD .NotEq (.str sh) (.str sh) = some false) : evS o [] st9 (en43 sc H s2 s3 (.fz b) s5 s6 (.fz (.str sh)) s8 s9 s10 s12) = .ok (.nx, en43 sc H s2 s3 (.fz b) s5 s6 (.fz (.str sh)) s8 s9 s10 s12) := by
  unfold st9
  walk_at "ev"
def st10 : S := (.asg 8 (.ix (.lst (.cons (.int 0) (.cons (.int 5) (.cons (.neg (.int 1)) (.cons (.bl true) (.cons (.non) (.cons (.str "2") (.cons (.tup (.cons (.int 2) (.nil))) (.cons (.lst (.cons (.int 2) (.nil))) (.cons (.bl false) (.cons (.int 9) (.nil)))))))))))) (.cal 14 (.cons (.pk 1) (.cons (.int 10) (.nil))))))
theorem w10 {v : Int} {d : D} (h : o.cl 14 [.ow H, .fz (.int 10)] = .ok (.pl (.int v), [.ow H1, .un])) (hd : atI wrongs v = some d) : evS o [] st10 (en43 sc H s2 s3 s4 s5 s6 s7 s8 s9 s10 s12) = .ok (.nx, en43 sc H1 s2 s3 s4 s5 s6 s7 (.fz d) s9 s10 s12) := by
  have l1 : evE o [] (.lst (.cons (.int 0) (.cons (.int 5) (.cons (.neg (.int 1)) (.cons (.bl true) (.cons (.non) (.cons (.str "2") (.cons (.tup (.cons (.int 2) (.nil))) (.cons (.lst (.cons (.int 2) (.nil))) (.cons (.bl false) (.cons (.int 9) (.nil)))))))))))) (en43 sc H s2 s3 s4 s5 s6 s7 s8 s9 s10 s12) = .ok (.fr wrongs, en43 sc H s2 s3 s4 s5 s6 s7 s8 s9 s10 s12) := rfl
  have c1 : evE o [] (.cal 14 (.cons (.pk 1) (.cons (.int 10) (.nil)))) (en43 sc H s2 s3 s4 s5 s6 s7 s8 s9 s10 s12) = .ok (.pl (.int v), en43 sc H1 s2 s3 s4 s5 s6 s7 s8 s9 s10 s12) := cal_of rfl (by exact nd1) h rfl
  exact asg_of (ix_of l1 c1 rfl rfl (show ixD (.lst wrongs) (.int v) = some d from hd)) rfl
def st11 : S := (.iff (.cmp .NotEq (.cal 21 (.cons (.var 8) (.cons (.ix (.lst (.cons (.var 4) (.cons (.tup (.nil)) (.nil)))) (.cal 14 (.cons (.pk 1) (.cons (.int 2) (.nil))))) (.nil)))) (.bin .Add (.str "number ") (.bi .repr (.cons (.pk 8) (.nil))))) (.seq (.ret (.bl false)) (.skip)) (.skip))
theorem w11 {b d y : D} {v : Int} {sh sn : Str} (h : o.cl 14 [.ow H, .fz (.int 2)] = .ok (.pl (.int v), [.ow H1, .un])) (hy : ixD (.lst [b, .tup []]) (.int v) = some y) (h21 : o.cl 21 [.fz d, .fz y] = .ok (.pl (.str sn), [.un, .un])) (hr : biD .repr [d] = some (.pl (.str sh))) (ha : binD .Add (.str "number ") (.str sh) = some (.pl (.str sn))) (hs : cmpD .NotEq (.str sn) (.str sn) = some false) :
    evS o [] st11 (en43 sc H s2 s3 (.fz b) s5 s6 s7 (.fz d) s9 s10 s12) = .ok (.nx, en43 sc H1 s2 s3 (.fz b) s5 s6 s7 (.fz d) s9 s10 s12) := by
  unfold st11
  have z0 : 0 ≤ sizeLine := Nat.zero_le _
  have z2 : 2 ≤ sizeLine := by decide
  walk_at "ev"
end
end Pf
/-! k43: the law holds -/
namespace Pf
open PySem L2 B U
local macro_rules | `(tactic| walk_at "ev") => `(tactic| simp only [vE_int, vE_bl, vE_non, vE_str, vE_var, vE_pk, vE_gl, vE_bin, vE_neg, vE_not, vE_one, vE_and, vE_or, vE_cmp, vE_chn, vE_ite, vE_cal, vE_kal, vE_bm, vE_sset, vE_mak, vE_mt, endM_ok, endM_ex, vE_bi, vE_isi, vE_app, vE_fld, vE_xf, vE_xi, vE_ix, vE_sl, vE_tup, vE_lst, vT_yes, vT_not, vT_one, vT_and, vT_or, vT_tst, vT_cmp, vT_chn, vA_nil, vA_cons, vA_sole, vA_two, vO_nil, vO_tst, vS_skip, vS_pass, vS_seq, vS_asg, vS_par, vS_unp, vS_sti, vS_stf, vS_iff, vS_ret, vS_retN, vS_exp, vS_brk, vS_cnt, vS_rai, vS_try, vH_hnd, vH_skip, R.bind_ok, R.bind_ex, R.ofO_some, gS_z, gS_s, dv_pl, dv_fr, dv_al, cv_pl, cv_fr, cvs_nil, cvs_cons, dvs_nil, dvs_cons, als_nil, als_al, als_pl, als_fr, slA_pl, slA_fr, slA_al, slV_pl, slV_fr, endC_ok, endC_ex, gb_nil, gb_al, gb_pl, gb_fr, set_z, set_s, putS_nil, putS_one, bindN_one, Nat.reduceBEq, bindT_nm, bindT_tp, bindN_nil, bindN_cons, int_cmp_eq, int_cmp_ne, int_cmp_lt, int_cmp_le, int_cmp_gt, int_cmp_ge, bl_cmp_eq, bl_cmp_ne, is_non, isnt_non, is_bl, tru_bl, tru_int, bin_add_i, bin_sub_i, notD_of, isi_int_non, isi_int_bl, isi_int_int, isi_int_str, isi_int_tup, isi_int_lst, isi_int_ro, isi_bool_non, isi_bool_bl, isi_bool_int, isi_bool_str, isi_bool_tup, isi_bool_lst, isi_bool_ro, isi_str_non, isi_str_bl, isi_str_int, isi_str_str, isi_str_tup, isi_str_lst, isi_str_ro, isi_list_non, isi_list_bl, isi_list_int, isi_list_str, isi_list_tup, isi_list_lst, isi_list_ro, isi_tuple_non, isi_tuple_bl, isi_tuple_int, isi_tuple_str, isi_tuple_tup, isi_tuple_lst, isi_tuple_ro, isi_lt_non, isi_lt_bl, isi_lt_int, isi_lt_str, isi_lt_tup, isi_lt_lst, isi_lt_ro, bi_len_tup, bi_len_lst, bi_tuple_lst, bi_tuple_tup, bi_list_tup, bi_list_lst, bi_int_int, bi_int_bl, nn_non, nn_tup, nn_lst, nn_int, nn_bl, nn_str, nn_obj, Option.bind_some, Option.map_some, List.map_cons, List.map_nil, List.nodup_nil, nd1e, List.length_cons, List.length_nil, List.append_nil, List.nil_append, Nat.reduceAdd, Nat.reduceLeDiff, Nat.le_zero_eq, Nat.not_succ_le_zero, if_true, if_false, Bool.false_eq_true, Bool.not_true, Bool.not_false, Bool.true_eq_false, eq_self, decide_true, decide_false, and_self, true_and, and_true, List.not_mem_nil, or_false, false_or, reduceIte, *])
theorem w4 {o : Orc} {ds : List Int} {sc : D} {s2 s4 s5 s6 s7 s8 s9 s10 s12 : Sl} {m : Nat} (tk : Tk o ds) (cl : ∀ p, ∃ (c : Cs) (p' : Nat), c.ok m ∧ o.cl 17 [.ow (hL ds p), .fz (.int m)] = .ok (.pl c.d, [.ow (hL ds p'), .un])) (p : Nat) :
    ∃ (cs : List Cs) (p' : Nat), cs.length ≤ 5 ∧ (∀ c ∈ cs, c.ok m) ∧ evS o [] st4 (en43 sc (hL ds p) s2 (.fz (.int m)) s4 s5 s6 s7 s8 s9 s10 s12) = .ok (.nx, en43 sc (hL ds p') s2 (.fz (.int m)) (.ow (csD cs)) s5 s6 s7 s8 s9 s10 s12) := by
  obtain ⟨v, v0, v1, v2⟩ := tk p 6 (by decide)
  obtain ⟨N, rfl, hN⟩ := nat_of (m := 6) v0 v1
  have e1 : evA o [] (.sole (.cal 14 (.cons (.pk 1) (.cons (.int 6) (.nil))))) (en43 sc (hL ds p) s2 (.fz (.int m)) s4 s5 s6 s7 s8 s9 s10 s12) = .ok ([.pl (.int (N : Int))], en43 sc (hL ds (p + 1)) s2 (.fz (.int m)) s4 s5 s6 s7 s8 s9 s10 s12) := sole_of (cal_of rfl (by exact nd1) v2 rfl)
  obtain ⟨zs, δ', q1, q2, cs, p', q3, q4, q5⟩ := lc_run (o := o) (bd := []) (own := [11]) (tg := .nm 11) (k := .rng1) (is := .sole (.cal 14 (.cons (.pk 1) (.cons (.int 6) (.nil))))) (e := .cal 17 (.cons (.pk 1) (.cons (.var 3) (.nil)))) (δ := en43 sc (hL ds p) s2 (.fz (.int m)) s4 s5 s6 s7 s8 s9 s10 s12)
    (fun acc δ => ∃ (cs : List Cs) (p : Nat), acc = csD cs ∧ (∀ c ∈ cs, c.ok m) ∧ δ = en43 sc (hL ds p) s2 (.fz (.int m)) s4 s5 s6 s7 s8 s9 s10 s12) e1 rfl (it_n (by omega)) rfl (by rw [List.length_map, List.length_range]; exact Nat.le_trans (Nat.le_of_lt hN) (by decide)) ⟨[], p + 1, rfl, fun c h => (nomatch h), rfl⟩ (by
      rintro i d acc δ hi ⟨cs, p, rfl, h2, rfl⟩
      obtain ⟨c, p', c1, c2⟩ := cl p
      refine ⟨[.fz sc, .ow (hL ds p), s2, .fz (.int m), s4, s5, s6, s7, s8, s9, s10, .fz d, s12], [.fz sc, .ow (hL ds p'), s2, .fz (.int m), s4, s5, s6, s7, s8, s9, s10, .fz d, s12], .pl c.d, c.d, rfl, cal_of rfl (by exact nd1) c2 rfl, rfl, cs ++ [c], p', by simp [csD], fun x hx => ?_, rfl⟩
      rcases List.mem_append.mp hx with h | h
      · exact h2 x h
      · rw [List.mem_singleton] at h; subst h; exact c1)
  subst q3 q5
  rw [List.length_map, List.length_range, csD, List.length_map] at q2
  refine ⟨cs, p', by omega, q4, ?_⟩
  have hb : backS (en43 sc (hL ds (p + 1)) s2 (.fz (.int m)) s4 s5 s6 s7 s8 s9 s10 s12) [11] (en43 sc (hL ds p') s2 (.fz (.int m)) s4 s5 s6 s7 s8 s9 s10 s12) = en43 sc (hL ds p') s2 (.fz (.int m)) s4 s5 s6 s7 s8 s9 s10 s12 := rfl
  rw [hb] at q1
  exact asg_of q1 rfl
def rowsS : S := (.for_ (.nm 9) .seq (.sole (.cal 15 (.cons (.var 3) (.nil)))) rB)
theorem wrows {o : Orc} {H : List D} {sc : D} {s2 s4 s6 s7 s8 s9 s10 s12 : Sl} {m : Nat} {c : Cs} (e15 : o.cl 15 [.fz (.int m)] = .ok (.pl (.lst ((every m).map tupI)), [.un])) (h : ∀ r ∈ every m, o.cl 10 [.fz (tupI r), .fz c.d] = .ok (.pl (.bl (c.holds r)), [.un, .un]) ∧ o.cl 18 [.fz (tupI r), .fz c.d] = .ok (.pl (.bl (c.holds r)), [.un, .un])) :
    ∃ s9' s12', evS o [] rowsS (en43 sc H s2 (.fz (.int m)) s4 (.fz c.d) s6 s7 s8 s9 s10 s12) = .ok (.nx, en43 sc H s2 (.fz (.int m)) s4 (.fz c.d) s6 s7 s8 s9' s10 s12') := by
  obtain ⟨δ', f1, s9', s12', q1⟩ := for_run (o := o) (bd := []) (tg := .nm 9) (k := .seq) (is := .sole (.cal 15 (.cons (.var 3) (.nil)))) (b := rB) (δ := en43 sc H s2 (.fz (.int m)) s4 (.fz c.d) s6 s7 s8 s9 s10 s12) (vs := [.pl (.lst ((every m).map tupI))]) (dd := [.lst ((every m).map tupI)]) (items := (every m).map tupI)
    (fun _ δ => ∃ s9 s12, δ = en43 sc H s2 (.fz (.int m)) s4 (.fz c.d) s6 s7 s8 s9 s10 s12) (sole_of (cal_of rfl (by exact List.nodup_nil) e15 rfl)) rfl rfl ⟨s9, s12, rfl⟩ (by
      rintro i d δ hi ⟨s9, s12, rfl⟩
      obtain ⟨r, hr, rfl⟩ := List.mem_map.mp (List.mem_of_getElem? hi)
      obtain ⟨a, b⟩ := h r hr
      exact ⟨_, _, rfl, .inl (wr a b), _, _, rfl⟩)
  subst q1
  exact ⟨s9', s12', f1⟩
def clausesS : S := (.for_ (.nm 5) .seq (.sole (.var 4)) (.seq rowsS (.skip)))
theorem wclauses {o : Orc} {H : List D} {sc : D} {s2 s5 s6 s7 s8 s9 s10 s12 : Sl} {m : Nat} {cs : List Cs} (e15 : o.cl 15 [.fz (.int m)] = .ok (.pl (.lst ((every m).map tupI)), [.un])) (h : ∀ c ∈ cs, ∀ r ∈ every m, o.cl 10 [.fz (tupI r), .fz c.d] = .ok (.pl (.bl (c.holds r)), [.un, .un]) ∧ o.cl 18 [.fz (tupI r), .fz c.d] = .ok (.pl (.bl (c.holds r)), [.un, .un])) :
    ∃ s5' s9' s12', evS o [] clausesS (en43 sc H s2 (.fz (.int m)) (.ow (csD cs)) s5 s6 s7 s8 s9 s10 s12) = .ok (.nx, en43 sc H s2 (.fz (.int m)) (.fz (.lst (csD cs))) s5' s6 s7 s8 s9' s10 s12') := by
  obtain ⟨δ', f1, s5', s9', s12', q1⟩ := for_run (o := o) (bd := []) (tg := .nm 5) (k := .seq) (is := .sole (.var 4)) (b := .seq rowsS .skip) (δ := en43 sc H s2 (.fz (.int m)) (.ow (csD cs)) s5 s6 s7 s8 s9 s10 s12) (δ1 := en43 sc H s2 (.fz (.int m)) (.fz (.lst (csD cs))) s5 s6 s7 s8 s9 s10 s12) (vs := [.pl (.lst (csD cs))]) (dd := [.lst (csD cs)]) (items := csD cs)
    (fun _ δ => ∃ s5 s9 s12, δ = en43 sc H s2 (.fz (.int m)) (.fz (.lst (csD cs))) s5 s6 s7 s8 s9 s10 s12) rfl rfl rfl ⟨s5, s9, s12, rfl⟩ (by
      rintro i d δ hi ⟨s5, s9, s12, rfl⟩
      obtain ⟨c, hc, rfl⟩ := List.mem_map.mp (List.mem_of_getElem? hi)
      obtain ⟨s9', s12', e⟩ := wrows (o := o) (H := H) (sc := sc) (s2 := s2) (s4 := .fz (.lst (csD cs))) (s6 := s6) (s7 := s7) (s8 := s8) (s9 := s9) (s10 := s10) (s12 := s12) e15 (h c hc)
      exact ⟨_, _, rfl, .inl ((seq_nx e).trans rfl), _, _, _, rfl⟩)
  subst q1
  exact ⟨s5', s9', s12', f1⟩
def lawB : S := (.seq st3 (.seq st4 (.seq clausesS (.seq st6 (.seq st7 (.seq st8 (.seq st9 (.seq st10 (.seq st11 (.skip))))))))))
theorem law_true (ns : List Int) (hl : ns.length ≤ 63) : ∃ ss, (B.orc Pf.ds gv 60).cl 22 [.fz (scr ns)] = .ok (.pl (.bl true), ss) := by
  let n := 40
  show ∃ ss, (O (n + 20)).cl 22 [.fz (scr ns)] = .ok (.pl (.bl true), ss)
  generalize n = n
  obtain ⟨ds, _, hdr⟩ := i_draws (n + 18) ns 220 (by decide) hl
  have tk : Tk (O (n + 19)) ds := tk_of (n + 18) ds
  have cl : ∀ {m : Nat}, 1 ≤ m → m ≤ 4 → ∀ p, ∃ (c : Cs) (p' : Nat), c.ok m ∧ (O (n + 19)).cl 17 [.ow (hL ds p), .fz (.int m)] = .ok (.pl c.d, [.ow (hL ds p'), .un]) := fun h1 h4 p => r_clause h1 h4 (n + 16) ds p
  have e15 : ∀ m : Nat, m ≤ 4 → (O (n + 19)).cl 15 [.fz (.int m)] = .ok (.pl (.lst ((every m).map tupI)), [.un]) := fun m hm => i_every (n + 18) m (by omega)
  have e10 : ∀ {m : Nat} {c : Cs}, c.ok m → ∀ r ∈ every m, (O (n + 19)).cl 10 [.fz (tupI r), .fz c.d] = .ok (.pl (.bl (c.holds r)), [.un, .un]) ∧ (O (n + 19)).cl 18 [.fz (tupI r), .fz c.d] = .ok (.pl (.bl (c.holds r)), [.un, .un]) := fun hc r hr => ⟨r_fulfils (every_bits r hr) hc (n + 18), r_law_fulfils (every_bits r hr) hc (n + 18)⟩
  have e19 : ∀ {m : Nat} {d : D} {cs : List Cs}, m ≤ 4 → CsIn m d cs → (O (n + 19)).cl 19 [.fz (.int m), .fz d] = .ok (.pl (dueD m (toldR m cs)), [.un, .un]) := fun h4 h => r_law_told h4 h (n + 17)
  have e11 : ∀ {m : Nat} {d : D} {cs : List Cs}, 1 ≤ m → m ≤ 4 → CsIn m d cs → toldR m cs ≠ [] → (O (n + 19)).cl 11 [.fz (.int m), .fz d] = .ok (.pl (relD m (toldR m cs)), [.un, .un]) := fun h1 h4 h h0 => by
    have := r_told h1 h4 h (n + 10)
    rw [if_neg h0] at this
    exact this
  have e20 : ∀ {m : Nat} {cs : List Cs}, m ≤ 4 → (O (n + 19)).cl 20 [.fz (relD m (toldR m cs)), .fz (dueD m (toldR m cs))] = .ok (.pl (.bl true), [.un, .un]) := fun h4 => r_is_rel h4 (told_len h4) told_bits (n + 18)
  have e21 : ∀ {m : Nat} {d : D} {cs : List Cs}, 1 ≤ m → m ≤ 4 → CsIn m d cs → toldR m cs = [] → (O (n + 19)).cl 21 [.fz (.int m), .fz d] = .ok (.pl (.str "undefined 'relation'"), [.un, .un]) := fun h1 h4 h h0 => r_ref_undef h1 h4 h h0 (n + 9)
  have e21n : ∀ {d : D} (x : D), d ∈ wrongs → (O (n + 19)).cl 21 [.fz d, .fz x] = .ok (.pl (.str ("number " ++ d.py.shown)), [.un, .un]) := fun x hd => by
    obtain ⟨a, b, c⟩ := wrongs_ok _ hd
    exact r_ref_number (n := n + 15) a b c (by decide)
  change (O (n + 19)).cl 13 _ = _ at hdr
  rw [show n + 20 = (n + 19) + 1 from rfl, cl_of (d := d_law) rfl]
  generalize O (n + 19) = o at *
  have i220 : ((220 : Nat) : Int) = 220 := rfl
  rw [i220] at hdr
  have q1 : evS o [] (.asg 1 (.lst (.cons (.cal 13 (.cons (.var 0) (.cons (.int 220) (.nil)))) (.cons (.int 0) (.nil))))) (en43 (scr ns) [] .un .un .un .un .un .un .un .un .un .un |>.set 1 .un) = .ok (.nx, en43 (scr ns) (hL ds 0) .un .un .un .un .un .un .un .un .un .un) :=
    asg_of (lst_of (cons_of (cal_of rfl (by exact List.nodup_nil) hdr rfl) (cons_of rfl nil_of)) rfl (by show 2 ≤ sizeLine; decide)) rfl
  have us : cmpD .NotEq (.str "undefined 'relation'") (.str "undefined 'relation'") = some false := by
    have ok : PyData.strOk "undefined 'relation'" = true := by decide +kernel
    have := cmp_ne (eq_str ok ok)
    simpa using this
  obtain ⟨δ', f1, p, s2, s3, s4, s5, s6, s7, s8, s9, s10, s12, g1⟩ := for_run (o := o) (bd := []) (tg := .nm 2) (k := .rng1) (is := .sole (.int 4)) (b := lawB) (δ := en43 (scr ns) (hL ds 0) .un .un .un .un .un .un .un .un .un .un)
    (fun _ δ => ∃ p s2 s3 s4 s5 s6 s7 s8 s9 s10 s12, δ = en43 (scr ns) (hL ds p) s2 s3 s4 s5 s6 s7 s8 s9 s10 s12) rfl rfl (it_n (N := 4) (by decide)) ⟨0, .un, .un, .un, .un, .un, .un, .un, .un, .un, .un, rfl⟩ (by
      rintro i d δ hi ⟨p, s2, s3, s4, s5, s6, s7, s8, s9, s10, s12, rfl⟩
      obtain ⟨v, v0, v1, v2⟩ := tk p 4 (by decide)
      obtain ⟨m, hm, h1, h4⟩ : ∃ m : Nat, (1 + v : Int) = m ∧ 1 ≤ m ∧ m ≤ 4 := ⟨(1 + v).toNat, by omega, by omega, by omega⟩
      have a3 := w3 (sc := scr ns) (s2 := .fz d) (s3 := s3) (s4 := s4) (s5 := s5) (s6 := s6) (s7 := s7) (s8 := s8) (s9 := s9) (s10 := s10) (s12 := s12) hm v2
      obtain ⟨cs, p1, c1, c2, a4⟩ := w4 (sc := scr ns) (s2 := .fz d) (s4 := s4) (s5 := s5) (s6 := s6) (s7 := s7) (s8 := s8) (s9 := s9) (s10 := s10) (s12 := s12) tk (cl h1 h4) (p + 1)
      obtain ⟨t5, t9, t12, a5⟩ := wclauses (H := hL ds p1) (sc := scr ns) (s2 := .fz d) (s5 := s5) (s6 := s6) (s7 := s7) (s8 := s8) (s9 := s9) (s10 := s10) (s12 := s12) (cs := cs) (e15 m h4) (fun c hc r hr => e10 (c2 c hc) r hr)
      have ci : CsIn m (.lst (csD cs)) cs := ⟨.inl rfl, c1, c2⟩
      have ct : CsIn m (.tup (csD cs)) cs := ⟨.inr rfl, c1, c2⟩
      have a6 := w6 (H := hL ds p1) (sc := scr ns) (s2 := .fz d) (s5 := t5) (s6 := s6) (s7 := s7) (s8 := s8) (s9 := t9) (s10 := s10) (s12 := t12) (e19 h4 ci)
      have rpc := rp_csL h4 c1 c2
      have rc := repr_of rpc (by decide) (by decide)
      have sc' : cmpD .NotEq (.str (D.lst (csD cs)).py.shown) (.str (D.lst (csD cs)).py.shown) = some false := cmp_ne (same_repr rpc)
      have a7 := w7 (o := o) (H := hL ds p1) (sc := scr ns) (s2 := .fz d) (s3 := .fz (.int m)) (s5 := t5) (s6 := .fz (dueD m (toldR m cs))) (s7 := s7) (s8 := s8) (s9 := t9) (s10 := s10) (s12 := t12) rc
      have a8 : ∃ t10, evS o [] st8 (en43 (scr ns) (hL ds p1) (.fz d) (.fz (.int m)) (.fz (.lst (csD cs))) t5 (.fz (dueD m (toldR m cs))) (.fz (.str (D.lst (csD cs)).py.shown)) s8 t9 s10 t12) = .ok (.nx, en43 (scr ns) (hL ds p1) (.fz d) (.fz (.int m)) (.fz (.lst (csD cs))) t5 (.fz (dueD m (toldR m cs))) (.fz (.str (D.lst (csD cs)).py.shown)) s8 t9 t10 t12) := by
        by_cases h0 : toldR m cs = []
        · have := e21 h1 h4 ci h0
          rw [h0]
          exact ⟨s10, w8a us this⟩
        · refine w8b (RR := (toldR m cs).map tupI) (fun e => h0 (List.map_eq_nil_iff.mp e)) (fun y hy => ?_)
          rcases hy with rfl | rfl
          · exact ⟨_, e11 h1 h4 ci h0, e20 h4⟩
          · exact ⟨_, e11 h1 h4 ct h0, e20 h4⟩
      obtain ⟨t10, a8⟩ := a8
      have a9 := w9 (o := o) (H := hL ds p1) (sc := scr ns) (s2 := .fz d) (s3 := .fz (.int m)) (s5 := t5) (s6 := .fz (dueD m (toldR m cs))) (s8 := s8) (s9 := t9) (s10 := t10) (s12 := t12) rc sc'
      obtain ⟨w, w0, w1, w2⟩ := tk p1 10 (by decide)
      obtain ⟨x, xm, xe⟩ := at_some (xs := wrongs) w0 w1
      have a10 := w10 (sc := scr ns) (s2 := .fz d) (s3 := .fz (.int m)) (s4 := .fz (.lst (csD cs))) (s5 := t5) (s6 := .fz (dueD m (toldR m cs))) (s7 := .fz (.str (D.lst (csD cs)).py.shown)) (s8 := s8) (s9 := t9) (s10 := t10) (s12 := t12) w2 xe
      obtain ⟨u, u0, u1, u2⟩ := tk (p1 + 1) 2 (by decide)
      obtain ⟨y, ym, ye⟩ := at_some (xs := [D.lst (csD cs), D.tup []]) u0 u1
      obtain ⟨x1, x2, rpx⟩ := wrongs_ok x xm
      have rx := repr_of rpx (by decide) (by decide)
      have okn : PyData.strOk (("number " : Str) ++ x.py.shown) = true := ok_app (by decide +kernel) rpx.ok
      have sn : cmpD .NotEq (.str (("number " : Str) ++ x.py.shown)) (.str (("number " : Str) ++ x.py.shown)) = some false := by
        have := cmp_ne (eq_str okn okn)
        simpa using this
      have ad : binD .Add (.str "number ") (.str x.py.shown) = some (.pl (.str ("number " ++ x.py.shown))) := by
        show (if (("number " : String) : Str).length + x.py.shown.length ≤ sizeLine then _ else _) = _
        have l7 : (("number " : String) : Str).length = 7 := rfl
        have := rpx.len
        rw [if_pos (Nat.le_trans (by omega : _ ≤ 1000) (by decide))]
      have a11 := w11 (sc := scr ns) (s2 := .fz d) (s3 := .fz (.int m)) (s5 := t5) (s6 := .fz (dueD m (toldR m cs))) (s7 := .fz (.str (D.lst (csD cs)).py.shown)) (s9 := t9) (s10 := t10) (s12 := t12) u2 ye (e21n y xm) rx ad sn
      exact ⟨_, _, rfl, .inl ((seq_nx a3).trans ((seq_nx a4).trans ((seq_nx a5).trans ((seq_nx a6).trans ((seq_nx a7).trans ((seq_nx a8).trans ((seq_nx a9).trans ((seq_nx a10).trans ((seq_nx a11).trans rfl))))))))), _, _, _, _, _, _, _, _, _, _, _, rfl⟩)
  subst g1
  have hb : evS o [] c_law (en43 (scr ns) [] .un .un .un .un .un .un .un .un .un .un |>.set 1 .un) = .ok (.rt (.pl (.bl true)), en43 (scr ns) (hL ds p) s2 s3 s4 s5 s6 s7 s8 s9 s10 s12) :=
    (seq_nx q1).trans ((seq_nx f1).trans (ret_seq rfl rfl))
  exact ⟨_, runD_rt ⟨rfl, rfl⟩ hb (by show 1 ≤ 13; decide) True.intro⟩
end Pf
namespace Pf
open PySem L2 B
def top (i : Nat) : Stmt := PySem.Challenge.pw_eightcells_k43_clauses_told.main.body.getD i (.Pass ⟨0, 0, 0, 0⟩)
def cls (i j : Nat) : Stmt := match top i with | .ClassDef (body := b) .. => b.getD j (.Pass ⟨0, 0, 0, 0⟩) | _ => .Pass ⟨0, 0, 0, 0⟩
def n_wall : List Str := ["k"]
abbrev s_wall : Stmt := top 0
def n_is_integer : List Str := ["thing"]
abbrev s_is_integer : Stmt := top 2
def n_is_number_below : List Str := ["thing", "bound"]
abbrev s_is_number_below : Stmt := top 3
def n_is_sequence : List Str := ["thing"]
abbrev s_is_sequence : Stmt := top 4
def n_is_tuple : List Str := ["thing", "length"]
abbrev s_is_tuple : Stmt := top 5
def n_is_value : List Str := ["thing"]
abbrev s_is_value : Stmt := top 6
def n_is_row : List Str := ["thing", "size", "member"]
abbrev s_is_row : Stmt := top 7
def n_all_rows : List Str := ["size", "rows", "_", "row", "value"]
abbrev s_all_rows : Stmt := top 8
def n_is_size : List Str := ["thing"]
abbrev s_is_size : Stmt := top 17
def n_are_rows : List Str := ["thing", "size", "member"]
abbrev s_are_rows : Stmt := top 18
def n_fulfils : List Str := ["row", "clause", "_", "i", "j", "value", "other", "places", "bit", "place"]
abbrev s_fulfils : Stmt := top 20
def n_told_by : List Str := ["size", "clauses", "rows", "row"]
abbrev s_told_by : Stmt := top 21
def n_fulfils_all : List Str := ["row", "clauses", "clause"]
abbrev s_fulfils_all : Stmt := top 22
def n_law_draws : List Str := ["script", "many", "rests", "draws", "k", "cell", "mixed", "at"]
abbrev s_law_draws : Stmt := top 24
def n_law_take : List Str := ["hand", "many", "at", "draws"]
abbrev s_law_take : Stmt := top 25
def n_law_all_rows : List Str := ["many", "rows", "k", "longer", "row"]
abbrev s_law_all_rows : Stmt := top 26
def n_law_rising : List Str := ["hand", "size", "k"]
abbrev s_law_rising : Stmt := top 27
def n_law_clause : List Str := ["hand", "size", "kind", "j"]
abbrev s_law_clause : Stmt := top 28
def n_law_fulfils : List Str := ["row", "clause", "values", "k"]
abbrev s_law_fulfils : Stmt := top 29
def n_law_told : List Str := ["size", "clauses", "found", "row", "clause"]
abbrev s_law_told : Stmt := top 30
def n_law_is_relation : List Str := ["actual", "due"]
abbrev s_law_is_relation : Stmt := top 31
def n_law_refusal : List Str := ["size", "clauses", "e", "found"]
abbrev s_law_refusal : Stmt := top 32
def n_law : List Str := ["script", "hand", "t", "size", "clauses", "clause", "due", "told", "wrong", "row", "handed", "k", "actual"]
abbrev s_law : Stmt := top 33
def n_Relation_init : List Str := ["self", "size", "rows"]
abbrev s_Relation_init : Stmt := cls 16 0
def n_Relation_eq : List Str := ["self", "other"]
abbrev s_Relation_eq : Stmt := cls 16 1
def n_Relation_len : List Str := ["self"]
abbrev s_Relation_len : Stmt := cls 16 2
def n_Relation_has : List Str := ["self", "row"]
abbrev s_Relation_has : Stmt := cls 16 3
def n_Relation_opposite : List Str := ["self"]
abbrev s_Relation_opposite : Stmt := cls 16 4
def n_Relation_read_at : List Str := ["self", "places"]
abbrev s_Relation_read_at : Stmt := cls 16 5
def n_Relation_alike : List Str := ["self", "i", "j"]
abbrev s_Relation_alike : Stmt := cls 16 6
def n_Relation_both : List Str := ["self", "other"]
abbrev s_Relation_both : Stmt := cls 16 7
def n_Relation_beside : List Str := ["self", "other"]
abbrev s_Relation_beside : Stmt := cls 16 8
def pss : List (List Str) := [(["k"] : List Str), (["thing"] : List Str), (["thing", "bound"] : List Str), (["thing"] : List Str), (["thing", "length"] : List Str), (["thing"] : List Str), (["thing", "size"] : List Str), (["size"] : List Str), (["thing"] : List Str), (["thing", "size"] : List Str), (["row", "clause"] : List Str), (["size", "clauses"] : List Str), (["row", "clauses"] : List Str), (["script", "many"] : List Str), (["hand", "many"] : List Str), (["many"] : List Str), (["hand", "size"] : List Str), (["hand", "size"] : List Str), (["row", "clause"] : List Str), (["size", "clauses"] : List Str), (["actual", "due"] : List Str), (["size", "clauses"] : List Str), (["script"] : List Str), (["self", "size", "rows"] : List Str), (["self", "other"] : List Str), (["self"] : List Str), (["self", "row"] : List Str), (["self"] : List Str), (["self", "places"] : List Str), (["self", "i", "j"] : List Str), (["self", "other"] : List Str), (["self", "other"] : List Str)]
def tab : Tab := ⟨[(("_wall" : Str), 1), (("is_integer" : Str), 1), (("is_number_below" : Str), 2), (("is_sequence" : Str), 1), (("is_tuple" : Str), 2), (("is_value" : Str), 1), (("is_row" : Str), 2), (("all_rows" : Str), 1), (("_is_size" : Str), 1), (("_are_rows" : Str), 2), (("fulfils" : Str), 2), (("told_by" : Str), 2), (("_fulfils_all" : Str), 2), (("_law_draws" : Str), 2), (("_law_take" : Str), 2), (("_law_all_rows" : Str), 1), (("_law_rising" : Str), 2), (("_law_clause" : Str), 2), (("_law_fulfils" : Str), 2), (("_law_told" : Str), 2), (("_law_is_relation" : Str), 2), (("_law_refusal" : Str), 2), (("law" : Str), 1)], ["MOST_PLACES"], ["ValueError", "abs", "all", "any", "bool", "int", "isinstance", "len", "list", "range", "repr", "set", "sorted", "sum", "tuple"], ["Relation", "CellError", "InvalidNumber", "InvalidRelation", "Undefined"], [0], pss, true⟩
theorem ok_wall : okB tab n_wall (defScope s_wall) c_wall (defBody s_wall) = true := by decide +kernel
theorem sc_wall : FnScope n_wall ["k"] (defScope s_wall) := ⟨rfl, rfl, rfl, by decide +kernel, rfl, by decide +kernel, by decide +kernel⟩
theorem ok_is_integer : okB tab n_is_integer (defScope s_is_integer) c_is_integer (defBody s_is_integer) = true := by decide +kernel
theorem sc_is_integer : FnScope n_is_integer ["thing"] (defScope s_is_integer) := ⟨rfl, rfl, rfl, by decide +kernel, rfl, by decide +kernel, by decide +kernel⟩
theorem ok_is_number_below : okB tab n_is_number_below (defScope s_is_number_below) c_is_number_below (defBody s_is_number_below) = true := by decide +kernel
theorem sc_is_number_below : FnScope n_is_number_below ["thing", "bound"] (defScope s_is_number_below) := ⟨rfl, rfl, rfl, by decide +kernel, rfl, by decide +kernel, by decide +kernel⟩
theorem ok_is_sequence : okB tab n_is_sequence (defScope s_is_sequence) c_is_sequence (defBody s_is_sequence) = true := by decide +kernel
theorem sc_is_sequence : FnScope n_is_sequence ["thing"] (defScope s_is_sequence) := ⟨rfl, rfl, rfl, by decide +kernel, rfl, by decide +kernel, by decide +kernel⟩
theorem ok_is_tuple : okB tab n_is_tuple (defScope s_is_tuple) c_is_tuple (defBody s_is_tuple) = true := by decide +kernel
theorem sc_is_tuple : FnScope n_is_tuple ["thing", "length"] (defScope s_is_tuple) := ⟨rfl, rfl, rfl, by decide +kernel, rfl, by decide +kernel, by decide +kernel⟩
theorem ok_is_value : okB tab n_is_value (defScope s_is_value) c_is_value (defBody s_is_value) = true := by decide +kernel
theorem sc_is_value : FnScope n_is_value ["thing"] (defScope s_is_value) := ⟨rfl, rfl, rfl, by decide +kernel, rfl, by decide +kernel, by decide +kernel⟩
theorem ok_is_row : okB tab n_is_row (defScope s_is_row) c_is_row (defBody s_is_row) = true := by decide +kernel
theorem sc_is_row : FnScope n_is_row ["thing", "size"] (defScope s_is_row) := ⟨rfl, rfl, rfl, by decide +kernel, rfl, by decide +kernel, by decide +kernel⟩
theorem ok_all_rows : okB tab n_all_rows (defScope s_all_rows) c_all_rows (defBody s_all_rows) = true := by decide +kernel
theorem sc_all_rows : FnScope n_all_rows ["size"] (defScope s_all_rows) := ⟨rfl, rfl, rfl, by decide +kernel, rfl, by decide +kernel, by decide +kernel⟩
theorem ok_is_size : okB tab n_is_size (defScope s_is_size) c_is_size (defBody s_is_size) = true := by decide +kernel
theorem sc_is_size : FnScope n_is_size ["thing"] (defScope s_is_size) := ⟨rfl, rfl, rfl, by decide +kernel, rfl, by decide +kernel, by decide +kernel⟩
theorem ok_are_rows : okB tab n_are_rows (defScope s_are_rows) c_are_rows (defBody s_are_rows) = true := by decide +kernel
theorem sc_are_rows : FnScope n_are_rows ["thing", "size"] (defScope s_are_rows) := ⟨rfl, rfl, rfl, by decide +kernel, rfl, by decide +kernel, by decide +kernel⟩
theorem ok_fulfils : okB tab n_fulfils (defScope s_fulfils) c_fulfils (defBody s_fulfils) = true := by decide +kernel
theorem sc_fulfils : FnScope n_fulfils ["row", "clause"] (defScope s_fulfils) := ⟨rfl, rfl, rfl, by decide +kernel, rfl, by decide +kernel, by decide +kernel⟩
theorem ok_told_by : okB tab n_told_by (defScope s_told_by) c_told_by (defBody s_told_by) = true := by decide +kernel
theorem sc_told_by : FnScope n_told_by ["size", "clauses"] (defScope s_told_by) := ⟨rfl, rfl, rfl, by decide +kernel, rfl, by decide +kernel, by decide +kernel⟩
theorem ok_fulfils_all : okB tab n_fulfils_all (defScope s_fulfils_all) c_fulfils_all (defBody s_fulfils_all) = true := by decide +kernel
theorem sc_fulfils_all : FnScope n_fulfils_all ["row", "clauses"] (defScope s_fulfils_all) := ⟨rfl, rfl, rfl, by decide +kernel, rfl, by decide +kernel, by decide +kernel⟩
theorem ok_law_draws : okB tab n_law_draws (defScope s_law_draws) c_law_draws (defBody s_law_draws) = true := by decide +kernel
theorem sc_law_draws : FnScope n_law_draws ["script", "many"] (defScope s_law_draws) := ⟨rfl, rfl, rfl, by decide +kernel, rfl, by decide +kernel, by decide +kernel⟩
theorem ok_law_take : okB tab n_law_take (defScope s_law_take) c_law_take (defBody s_law_take) = true := by decide +kernel
theorem sc_law_take : FnScope n_law_take ["hand", "many"] (defScope s_law_take) := ⟨rfl, rfl, rfl, by decide +kernel, rfl, by decide +kernel, by decide +kernel⟩
theorem ok_law_all_rows : okB tab n_law_all_rows (defScope s_law_all_rows) c_law_all_rows (defBody s_law_all_rows) = true := by decide +kernel
theorem sc_law_all_rows : FnScope n_law_all_rows ["many"] (defScope s_law_all_rows) := ⟨rfl, rfl, rfl, by decide +kernel, rfl, by decide +kernel, by decide +kernel⟩
theorem ok_law_rising : okB tab n_law_rising (defScope s_law_rising) c_law_rising (defBody s_law_rising) = true := by decide +kernel
theorem sc_law_rising : FnScope n_law_rising ["hand", "size"] (defScope s_law_rising) := ⟨rfl, rfl, rfl, by decide +kernel, rfl, by decide +kernel, by decide +kernel⟩
theorem ok_law_clause : okB tab n_law_clause (defScope s_law_clause) c_law_clause (defBody s_law_clause) = true := by decide +kernel
theorem sc_law_clause : FnScope n_law_clause ["hand", "size"] (defScope s_law_clause) := ⟨rfl, rfl, rfl, by decide +kernel, rfl, by decide +kernel, by decide +kernel⟩
theorem ok_law_fulfils : okB tab n_law_fulfils (defScope s_law_fulfils) c_law_fulfils (defBody s_law_fulfils) = true := by decide +kernel
theorem sc_law_fulfils : FnScope n_law_fulfils ["row", "clause"] (defScope s_law_fulfils) := ⟨rfl, rfl, rfl, by decide +kernel, rfl, by decide +kernel, by decide +kernel⟩
theorem ok_law_told : okB tab n_law_told (defScope s_law_told) c_law_told (defBody s_law_told) = true := by decide +kernel
theorem sc_law_told : FnScope n_law_told ["size", "clauses"] (defScope s_law_told) := ⟨rfl, rfl, rfl, by decide +kernel, rfl, by decide +kernel, by decide +kernel⟩
theorem ok_law_is_relation : okB tab n_law_is_relation (defScope s_law_is_relation) c_law_is_relation (defBody s_law_is_relation) = true := by decide +kernel
theorem sc_law_is_relation : FnScope n_law_is_relation ["actual", "due"] (defScope s_law_is_relation) := ⟨rfl, rfl, rfl, by decide +kernel, rfl, by decide +kernel, by decide +kernel⟩
theorem ok_law_refusal : okB tab n_law_refusal (defScope s_law_refusal) c_law_refusal (defBody s_law_refusal) = true := by decide +kernel
theorem sc_law_refusal : FnScope n_law_refusal ["size", "clauses"] (defScope s_law_refusal) := ⟨rfl, rfl, rfl, by decide +kernel, rfl, by decide +kernel, by decide +kernel⟩
theorem ok_law : okB tab n_law (defScope s_law) c_law (defBody s_law) = true := by decide +kernel
theorem sc_law : FnScope n_law ["script"] (defScope s_law) := ⟨rfl, rfl, rfl, by decide +kernel, rfl, by decide +kernel, by decide +kernel⟩
theorem ok_Relation_init : okB tab n_Relation_init (defScope s_Relation_init) c_Relation_init (defBody s_Relation_init) = true := by decide +kernel
theorem sc_Relation_init : FnScope n_Relation_init ["self", "size", "rows"] (defScope s_Relation_init) := ⟨rfl, rfl, rfl, by decide +kernel, rfl, by decide +kernel, by decide +kernel⟩
theorem ok_Relation_eq : okB tab n_Relation_eq (defScope s_Relation_eq) c_Relation_eq (defBody s_Relation_eq) = true := by decide +kernel
theorem sc_Relation_eq : FnScope n_Relation_eq ["self", "other"] (defScope s_Relation_eq) := ⟨rfl, rfl, rfl, by decide +kernel, rfl, by decide +kernel, by decide +kernel⟩
theorem ok_Relation_len : okB tab n_Relation_len (defScope s_Relation_len) c_Relation_len (defBody s_Relation_len) = true := by decide +kernel
theorem sc_Relation_len : FnScope n_Relation_len ["self"] (defScope s_Relation_len) := ⟨rfl, rfl, rfl, by decide +kernel, rfl, by decide +kernel, by decide +kernel⟩
theorem ok_Relation_has : okB tab n_Relation_has (defScope s_Relation_has) c_Relation_has (defBody s_Relation_has) = true := by decide +kernel
theorem sc_Relation_has : FnScope n_Relation_has ["self", "row"] (defScope s_Relation_has) := ⟨rfl, rfl, rfl, by decide +kernel, rfl, by decide +kernel, by decide +kernel⟩
theorem ok_Relation_opposite : okB tab n_Relation_opposite (defScope s_Relation_opposite) c_Relation_opposite (defBody s_Relation_opposite) = true := by decide +kernel
theorem sc_Relation_opposite : FnScope n_Relation_opposite ["self"] (defScope s_Relation_opposite) := ⟨rfl, rfl, rfl, by decide +kernel, rfl, by decide +kernel, by decide +kernel⟩
theorem ok_Relation_read_at : okB tab n_Relation_read_at (defScope s_Relation_read_at) c_Relation_read_at (defBody s_Relation_read_at) = true := by decide +kernel
theorem sc_Relation_read_at : FnScope n_Relation_read_at ["self", "places"] (defScope s_Relation_read_at) := ⟨rfl, rfl, rfl, by decide +kernel, rfl, by decide +kernel, by decide +kernel⟩
theorem ok_Relation_alike : okB tab n_Relation_alike (defScope s_Relation_alike) c_Relation_alike (defBody s_Relation_alike) = true := by decide +kernel
theorem sc_Relation_alike : FnScope n_Relation_alike ["self", "i", "j"] (defScope s_Relation_alike) := ⟨rfl, rfl, rfl, by decide +kernel, rfl, by decide +kernel, by decide +kernel⟩
theorem ok_Relation_both : okB tab n_Relation_both (defScope s_Relation_both) c_Relation_both (defBody s_Relation_both) = true := by decide +kernel
theorem sc_Relation_both : FnScope n_Relation_both ["self", "other"] (defScope s_Relation_both) := ⟨rfl, rfl, rfl, by decide +kernel, rfl, by decide +kernel, by decide +kernel⟩
theorem ok_Relation_beside : okB tab n_Relation_beside (defScope s_Relation_beside) c_Relation_beside (defBody s_Relation_beside) = true := by decide +kernel
theorem sc_Relation_beside : FnScope n_Relation_beside ["self", "other"] (defScope s_Relation_beside) := ⟨rfl, rfl, rfl, by decide +kernel, rfl, by decide +kernel, by decide +kernel⟩
abbrev sx_InvalidNumber : Stmt := cls 11 0
theorem scx_InvalidNumber : FnScope ["self", "value"] ["self", "value"] (defScope sx_InvalidNumber) := ⟨rfl, rfl, rfl, by decide +kernel, rfl, by decide +kernel, by decide +kernel⟩
theorem nx0_InvalidNumber : nmOk ["self", "value"] (defScope sx_InvalidNumber) 0 "self" = true := by decide +kernel
theorem nx1_InvalidNumber : nmOk ["self", "value"] (defScope sx_InvalidNumber) 1 "value" = true := by decide +kernel
abbrev sx_InvalidRelation : Stmt := cls 12 0
theorem scx_InvalidRelation : FnScope ["self", "value"] ["self", "value"] (defScope sx_InvalidRelation) := ⟨rfl, rfl, rfl, by decide +kernel, rfl, by decide +kernel, by decide +kernel⟩
theorem nx0_InvalidRelation : nmOk ["self", "value"] (defScope sx_InvalidRelation) 0 "self" = true := by decide +kernel
theorem nx1_InvalidRelation : nmOk ["self", "value"] (defScope sx_InvalidRelation) 1 "value" = true := by decide +kernel
abbrev sx_Undefined : Stmt := cls 13 0
theorem scx_Undefined : FnScope ["self", "what"] ["self", "what"] (defScope sx_Undefined) := ⟨rfl, rfl, rfl, by decide +kernel, rfl, by decide +kernel, by decide +kernel⟩
theorem nx0_Undefined : nmOk ["self", "what"] (defScope sx_Undefined) 0 "self" = true := by decide +kernel
theorem nx1_Undefined : nmOk ["self", "what"] (defScope sx_Undefined) 1 "what" = true := by decide +kernel
theorem fin {l : PySem.W.OpenLaw} {w : World} {K : PySem.W.Frag} {h : Heap} {mg : Str → Option Value} {fa : Addr} (X : K.In h) (G : h.Ns mainGlobals mg) (hfa : mg "law" = some (.ref fa))
    {f0 f1 f2 f3 f4 f5 f6 f7 f8 f9 f10 f11 f12 f13 f14 f15 f16 f17 f18 f19 f20 f21 f22 f23 f24 f25 f26 f27 f28 f29 f30 f31 : Addr} {od0 an0 od1 an1 od2 an2 od3 an3 od4 an4 od5 an5 od6 an6 od7 an7 od8 an8 od9 an9 od10 an10 od11 an11 od12 an12 od13 an13 od14 an14 od15 an15 od16 an16 od17 an17 od18 an18 od19 an19 od20 an20 od21 an21 od22 an22 od23 an23 od24 an24 od25 an25 od26 an26 od27 an27 od28 an28 od29 an29 od30 an30 od31 an31 : Option Addr} {sl0 sl1 sl2 sl3 sl4 sl5 sl6 sl7 sl8 sl9 sl10 sl11 sl12 sl13 sl14 sl15 sl16 sl17 sl18 sl19 sl20 sl21 sl22 sl23 sl24 sl25 sl26 sl27 sl28 sl29 sl30 sl31 : Array (Option Value)} {oc0 kV0 dc0 pm0 cd0 ct0 oc1 kV1 dc1 pm1 cd1 ct1 oc2 kV2 dc2 pm2 cd2 ct2 oc3 kV3 dc3 pm3 cd3 ct3 oc4 kV4 dc4 pm4 cd4 ct4 oc5 kV5 dc5 pm5 cd5 ct5 oc6 kV6 dc6 pm6 cd6 ct6 oc7 kV7 dc7 pm7 cd7 ct7 oc8 kV8 dc8 pm8 cd8 ct8 oc9 kV9 dc9 pm9 cd9 ct9 oc10 kV10 dc10 pm10 cd10 ct10 oc11 kV11 dc11 pm11 cd11 ct11 oc12 kV12 dc12 pm12 cd12 ct12 oc13 kV13 dc13 pm13 cd13 ct13 oc14 kV14 dc14 pm14 cd14 ct14 oc15 kV15 dc15 pm15 cd15 ct15 oc16 kV16 dc16 pm16 cd16 ct16 oc17 kV17 dc17 pm17 cd17 ct17 oc18 kV18 dc18 pm18 cd18 ct18 oc19 kV19 dc19 pm19 cd19 ct19 oc20 kV20 dc20 pm20 cd20 ct20 oc21 kV21 dc21 pm21 cd21 ct21 oc22 kV22 dc22 pm22 cd22 ct22 oc23 kV23 dc23 pm23 cd23 ct23 oc24 kV24 dc24 pm24 cd24 ct24 oc25 kV25 dc25 pm25 cd25 ct25 oc26 kV26 dc26 pm26 cd26 ct26 oc27 kV27 dc27 pm27 cd27 ct27 oc28 kV28 dc28 pm28 cd28 ct28 oc29 kV29 dc29 pm29 cd29 ct29 oc30 kV30 dc30 pm30 cd30 ct30 oc31 kV31 dc31 pm31 cd31 ct31 : Value}
    {C0 C1 C2 C3 C4 : Addr}
    {xnm2 xqn2 : Str} {xN2 xf2 : Addr} {xbs2 xbm2 xsb2 : List Value} {xsn2 : List Str} {xab2 : Bool} {xcl2 : Option Bool} {xdd2 xod2 xan2 : Option Addr} {xk02 xk12 xk22 xk32 xk52 : Option Value} {xsl2 : Array (Option Value)} {xoc2 xkV2 xdc2 xpm2 xcd2 xct2 : Value}
    {xnm3 xqn3 : Str} {xN3 xf3 : Addr} {xbs3 xbm3 xsb3 : List Value} {xsn3 : List Str} {xab3 : Bool} {xcl3 : Option Bool} {xdd3 xod3 xan3 : Option Addr} {xk03 xk13 xk23 xk33 xk53 : Option Value} {xsl3 : Array (Option Value)} {xoc3 xkV3 xdc3 xpm3 xcd3 xct3 : Value}
    {xnm4 xqn4 : Str} {xN4 xf4 : Addr} {xbs4 xbm4 xsb4 : List Value} {xsn4 : List Str} {xab4 : Bool} {xcl4 : Option Bool} {xdd4 xod4 xan4 : Option Addr} {xk04 xk14 xk24 xk34 xk54 : Option Value} {xsl4 : Array (Option Value)} {xoc4 xkV4 xdc4 xpm4 xcd4 xct4 : Value}
    {u1 : Tok}
    (aC0 : PySem.W.nsIn K mainGlobals "Relation" = some (some (.ref C0)))
    (pg0 : PySem.W.plainGet K C0 Str.empty = true)
    (dC0 : PySem.W.hasDictIn K C0 = true)
    (po0 : PySem.W.plainOver K C0 = true)
    (sA0 : PySem.W.findIn K (.ref C0) "__setattr__" = some (some (.builtin "object.__setattr__")))
    (cC0 : PySem.W.findIn K (.ref C0) "__class__" = some (some (.builtin "object.__class__")))
    (oC0 : PySem.W.mroIn K C0 (.type "object") = some true)
    (tC0 : PySem.W.typeIn K (.ref C0) = some (.type "type"))
    (sC0 : PySem.W.subIn K (.ref C0) (.ref C0) = some true)
    (nI0_0 : PySem.W.subIn K (.ref C0) (.type "ValueError") = some false)
    (nI0_1 : PySem.W.subIn K (.ref C0) (.type "NoneType") = some false)
    (nI0_2 : PySem.W.subIn K (.ref C0) (.type "bool") = some false)
    (nI0_3 : PySem.W.subIn K (.ref C0) (.type "int") = some false)
    (nI0_4 : PySem.W.subIn K (.ref C0) (.type "str") = some false)
    (nI0_5 : PySem.W.subIn K (.ref C0) (.type "tuple") = some false)
    (nI0_6 : PySem.W.subIn K (.ref C0) (.type "list") = some false)
    (a0 : PySem.W.nsIn K mainGlobals "_wall" = some (some (.ref f0)))
    (l0 : K.lookup f0 = some ⟨oc0, od0, .func (PySem.W.fnOf "_wall" "_wall" (defArgs s_wall) (defBody s_wall) (defScope s_wall) .none kV0 dc0 pm0 an0 cd0 ct0), sl0⟩)
    (c0 : PySem.W.codeIn K cd0 "_wall" = true)
    (k0 : PySem.W.keepIn K (.ref f0) = true)
    (a1 : PySem.W.nsIn K mainGlobals "is_integer" = some (some (.ref f1)))
    (l1 : K.lookup f1 = some ⟨oc1, od1, .func (PySem.W.fnOf "is_integer" "is_integer" (defArgs s_is_integer) (defBody s_is_integer) (defScope s_is_integer) .none kV1 dc1 pm1 an1 cd1 ct1), sl1⟩)
    (c1 : PySem.W.codeIn K cd1 "is_integer" = true)
    (k1 : PySem.W.keepIn K (.ref f1) = true)
    (a2 : PySem.W.nsIn K mainGlobals "is_number_below" = some (some (.ref f2)))
    (l2 : K.lookup f2 = some ⟨oc2, od2, .func (PySem.W.fnOf "is_number_below" "is_number_below" (defArgs s_is_number_below) (defBody s_is_number_below) (defScope s_is_number_below) .none kV2 dc2 pm2 an2 cd2 ct2), sl2⟩)
    (c2 : PySem.W.codeIn K cd2 "is_number_below" = true)
    (k2 : PySem.W.keepIn K (.ref f2) = true)
    (a3 : PySem.W.nsIn K mainGlobals "is_sequence" = some (some (.ref f3)))
    (l3 : K.lookup f3 = some ⟨oc3, od3, .func (PySem.W.fnOf "is_sequence" "is_sequence" (defArgs s_is_sequence) (defBody s_is_sequence) (defScope s_is_sequence) .none kV3 dc3 pm3 an3 cd3 ct3), sl3⟩)
    (c3 : PySem.W.codeIn K cd3 "is_sequence" = true)
    (k3 : PySem.W.keepIn K (.ref f3) = true)
    (a4 : PySem.W.nsIn K mainGlobals "is_tuple" = some (some (.ref f4)))
    (l4 : K.lookup f4 = some ⟨oc4, od4, .func (PySem.W.fnOf "is_tuple" "is_tuple" (defArgs s_is_tuple) (defBody s_is_tuple) (defScope s_is_tuple) .none kV4 dc4 pm4 an4 cd4 ct4), sl4⟩)
    (c4 : PySem.W.codeIn K cd4 "is_tuple" = true)
    (k4 : PySem.W.keepIn K (.ref f4) = true)
    (a5 : PySem.W.nsIn K mainGlobals "is_value" = some (some (.ref f5)))
    (l5 : K.lookup f5 = some ⟨oc5, od5, .func (PySem.W.fnOf "is_value" "is_value" (defArgs s_is_value) (defBody s_is_value) (defScope s_is_value) .none kV5 dc5 pm5 an5 cd5 ct5), sl5⟩)
    (c5 : PySem.W.codeIn K cd5 "is_value" = true)
    (k5 : PySem.W.keepIn K (.ref f5) = true)
    (a6 : PySem.W.nsIn K mainGlobals "is_row" = some (some (.ref f6)))
    (l6 : K.lookup f6 = some ⟨oc6, od6, .func (PySem.W.fnOf "is_row" "is_row" (defArgs s_is_row) (defBody s_is_row) (defScope s_is_row) .none kV6 dc6 pm6 an6 cd6 ct6), sl6⟩)
    (c6 : PySem.W.codeIn K cd6 "is_row" = true)
    (k6 : PySem.W.keepIn K (.ref f6) = true)
    (a7 : PySem.W.nsIn K mainGlobals "all_rows" = some (some (.ref f7)))
    (l7 : K.lookup f7 = some ⟨oc7, od7, .func (PySem.W.fnOf "all_rows" "all_rows" (defArgs s_all_rows) (defBody s_all_rows) (defScope s_all_rows) .none kV7 dc7 pm7 an7 cd7 ct7), sl7⟩)
    (c7 : PySem.W.codeIn K cd7 "all_rows" = true)
    (k7 : PySem.W.keepIn K (.ref f7) = true)
    (a8 : PySem.W.nsIn K mainGlobals "_is_size" = some (some (.ref f8)))
    (l8 : K.lookup f8 = some ⟨oc8, od8, .func (PySem.W.fnOf "_is_size" "_is_size" (defArgs s_is_size) (defBody s_is_size) (defScope s_is_size) .none kV8 dc8 pm8 an8 cd8 ct8), sl8⟩)
    (c8 : PySem.W.codeIn K cd8 "_is_size" = true)
    (k8 : PySem.W.keepIn K (.ref f8) = true)
    (a9 : PySem.W.nsIn K mainGlobals "_are_rows" = some (some (.ref f9)))
    (l9 : K.lookup f9 = some ⟨oc9, od9, .func (PySem.W.fnOf "_are_rows" "_are_rows" (defArgs s_are_rows) (defBody s_are_rows) (defScope s_are_rows) .none kV9 dc9 pm9 an9 cd9 ct9), sl9⟩)
    (c9 : PySem.W.codeIn K cd9 "_are_rows" = true)
    (k9 : PySem.W.keepIn K (.ref f9) = true)
    (a10 : PySem.W.nsIn K mainGlobals "fulfils" = some (some (.ref f10)))
    (l10 : K.lookup f10 = some ⟨oc10, od10, .func (PySem.W.fnOf "fulfils" "fulfils" (defArgs s_fulfils) (defBody s_fulfils) (defScope s_fulfils) .none kV10 dc10 pm10 an10 cd10 ct10), sl10⟩)
    (c10 : PySem.W.codeIn K cd10 "fulfils" = true)
    (k10 : PySem.W.keepIn K (.ref f10) = true)
    (a11 : PySem.W.nsIn K mainGlobals "told_by" = some (some (.ref f11)))
    (l11 : K.lookup f11 = some ⟨oc11, od11, .func (PySem.W.fnOf "told_by" "told_by" (defArgs s_told_by) (defBody s_told_by) (defScope s_told_by) .none kV11 dc11 pm11 an11 cd11 ct11), sl11⟩)
    (c11 : PySem.W.codeIn K cd11 "told_by" = true)
    (k11 : PySem.W.keepIn K (.ref f11) = true)
    (a12 : PySem.W.nsIn K mainGlobals "_fulfils_all" = some (some (.ref f12)))
    (l12 : K.lookup f12 = some ⟨oc12, od12, .func (PySem.W.fnOf "_fulfils_all" "_fulfils_all" (defArgs s_fulfils_all) (defBody s_fulfils_all) (defScope s_fulfils_all) .none kV12 dc12 pm12 an12 cd12 ct12), sl12⟩)
    (c12 : PySem.W.codeIn K cd12 "_fulfils_all" = true)
    (k12 : PySem.W.keepIn K (.ref f12) = true)
    (a13 : PySem.W.nsIn K mainGlobals "_law_draws" = some (some (.ref f13)))
    (l13 : K.lookup f13 = some ⟨oc13, od13, .func (PySem.W.fnOf "_law_draws" "_law_draws" (defArgs s_law_draws) (defBody s_law_draws) (defScope s_law_draws) .none kV13 dc13 pm13 an13 cd13 ct13), sl13⟩)
    (c13 : PySem.W.codeIn K cd13 "_law_draws" = true)
    (k13 : PySem.W.keepIn K (.ref f13) = true)
    (a14 : PySem.W.nsIn K mainGlobals "_law_take" = some (some (.ref f14)))
    (l14 : K.lookup f14 = some ⟨oc14, od14, .func (PySem.W.fnOf "_law_take" "_law_take" (defArgs s_law_take) (defBody s_law_take) (defScope s_law_take) .none kV14 dc14 pm14 an14 cd14 ct14), sl14⟩)
    (c14 : PySem.W.codeIn K cd14 "_law_take" = true)
    (k14 : PySem.W.keepIn K (.ref f14) = true)
    (a15 : PySem.W.nsIn K mainGlobals "_law_all_rows" = some (some (.ref f15)))
    (l15 : K.lookup f15 = some ⟨oc15, od15, .func (PySem.W.fnOf "_law_all_rows" "_law_all_rows" (defArgs s_law_all_rows) (defBody s_law_all_rows) (defScope s_law_all_rows) .none kV15 dc15 pm15 an15 cd15 ct15), sl15⟩)
    (c15 : PySem.W.codeIn K cd15 "_law_all_rows" = true)
    (k15 : PySem.W.keepIn K (.ref f15) = true)
    (a16 : PySem.W.nsIn K mainGlobals "_law_rising" = some (some (.ref f16)))
    (l16 : K.lookup f16 = some ⟨oc16, od16, .func (PySem.W.fnOf "_law_rising" "_law_rising" (defArgs s_law_rising) (defBody s_law_rising) (defScope s_law_rising) .none kV16 dc16 pm16 an16 cd16 ct16), sl16⟩)
    (c16 : PySem.W.codeIn K cd16 "_law_rising" = true)
    (k16 : PySem.W.keepIn K (.ref f16) = true)
    (a17 : PySem.W.nsIn K mainGlobals "_law_clause" = some (some (.ref f17)))
    (l17 : K.lookup f17 = some ⟨oc17, od17, .func (PySem.W.fnOf "_law_clause" "_law_clause" (defArgs s_law_clause) (defBody s_law_clause) (defScope s_law_clause) .none kV17 dc17 pm17 an17 cd17 ct17), sl17⟩)
    (c17 : PySem.W.codeIn K cd17 "_law_clause" = true)
    (k17 : PySem.W.keepIn K (.ref f17) = true)
    (a18 : PySem.W.nsIn K mainGlobals "_law_fulfils" = some (some (.ref f18)))
    (l18 : K.lookup f18 = some ⟨oc18, od18, .func (PySem.W.fnOf "_law_fulfils" "_law_fulfils" (defArgs s_law_fulfils) (defBody s_law_fulfils) (defScope s_law_fulfils) .none kV18 dc18 pm18 an18 cd18 ct18), sl18⟩)
    (c18 : PySem.W.codeIn K cd18 "_law_fulfils" = true)
    (k18 : PySem.W.keepIn K (.ref f18) = true)
    (a19 : PySem.W.nsIn K mainGlobals "_law_told" = some (some (.ref f19)))
    (l19 : K.lookup f19 = some ⟨oc19, od19, .func (PySem.W.fnOf "_law_told" "_law_told" (defArgs s_law_told) (defBody s_law_told) (defScope s_law_told) .none kV19 dc19 pm19 an19 cd19 ct19), sl19⟩)
    (c19 : PySem.W.codeIn K cd19 "_law_told" = true)
    (k19 : PySem.W.keepIn K (.ref f19) = true)
    (a20 : PySem.W.nsIn K mainGlobals "_law_is_relation" = some (some (.ref f20)))
    (l20 : K.lookup f20 = some ⟨oc20, od20, .func (PySem.W.fnOf "_law_is_relation" "_law_is_relation" (defArgs s_law_is_relation) (defBody s_law_is_relation) (defScope s_law_is_relation) .none kV20 dc20 pm20 an20 cd20 ct20), sl20⟩)
    (c20 : PySem.W.codeIn K cd20 "_law_is_relation" = true)
    (k20 : PySem.W.keepIn K (.ref f20) = true)
    (a21 : PySem.W.nsIn K mainGlobals "_law_refusal" = some (some (.ref f21)))
    (l21 : K.lookup f21 = some ⟨oc21, od21, .func (PySem.W.fnOf "_law_refusal" "_law_refusal" (defArgs s_law_refusal) (defBody s_law_refusal) (defScope s_law_refusal) .none kV21 dc21 pm21 an21 cd21 ct21), sl21⟩)
    (c21 : PySem.W.codeIn K cd21 "_law_refusal" = true)
    (k21 : PySem.W.keepIn K (.ref f21) = true)
    (a22 : PySem.W.nsIn K mainGlobals "law" = some (some (.ref f22)))
    (l22 : K.lookup f22 = some ⟨oc22, od22, .func (PySem.W.fnOf "law" "law" (defArgs s_law) (defBody s_law) (defScope s_law) .none kV22 dc22 pm22 an22 cd22 ct22), sl22⟩)
    (c22 : PySem.W.codeIn K cd22 "law" = true)
    (k22 : PySem.W.keepIn K (.ref f22) = true)
    (a23 : PySem.W.findIn K (.ref C0) "__init__" = some (some (.ref f23)))
    (l23 : K.lookup f23 = some ⟨oc23, od23, .func (PySem.W.fnOf "__init__" "Relation.__init__" (defArgs s_Relation_init) (defBody s_Relation_init) (defScope s_Relation_init) .none kV23 dc23 pm23 an23 cd23 ct23), sl23⟩)
    (c23 : PySem.W.codeIn K cd23 "Relation.__init__" = true)
    (k23 : PySem.W.keepIn K (.ref f23) = true)
    (a24 : PySem.W.findIn K (.ref C0) "__eq__" = some (some (.ref f24)))
    (l24 : K.lookup f24 = some ⟨oc24, od24, .func (PySem.W.fnOf "__eq__" "Relation.__eq__" (defArgs s_Relation_eq) (defBody s_Relation_eq) (defScope s_Relation_eq) .none kV24 dc24 pm24 an24 cd24 ct24), sl24⟩)
    (c24 : PySem.W.codeIn K cd24 "Relation.__eq__" = true)
    (k24 : PySem.W.keepIn K (.ref f24) = true)
    (a25 : PySem.W.findIn K (.ref C0) "__len__" = some (some (.ref f25)))
    (l25 : K.lookup f25 = some ⟨oc25, od25, .func (PySem.W.fnOf "__len__" "Relation.__len__" (defArgs s_Relation_len) (defBody s_Relation_len) (defScope s_Relation_len) .none kV25 dc25 pm25 an25 cd25 ct25), sl25⟩)
    (c25 : PySem.W.codeIn K cd25 "Relation.__len__" = true)
    (k25 : PySem.W.keepIn K (.ref f25) = true)
    (a26 : PySem.W.findIn K (.ref C0) "has" = some (some (.ref f26)))
    (l26 : K.lookup f26 = some ⟨oc26, od26, .func (PySem.W.fnOf "has" "Relation.has" (defArgs s_Relation_has) (defBody s_Relation_has) (defScope s_Relation_has) .none kV26 dc26 pm26 an26 cd26 ct26), sl26⟩)
    (c26 : PySem.W.codeIn K cd26 "Relation.has" = true)
    (k26 : PySem.W.keepIn K (.ref f26) = true)
    (a27 : PySem.W.findIn K (.ref C0) "opposite" = some (some (.ref f27)))
    (l27 : K.lookup f27 = some ⟨oc27, od27, .func (PySem.W.fnOf "opposite" "Relation.opposite" (defArgs s_Relation_opposite) (defBody s_Relation_opposite) (defScope s_Relation_opposite) .none kV27 dc27 pm27 an27 cd27 ct27), sl27⟩)
    (c27 : PySem.W.codeIn K cd27 "Relation.opposite" = true)
    (k27 : PySem.W.keepIn K (.ref f27) = true)
    (a28 : PySem.W.findIn K (.ref C0) "read_at" = some (some (.ref f28)))
    (l28 : K.lookup f28 = some ⟨oc28, od28, .func (PySem.W.fnOf "read_at" "Relation.read_at" (defArgs s_Relation_read_at) (defBody s_Relation_read_at) (defScope s_Relation_read_at) .none kV28 dc28 pm28 an28 cd28 ct28), sl28⟩)
    (c28 : PySem.W.codeIn K cd28 "Relation.read_at" = true)
    (k28 : PySem.W.keepIn K (.ref f28) = true)
    (a29 : PySem.W.findIn K (.ref C0) "alike" = some (some (.ref f29)))
    (l29 : K.lookup f29 = some ⟨oc29, od29, .func (PySem.W.fnOf "alike" "Relation.alike" (defArgs s_Relation_alike) (defBody s_Relation_alike) (defScope s_Relation_alike) .none kV29 dc29 pm29 an29 cd29 ct29), sl29⟩)
    (c29 : PySem.W.codeIn K cd29 "Relation.alike" = true)
    (k29 : PySem.W.keepIn K (.ref f29) = true)
    (a30 : PySem.W.findIn K (.ref C0) "both" = some (some (.ref f30)))
    (l30 : K.lookup f30 = some ⟨oc30, od30, .func (PySem.W.fnOf "both" "Relation.both" (defArgs s_Relation_both) (defBody s_Relation_both) (defScope s_Relation_both) .none kV30 dc30 pm30 an30 cd30 ct30), sl30⟩)
    (c30 : PySem.W.codeIn K cd30 "Relation.both" = true)
    (k30 : PySem.W.keepIn K (.ref f30) = true)
    (a31 : PySem.W.findIn K (.ref C0) "beside" = some (some (.ref f31)))
    (l31 : K.lookup f31 = some ⟨oc31, od31, .func (PySem.W.fnOf "beside" "Relation.beside" (defArgs s_Relation_beside) (defBody s_Relation_beside) (defScope s_Relation_beside) .none kV31 dc31 pm31 an31 cd31 ct31), sl31⟩)
    (c31 : PySem.W.codeIn K cd31 "Relation.beside" = true)
    (k31 : PySem.W.keepIn K (.ref f31) = true)
    (z0 : PySem.W.nsIn K mainGlobals "ValueError" = some none)
    (z1 : PySem.W.nsIn K mainGlobals "abs" = some none)
    (z2 : PySem.W.nsIn K mainGlobals "all" = some none)
    (z3 : PySem.W.nsIn K mainGlobals "any" = some none)
    (z4 : PySem.W.nsIn K mainGlobals "bool" = some none)
    (z5 : PySem.W.nsIn K mainGlobals "int" = some none)
    (z6 : PySem.W.nsIn K mainGlobals "isinstance" = some none)
    (z7 : PySem.W.nsIn K mainGlobals "len" = some none)
    (z8 : PySem.W.nsIn K mainGlobals "list" = some none)
    (z9 : PySem.W.nsIn K mainGlobals "range" = some none)
    (z10 : PySem.W.nsIn K mainGlobals "repr" = some none)
    (z11 : PySem.W.nsIn K mainGlobals "set" = some none)
    (z12 : PySem.W.nsIn K mainGlobals "sorted" = some none)
    (z13 : PySem.W.nsIn K mainGlobals "sum" = some none)
    (z14 : PySem.W.nsIn K mainGlobals "tuple" = some none)
    (aC1 : PySem.W.nsIn K mainGlobals "CellError" = some (some (.ref C1)))
    (dC1 : PySem.W.hasDictIn K C1 = true)
    (tC1 : PySem.W.typeIn K (.ref C1) = some (.type "type"))
    (sC1 : PySem.W.subIn K (.ref C1) (.ref C1) = some true)
    (vC1 : PySem.W.subIn K (.ref C1) (.type "ValueError") = some true)
    (bC1 : PySem.W.subIn K (.ref C1) (.type "BaseException") = some true)
    (gC1 : PySem.W.findIn K (.ref C1) "__getattribute__" = some (some (.builtin "BaseException.__getattribute__")))
    (hC1 : PySem.W.findIn K (.ref C1) "__getattr__" = some none)
    (uC1 : PySem.W.findIn K (.ref C1) "__setattr__" = some (some (.builtin "object.__setattr__")))
    (cC1 : PySem.W.findIn K (.ref C1) "__class__" = some (some (.builtin "object.__class__")))
    (oC1 : PySem.W.mroIn K C1 (.type "object") = some true)
    (kC1 : PySem.W.keepIn K (.ref C1) = true)
    (aC2 : PySem.W.nsIn K mainGlobals "InvalidNumber" = some (some (.ref C2)))
    (dC2 : PySem.W.hasDictIn K C2 = true)
    (tC2 : PySem.W.typeIn K (.ref C2) = some (.type "type"))
    (sC2 : PySem.W.subIn K (.ref C2) (.ref C2) = some true)
    (vC2 : PySem.W.subIn K (.ref C2) (.type "ValueError") = some true)
    (bC2 : PySem.W.subIn K (.ref C2) (.type "BaseException") = some true)
    (gC2 : PySem.W.findIn K (.ref C2) "__getattribute__" = some (some (.builtin "BaseException.__getattribute__")))
    (hC2 : PySem.W.findIn K (.ref C2) "__getattr__" = some none)
    (uC2 : PySem.W.findIn K (.ref C2) "__setattr__" = some (some (.builtin "object.__setattr__")))
    (cC2 : PySem.W.findIn K (.ref C2) "__class__" = some (some (.builtin "object.__class__")))
    (oC2 : PySem.W.mroIn K C2 (.type "object") = some true)
    (kC2 : PySem.W.keepIn K (.ref C2) = true)
    (xl2 : K.lookup C2 = some (excClassObj xnm2 xqn2 C2 xN2 xbs2 xbm2 true xsn2 xsb2 xab2 xcl2 xdd2 xk02 xk12 xk22 xk32 xk52 "ValueError.__new__"))
    (xr2 : PySem.HandSPX.refsVE xbm2 = true)
    (xi2 : PySem.W.findIn K (.ref C2) "__init__" = some (some (.ref xf2)))
    (xt2 : PySem.W.typeIn K (.ref xf2) = some (.type "function"))
    (xg2 : K.lookup xf2 = some ⟨xoc2, xod2, .func (PySem.W.fnOf "__init__" "InvalidNumber.__init__" (defArgs sx_InvalidNumber) (defBody sx_InvalidNumber) (defScope sx_InvalidNumber) .none xkV2 xdc2 xpm2 xan2 xcd2 xct2), xsl2⟩)
    (xc2 : PySem.W.codeIn K xcd2 "InvalidNumber.__init__" = true)
    (xk2 : PySem.W.keepIn K (.ref xf2) = true)
    (xn2_0 : PySem.W.findIn K (.ref C2) "value" = some none)
    (aC3 : PySem.W.nsIn K mainGlobals "InvalidRelation" = some (some (.ref C3)))
    (dC3 : PySem.W.hasDictIn K C3 = true)
    (tC3 : PySem.W.typeIn K (.ref C3) = some (.type "type"))
    (sC3 : PySem.W.subIn K (.ref C3) (.ref C3) = some true)
    (vC3 : PySem.W.subIn K (.ref C3) (.type "ValueError") = some true)
    (bC3 : PySem.W.subIn K (.ref C3) (.type "BaseException") = some true)
    (gC3 : PySem.W.findIn K (.ref C3) "__getattribute__" = some (some (.builtin "BaseException.__getattribute__")))
    (hC3 : PySem.W.findIn K (.ref C3) "__getattr__" = some none)
    (uC3 : PySem.W.findIn K (.ref C3) "__setattr__" = some (some (.builtin "object.__setattr__")))
    (cC3 : PySem.W.findIn K (.ref C3) "__class__" = some (some (.builtin "object.__class__")))
    (oC3 : PySem.W.mroIn K C3 (.type "object") = some true)
    (kC3 : PySem.W.keepIn K (.ref C3) = true)
    (xl3 : K.lookup C3 = some (excClassObj xnm3 xqn3 C3 xN3 xbs3 xbm3 true xsn3 xsb3 xab3 xcl3 xdd3 xk03 xk13 xk23 xk33 xk53 "ValueError.__new__"))
    (xr3 : PySem.HandSPX.refsVE xbm3 = true)
    (xi3 : PySem.W.findIn K (.ref C3) "__init__" = some (some (.ref xf3)))
    (xt3 : PySem.W.typeIn K (.ref xf3) = some (.type "function"))
    (xg3 : K.lookup xf3 = some ⟨xoc3, xod3, .func (PySem.W.fnOf "__init__" "InvalidRelation.__init__" (defArgs sx_InvalidRelation) (defBody sx_InvalidRelation) (defScope sx_InvalidRelation) .none xkV3 xdc3 xpm3 xan3 xcd3 xct3), xsl3⟩)
    (xc3 : PySem.W.codeIn K xcd3 "InvalidRelation.__init__" = true)
    (xk3 : PySem.W.keepIn K (.ref xf3) = true)
    (xn3_0 : PySem.W.findIn K (.ref C3) "value" = some none)
    (aC4 : PySem.W.nsIn K mainGlobals "Undefined" = some (some (.ref C4)))
    (dC4 : PySem.W.hasDictIn K C4 = true)
    (tC4 : PySem.W.typeIn K (.ref C4) = some (.type "type"))
    (sC4 : PySem.W.subIn K (.ref C4) (.ref C4) = some true)
    (vC4 : PySem.W.subIn K (.ref C4) (.type "ValueError") = some true)
    (bC4 : PySem.W.subIn K (.ref C4) (.type "BaseException") = some true)
    (gC4 : PySem.W.findIn K (.ref C4) "__getattribute__" = some (some (.builtin "BaseException.__getattribute__")))
    (hC4 : PySem.W.findIn K (.ref C4) "__getattr__" = some none)
    (uC4 : PySem.W.findIn K (.ref C4) "__setattr__" = some (some (.builtin "object.__setattr__")))
    (cC4 : PySem.W.findIn K (.ref C4) "__class__" = some (some (.builtin "object.__class__")))
    (oC4 : PySem.W.mroIn K C4 (.type "object") = some true)
    (kC4 : PySem.W.keepIn K (.ref C4) = true)
    (xl4 : K.lookup C4 = some (excClassObj xnm4 xqn4 C4 xN4 xbs4 xbm4 true xsn4 xsb4 xab4 xcl4 xdd4 xk04 xk14 xk24 xk34 xk54 "ValueError.__new__"))
    (xr4 : PySem.HandSPX.refsVE xbm4 = true)
    (xi4 : PySem.W.findIn K (.ref C4) "__init__" = some (some (.ref xf4)))
    (xt4 : PySem.W.typeIn K (.ref xf4) = some (.type "function"))
    (xg4 : K.lookup xf4 = some ⟨xoc4, xod4, .func (PySem.W.fnOf "__init__" "Undefined.__init__" (defArgs sx_Undefined) (defBody sx_Undefined) (defScope sx_Undefined) .none xkV4 xdc4 xpm4 xan4 xcd4 xct4), xsl4⟩)
    (xc4 : PySem.W.codeIn K xcd4 "Undefined.__init__" = true)
    (xk4 : PySem.W.keepIn K (.ref xf4) = true)
    (xn4_0 : PySem.W.findIn K (.ref C4) "what" = some none)
    (ss2_1 : PySem.W.subIn K (.ref C2) (.ref C1) = some true)
    (ss2_2 : PySem.W.subIn K (.ref C2) (.ref C2) = some true)
    (ss2_3 : PySem.W.subIn K (.ref C2) (.ref C3) = some false)
    (ss2_4 : PySem.W.subIn K (.ref C2) (.ref C4) = some false)
    (ss3_1 : PySem.W.subIn K (.ref C3) (.ref C1) = some true)
    (ss3_2 : PySem.W.subIn K (.ref C3) (.ref C2) = some false)
    (ss3_3 : PySem.W.subIn K (.ref C3) (.ref C3) = some true)
    (ss3_4 : PySem.W.subIn K (.ref C3) (.ref C4) = some false)
    (ss4_1 : PySem.W.subIn K (.ref C4) (.ref C1) = some true)
    (ss4_2 : PySem.W.subIn K (.ref C4) (.ref C2) = some false)
    (ss4_3 : PySem.W.subIn K (.ref C4) (.ref C3) = some false)
    (ss4_4 : PySem.W.subIn K (.ref C4) (.ref C4) = some true)
    (sb0_0 : PySem.W.subIn K (.ref C0) (.ref C0) = some true)
    (sb0_1 : PySem.W.subIn K (.ref C0) (.ref C1) = some false)
    (sb0_2 : PySem.W.subIn K (.ref C0) (.ref C2) = some false)
    (sb0_3 : PySem.W.subIn K (.ref C0) (.ref C3) = some false)
    (sb0_4 : PySem.W.subIn K (.ref C0) (.ref C4) = some false)
    (nf0_0 : PySem.W.findIn K (.ref C0) "rows" = some none)
    (nf0_1 : PySem.W.findIn K (.ref C0) "size" = some none)
    (mk0 : PySem.W.makesIn K C0 = true)
    (mf0 : PySem.W.isFn K (.ref f23) = true)
    (mq0 : PySem.W.keepIn K (.ref C0) = true)
    (mm26 : PySem.W.isFn K (.ref f26) = true)
    (mm27 : PySem.W.isFn K (.ref f27) = true)
    (mm28 : PySem.W.isFn K (.ref f28) = true)
    (mm29 : PySem.W.isFn K (.ref f29) = true)
    (mm30 : PySem.W.isFn K (.ref f30) = true)
    (mm31 : PySem.W.isFn K (.ref f31) = true)
    (hn : PySem.W.specialIn K (.builtin "object.__class__") "__get__" = some (some (.builtin "getset_descriptor.__get__")))
    (tk : PySem.W.takesIn K (.builtin "object.__class__") = some true)
    (ag0 : PySem.W.nsIn K mainGlobals "MOST_PLACES" = some (some (.int 4 u1)))
    : ∃ (k : Kt) (fd : FuncData), K = k.K ∧ (∀ (s : Shared) (u : Value), BindsTo s fd ⟨[u], []⟩ [("script", u)]) ∧ ∀ base : Heap, K.In base → base.Ns mainGlobals mg → FnG l.prog w K mg base 60 fa fd ["script"] (spB k ((orc ds gv 60).cl 22) 1) := by
  have e := hfa.symm.trans (PySem.W.mg_of X G a22)
  cases e
  have F0 := fun_mk (st := s_wall) l0 c0 k0
  have b0 := F0.binds (ps := ["k"]) fun _ _ _ _ _ _ us hl => match us, hl with | [_], _ => rfl
  have w0 : KwB K (PySem.W.fnOf "_wall" "_wall" (defArgs s_wall) (defBody s_wall) (defScope s_wall) .none kV0 dc0 pm0 an0 cd0 ct0) ["k"] := fun s us ws _ hl => match us, ws, hl with | [], [_], _ => .of_eq rfl | [_], [], _ => .of_eq rfl
  have D0 : DG K tab d_wall "_wall" "_wall" f0 (PySem.W.fnOf "_wall" "_wall" (defArgs s_wall) (defBody s_wall) (defScope s_wall) .none kV0 dc0 pm0 an0 cd0 ct0) ["k"] n_wall s_wall := ⟨F0, sc_wall, b0, ok_wall, rfl, rfl, by decide, w0⟩
  have F1 := fun_mk (st := s_is_integer) l1 c1 k1
  have b1 := F1.binds (ps := ["thing"]) fun _ _ _ _ _ _ us hl => match us, hl with | [_], _ => rfl
  have w1 : KwB K (PySem.W.fnOf "is_integer" "is_integer" (defArgs s_is_integer) (defBody s_is_integer) (defScope s_is_integer) .none kV1 dc1 pm1 an1 cd1 ct1) ["thing"] := fun s us ws _ hl => match us, ws, hl with | [], [_], _ => .of_eq rfl | [_], [], _ => .of_eq rfl
  have D1 : DG K tab d_is_integer "is_integer" "is_integer" f1 (PySem.W.fnOf "is_integer" "is_integer" (defArgs s_is_integer) (defBody s_is_integer) (defScope s_is_integer) .none kV1 dc1 pm1 an1 cd1 ct1) ["thing"] n_is_integer s_is_integer := ⟨F1, sc_is_integer, b1, ok_is_integer, rfl, rfl, by decide, w1⟩
  have F2 := fun_mk (st := s_is_number_below) l2 c2 k2
  have b2 := F2.binds (ps := ["thing", "bound"]) fun _ _ _ _ _ _ us hl => match us, hl with | [_, _], _ => rfl
  have w2 : KwB K (PySem.W.fnOf "is_number_below" "is_number_below" (defArgs s_is_number_below) (defBody s_is_number_below) (defScope s_is_number_below) .none kV2 dc2 pm2 an2 cd2 ct2) ["thing", "bound"] := fun s us ws _ hl => match us, ws, hl with | [], [_, _], _ => .of_eq rfl | [_], [_], _ => .of_eq rfl | [_, _], [], _ => .of_eq rfl
  have D2 : DG K tab d_is_number_below "is_number_below" "is_number_below" f2 (PySem.W.fnOf "is_number_below" "is_number_below" (defArgs s_is_number_below) (defBody s_is_number_below) (defScope s_is_number_below) .none kV2 dc2 pm2 an2 cd2 ct2) ["thing", "bound"] n_is_number_below s_is_number_below := ⟨F2, sc_is_number_below, b2, ok_is_number_below, rfl, rfl, by decide, w2⟩
  have F3 := fun_mk (st := s_is_sequence) l3 c3 k3
  have b3 := F3.binds (ps := ["thing"]) fun _ _ _ _ _ _ us hl => match us, hl with | [_], _ => rfl
  have w3 : KwB K (PySem.W.fnOf "is_sequence" "is_sequence" (defArgs s_is_sequence) (defBody s_is_sequence) (defScope s_is_sequence) .none kV3 dc3 pm3 an3 cd3 ct3) ["thing"] := fun s us ws _ hl => match us, ws, hl with | [], [_], _ => .of_eq rfl | [_], [], _ => .of_eq rfl
  have D3 : DG K tab d_is_sequence "is_sequence" "is_sequence" f3 (PySem.W.fnOf "is_sequence" "is_sequence" (defArgs s_is_sequence) (defBody s_is_sequence) (defScope s_is_sequence) .none kV3 dc3 pm3 an3 cd3 ct3) ["thing"] n_is_sequence s_is_sequence := ⟨F3, sc_is_sequence, b3, ok_is_sequence, rfl, rfl, by decide, w3⟩
  have F4 := fun_mk (st := s_is_tuple) l4 c4 k4
  have b4 := F4.binds (ps := ["thing", "length"]) fun _ _ _ _ _ _ us hl => match us, hl with | [_, _], _ => rfl
  have w4 : KwB K (PySem.W.fnOf "is_tuple" "is_tuple" (defArgs s_is_tuple) (defBody s_is_tuple) (defScope s_is_tuple) .none kV4 dc4 pm4 an4 cd4 ct4) ["thing", "length"] := fun s us ws _ hl => match us, ws, hl with | [], [_, _], _ => .of_eq rfl | [_], [_], _ => .of_eq rfl | [_, _], [], _ => .of_eq rfl
  have D4 : DG K tab d_is_tuple "is_tuple" "is_tuple" f4 (PySem.W.fnOf "is_tuple" "is_tuple" (defArgs s_is_tuple) (defBody s_is_tuple) (defScope s_is_tuple) .none kV4 dc4 pm4 an4 cd4 ct4) ["thing", "length"] n_is_tuple s_is_tuple := ⟨F4, sc_is_tuple, b4, ok_is_tuple, rfl, rfl, by decide, w4⟩
  have F5 := fun_mk (st := s_is_value) l5 c5 k5
  have b5 := F5.binds (ps := ["thing"]) fun _ _ _ _ _ _ us hl => match us, hl with | [_], _ => rfl
  have w5 : KwB K (PySem.W.fnOf "is_value" "is_value" (defArgs s_is_value) (defBody s_is_value) (defScope s_is_value) .none kV5 dc5 pm5 an5 cd5 ct5) ["thing"] := fun s us ws _ hl => match us, ws, hl with | [], [_], _ => .of_eq rfl | [_], [], _ => .of_eq rfl
  have D5 : DG K tab d_is_value "is_value" "is_value" f5 (PySem.W.fnOf "is_value" "is_value" (defArgs s_is_value) (defBody s_is_value) (defScope s_is_value) .none kV5 dc5 pm5 an5 cd5 ct5) ["thing"] n_is_value s_is_value := ⟨F5, sc_is_value, b5, ok_is_value, rfl, rfl, by decide, w5⟩
  have F6 := fun_mk (st := s_is_row) l6 c6 k6
  have b6 := F6.binds (ps := ["thing", "size"]) fun _ _ _ _ _ _ us hl => match us, hl with | [_, _], _ => rfl
  have w6 : KwB K (PySem.W.fnOf "is_row" "is_row" (defArgs s_is_row) (defBody s_is_row) (defScope s_is_row) .none kV6 dc6 pm6 an6 cd6 ct6) ["thing", "size"] := fun s us ws _ hl => match us, ws, hl with | [], [_, _], _ => .of_eq rfl | [_], [_], _ => .of_eq rfl | [_, _], [], _ => .of_eq rfl
  have D6 : DG K tab d_is_row "is_row" "is_row" f6 (PySem.W.fnOf "is_row" "is_row" (defArgs s_is_row) (defBody s_is_row) (defScope s_is_row) .none kV6 dc6 pm6 an6 cd6 ct6) ["thing", "size"] n_is_row s_is_row := ⟨F6, sc_is_row, b6, ok_is_row, rfl, rfl, by decide, w6⟩
  have F7 := fun_mk (st := s_all_rows) l7 c7 k7
  have b7 := F7.binds (ps := ["size"]) fun _ _ _ _ _ _ us hl => match us, hl with | [_], _ => rfl
  have w7 : KwB K (PySem.W.fnOf "all_rows" "all_rows" (defArgs s_all_rows) (defBody s_all_rows) (defScope s_all_rows) .none kV7 dc7 pm7 an7 cd7 ct7) ["size"] := fun s us ws _ hl => match us, ws, hl with | [], [_], _ => .of_eq rfl | [_], [], _ => .of_eq rfl
  have D7 : DG K tab d_all_rows "all_rows" "all_rows" f7 (PySem.W.fnOf "all_rows" "all_rows" (defArgs s_all_rows) (defBody s_all_rows) (defScope s_all_rows) .none kV7 dc7 pm7 an7 cd7 ct7) ["size"] n_all_rows s_all_rows := ⟨F7, sc_all_rows, b7, ok_all_rows, rfl, rfl, by decide, w7⟩
  have F8 := fun_mk (st := s_is_size) l8 c8 k8
  have b8 := F8.binds (ps := ["thing"]) fun _ _ _ _ _ _ us hl => match us, hl with | [_], _ => rfl
  have w8 : KwB K (PySem.W.fnOf "_is_size" "_is_size" (defArgs s_is_size) (defBody s_is_size) (defScope s_is_size) .none kV8 dc8 pm8 an8 cd8 ct8) ["thing"] := fun s us ws _ hl => match us, ws, hl with | [], [_], _ => .of_eq rfl | [_], [], _ => .of_eq rfl
  have D8 : DG K tab d_is_size "_is_size" "_is_size" f8 (PySem.W.fnOf "_is_size" "_is_size" (defArgs s_is_size) (defBody s_is_size) (defScope s_is_size) .none kV8 dc8 pm8 an8 cd8 ct8) ["thing"] n_is_size s_is_size := ⟨F8, sc_is_size, b8, ok_is_size, rfl, rfl, by decide, w8⟩
  have F9 := fun_mk (st := s_are_rows) l9 c9 k9
  have b9 := F9.binds (ps := ["thing", "size"]) fun _ _ _ _ _ _ us hl => match us, hl with | [_, _], _ => rfl
  have w9 : KwB K (PySem.W.fnOf "_are_rows" "_are_rows" (defArgs s_are_rows) (defBody s_are_rows) (defScope s_are_rows) .none kV9 dc9 pm9 an9 cd9 ct9) ["thing", "size"] := fun s us ws _ hl => match us, ws, hl with | [], [_, _], _ => .of_eq rfl | [_], [_], _ => .of_eq rfl | [_, _], [], _ => .of_eq rfl
  have D9 : DG K tab d_are_rows "_are_rows" "_are_rows" f9 (PySem.W.fnOf "_are_rows" "_are_rows" (defArgs s_are_rows) (defBody s_are_rows) (defScope s_are_rows) .none kV9 dc9 pm9 an9 cd9 ct9) ["thing", "size"] n_are_rows s_are_rows := ⟨F9, sc_are_rows, b9, ok_are_rows, rfl, rfl, by decide, w9⟩
  have F10 := fun_mk (st := s_fulfils) l10 c10 k10
  have b10 := F10.binds (ps := ["row", "clause"]) fun _ _ _ _ _ _ us hl => match us, hl with | [_, _], _ => rfl
  have w10 : KwB K (PySem.W.fnOf "fulfils" "fulfils" (defArgs s_fulfils) (defBody s_fulfils) (defScope s_fulfils) .none kV10 dc10 pm10 an10 cd10 ct10) ["row", "clause"] := fun s us ws _ hl => match us, ws, hl with | [], [_, _], _ => .of_eq rfl | [_], [_], _ => .of_eq rfl | [_, _], [], _ => .of_eq rfl
  have D10 : DG K tab d_fulfils "fulfils" "fulfils" f10 (PySem.W.fnOf "fulfils" "fulfils" (defArgs s_fulfils) (defBody s_fulfils) (defScope s_fulfils) .none kV10 dc10 pm10 an10 cd10 ct10) ["row", "clause"] n_fulfils s_fulfils := ⟨F10, sc_fulfils, b10, ok_fulfils, rfl, rfl, by decide, w10⟩
  have F11 := fun_mk (st := s_told_by) l11 c11 k11
  have b11 := F11.binds (ps := ["size", "clauses"]) fun _ _ _ _ _ _ us hl => match us, hl with | [_, _], _ => rfl
  have w11 : KwB K (PySem.W.fnOf "told_by" "told_by" (defArgs s_told_by) (defBody s_told_by) (defScope s_told_by) .none kV11 dc11 pm11 an11 cd11 ct11) ["size", "clauses"] := fun s us ws _ hl => match us, ws, hl with | [], [_, _], _ => .of_eq rfl | [_], [_], _ => .of_eq rfl | [_, _], [], _ => .of_eq rfl
  have D11 : DG K tab d_told_by "told_by" "told_by" f11 (PySem.W.fnOf "told_by" "told_by" (defArgs s_told_by) (defBody s_told_by) (defScope s_told_by) .none kV11 dc11 pm11 an11 cd11 ct11) ["size", "clauses"] n_told_by s_told_by := ⟨F11, sc_told_by, b11, ok_told_by, rfl, rfl, by decide, w11⟩
  have F12 := fun_mk (st := s_fulfils_all) l12 c12 k12
  have b12 := F12.binds (ps := ["row", "clauses"]) fun _ _ _ _ _ _ us hl => match us, hl with | [_, _], _ => rfl
  have w12 : KwB K (PySem.W.fnOf "_fulfils_all" "_fulfils_all" (defArgs s_fulfils_all) (defBody s_fulfils_all) (defScope s_fulfils_all) .none kV12 dc12 pm12 an12 cd12 ct12) ["row", "clauses"] := fun s us ws _ hl => match us, ws, hl with | [], [_, _], _ => .of_eq rfl | [_], [_], _ => .of_eq rfl | [_, _], [], _ => .of_eq rfl
  have D12 : DG K tab d_fulfils_all "_fulfils_all" "_fulfils_all" f12 (PySem.W.fnOf "_fulfils_all" "_fulfils_all" (defArgs s_fulfils_all) (defBody s_fulfils_all) (defScope s_fulfils_all) .none kV12 dc12 pm12 an12 cd12 ct12) ["row", "clauses"] n_fulfils_all s_fulfils_all := ⟨F12, sc_fulfils_all, b12, ok_fulfils_all, rfl, rfl, by decide, w12⟩
  have F13 := fun_mk (st := s_law_draws) l13 c13 k13
  have b13 := F13.binds (ps := ["script", "many"]) fun _ _ _ _ _ _ us hl => match us, hl with | [_, _], _ => rfl
  have w13 : KwB K (PySem.W.fnOf "_law_draws" "_law_draws" (defArgs s_law_draws) (defBody s_law_draws) (defScope s_law_draws) .none kV13 dc13 pm13 an13 cd13 ct13) ["script", "many"] := fun s us ws _ hl => match us, ws, hl with | [], [_, _], _ => .of_eq rfl | [_], [_], _ => .of_eq rfl | [_, _], [], _ => .of_eq rfl
  have D13 : DG K tab d_law_draws "_law_draws" "_law_draws" f13 (PySem.W.fnOf "_law_draws" "_law_draws" (defArgs s_law_draws) (defBody s_law_draws) (defScope s_law_draws) .none kV13 dc13 pm13 an13 cd13 ct13) ["script", "many"] n_law_draws s_law_draws := ⟨F13, sc_law_draws, b13, ok_law_draws, rfl, rfl, by decide, w13⟩
  have F14 := fun_mk (st := s_law_take) l14 c14 k14
  have b14 := F14.binds (ps := ["hand", "many"]) fun _ _ _ _ _ _ us hl => match us, hl with | [_, _], _ => rfl
  have w14 : KwB K (PySem.W.fnOf "_law_take" "_law_take" (defArgs s_law_take) (defBody s_law_take) (defScope s_law_take) .none kV14 dc14 pm14 an14 cd14 ct14) ["hand", "many"] := fun s us ws _ hl => match us, ws, hl with | [], [_, _], _ => .of_eq rfl | [_], [_], _ => .of_eq rfl | [_, _], [], _ => .of_eq rfl
  have D14 : DG K tab d_law_take "_law_take" "_law_take" f14 (PySem.W.fnOf "_law_take" "_law_take" (defArgs s_law_take) (defBody s_law_take) (defScope s_law_take) .none kV14 dc14 pm14 an14 cd14 ct14) ["hand", "many"] n_law_take s_law_take := ⟨F14, sc_law_take, b14, ok_law_take, rfl, rfl, by decide, w14⟩
  have F15 := fun_mk (st := s_law_all_rows) l15 c15 k15
  have b15 := F15.binds (ps := ["many"]) fun _ _ _ _ _ _ us hl => match us, hl with | [_], _ => rfl
  have w15 : KwB K (PySem.W.fnOf "_law_all_rows" "_law_all_rows" (defArgs s_law_all_rows) (defBody s_law_all_rows) (defScope s_law_all_rows) .none kV15 dc15 pm15 an15 cd15 ct15) ["many"] := fun s us ws _ hl => match us, ws, hl with | [], [_], _ => .of_eq rfl | [_], [], _ => .of_eq rfl
  have D15 : DG K tab d_law_all_rows "_law_all_rows" "_law_all_rows" f15 (PySem.W.fnOf "_law_all_rows" "_law_all_rows" (defArgs s_law_all_rows) (defBody s_law_all_rows) (defScope s_law_all_rows) .none kV15 dc15 pm15 an15 cd15 ct15) ["many"] n_law_all_rows s_law_all_rows := ⟨F15, sc_law_all_rows, b15, ok_law_all_rows, rfl, rfl, by decide, w15⟩
  have F16 := fun_mk (st := s_law_rising) l16 c16 k16
  have b16 := F16.binds (ps := ["hand", "size"]) fun _ _ _ _ _ _ us hl => match us, hl with | [_, _], _ => rfl
  have w16 : KwB K (PySem.W.fnOf "_law_rising" "_law_rising" (defArgs s_law_rising) (defBody s_law_rising) (defScope s_law_rising) .none kV16 dc16 pm16 an16 cd16 ct16) ["hand", "size"] := fun s us ws _ hl => match us, ws, hl with | [], [_, _], _ => .of_eq rfl | [_], [_], _ => .of_eq rfl | [_, _], [], _ => .of_eq rfl
  have D16 : DG K tab d_law_rising "_law_rising" "_law_rising" f16 (PySem.W.fnOf "_law_rising" "_law_rising" (defArgs s_law_rising) (defBody s_law_rising) (defScope s_law_rising) .none kV16 dc16 pm16 an16 cd16 ct16) ["hand", "size"] n_law_rising s_law_rising := ⟨F16, sc_law_rising, b16, ok_law_rising, rfl, rfl, by decide, w16⟩
  have F17 := fun_mk (st := s_law_clause) l17 c17 k17
  have b17 := F17.binds (ps := ["hand", "size"]) fun _ _ _ _ _ _ us hl => match us, hl with | [_, _], _ => rfl
  have w17 : KwB K (PySem.W.fnOf "_law_clause" "_law_clause" (defArgs s_law_clause) (defBody s_law_clause) (defScope s_law_clause) .none kV17 dc17 pm17 an17 cd17 ct17) ["hand", "size"] := fun s us ws _ hl => match us, ws, hl with | [], [_, _], _ => .of_eq rfl | [_], [_], _ => .of_eq rfl | [_, _], [], _ => .of_eq rfl
  have D17 : DG K tab d_law_clause "_law_clause" "_law_clause" f17 (PySem.W.fnOf "_law_clause" "_law_clause" (defArgs s_law_clause) (defBody s_law_clause) (defScope s_law_clause) .none kV17 dc17 pm17 an17 cd17 ct17) ["hand", "size"] n_law_clause s_law_clause := ⟨F17, sc_law_clause, b17, ok_law_clause, rfl, rfl, by decide, w17⟩
  have F18 := fun_mk (st := s_law_fulfils) l18 c18 k18
  have b18 := F18.binds (ps := ["row", "clause"]) fun _ _ _ _ _ _ us hl => match us, hl with | [_, _], _ => rfl
  have w18 : KwB K (PySem.W.fnOf "_law_fulfils" "_law_fulfils" (defArgs s_law_fulfils) (defBody s_law_fulfils) (defScope s_law_fulfils) .none kV18 dc18 pm18 an18 cd18 ct18) ["row", "clause"] := fun s us ws _ hl => match us, ws, hl with | [], [_, _], _ => .of_eq rfl | [_], [_], _ => .of_eq rfl | [_, _], [], _ => .of_eq rfl
  have D18 : DG K tab d_law_fulfils "_law_fulfils" "_law_fulfils" f18 (PySem.W.fnOf "_law_fulfils" "_law_fulfils" (defArgs s_law_fulfils) (defBody s_law_fulfils) (defScope s_law_fulfils) .none kV18 dc18 pm18 an18 cd18 ct18) ["row", "clause"] n_law_fulfils s_law_fulfils := ⟨F18, sc_law_fulfils, b18, ok_law_fulfils, rfl, rfl, by decide, w18⟩
  have F19 := fun_mk (st := s_law_told) l19 c19 k19
  have b19 := F19.binds (ps := ["size", "clauses"]) fun _ _ _ _ _ _ us hl => match us, hl with | [_, _], _ => rfl
  have w19 : KwB K (PySem.W.fnOf "_law_told" "_law_told" (defArgs s_law_told) (defBody s_law_told) (defScope s_law_told) .none kV19 dc19 pm19 an19 cd19 ct19) ["size", "clauses"] := fun s us ws _ hl => match us, ws, hl with | [], [_, _], _ => .of_eq rfl | [_], [_], _ => .of_eq rfl | [_, _], [], _ => .of_eq rfl
  have D19 : DG K tab d_law_told "_law_told" "_law_told" f19 (PySem.W.fnOf "_law_told" "_law_told" (defArgs s_law_told) (defBody s_law_told) (defScope s_law_told) .none kV19 dc19 pm19 an19 cd19 ct19) ["size", "clauses"] n_law_told s_law_told := ⟨F19, sc_law_told, b19, ok_law_told, rfl, rfl, by decide, w19⟩
  have F20 := fun_mk (st := s_law_is_relation) l20 c20 k20
  have b20 := F20.binds (ps := ["actual", "due"]) fun _ _ _ _ _ _ us hl => match us, hl with | [_, _], _ => rfl
  have w20 : KwB K (PySem.W.fnOf "_law_is_relation" "_law_is_relation" (defArgs s_law_is_relation) (defBody s_law_is_relation) (defScope s_law_is_relation) .none kV20 dc20 pm20 an20 cd20 ct20) ["actual", "due"] := fun s us ws _ hl => match us, ws, hl with | [], [_, _], _ => .of_eq rfl | [_], [_], _ => .of_eq rfl | [_, _], [], _ => .of_eq rfl
  have D20 : DG K tab d_law_is_relation "_law_is_relation" "_law_is_relation" f20 (PySem.W.fnOf "_law_is_relation" "_law_is_relation" (defArgs s_law_is_relation) (defBody s_law_is_relation) (defScope s_law_is_relation) .none kV20 dc20 pm20 an20 cd20 ct20) ["actual", "due"] n_law_is_relation s_law_is_relation := ⟨F20, sc_law_is_relation, b20, ok_law_is_relation, rfl, rfl, by decide, w20⟩
  have F21 := fun_mk (st := s_law_refusal) l21 c21 k21
  have b21 := F21.binds (ps := ["size", "clauses"]) fun _ _ _ _ _ _ us hl => match us, hl with | [_, _], _ => rfl
  have w21 : KwB K (PySem.W.fnOf "_law_refusal" "_law_refusal" (defArgs s_law_refusal) (defBody s_law_refusal) (defScope s_law_refusal) .none kV21 dc21 pm21 an21 cd21 ct21) ["size", "clauses"] := fun s us ws _ hl => match us, ws, hl with | [], [_, _], _ => .of_eq rfl | [_], [_], _ => .of_eq rfl | [_, _], [], _ => .of_eq rfl
  have D21 : DG K tab d_law_refusal "_law_refusal" "_law_refusal" f21 (PySem.W.fnOf "_law_refusal" "_law_refusal" (defArgs s_law_refusal) (defBody s_law_refusal) (defScope s_law_refusal) .none kV21 dc21 pm21 an21 cd21 ct21) ["size", "clauses"] n_law_refusal s_law_refusal := ⟨F21, sc_law_refusal, b21, ok_law_refusal, rfl, rfl, by decide, w21⟩
  have F22 := fun_mk (st := s_law) l22 c22 k22
  have b22 := F22.binds (ps := ["script"]) fun _ _ _ _ _ _ us hl => match us, hl with | [_], _ => rfl
  have w22 : KwB K (PySem.W.fnOf "law" "law" (defArgs s_law) (defBody s_law) (defScope s_law) .none kV22 dc22 pm22 an22 cd22 ct22) ["script"] := fun s us ws _ hl => match us, ws, hl with | [], [_], _ => .of_eq rfl | [_], [], _ => .of_eq rfl
  have D22 : DG K tab d_law "law" "law" fa (PySem.W.fnOf "law" "law" (defArgs s_law) (defBody s_law) (defScope s_law) .none kV22 dc22 pm22 an22 cd22 ct22) ["script"] n_law s_law := ⟨F22, sc_law, b22, ok_law, rfl, rfl, by decide, w22⟩
  have F23 := fun_mk (st := s_Relation_init) l23 c23 k23
  have b23 := F23.binds (ps := ["self", "size", "rows"]) fun _ _ _ _ _ _ us hl => match us, hl with | [_, _, _], _ => rfl
  have w23 : KwB K (PySem.W.fnOf "__init__" "Relation.__init__" (defArgs s_Relation_init) (defBody s_Relation_init) (defScope s_Relation_init) .none kV23 dc23 pm23 an23 cd23 ct23) ["self", "size", "rows"] := fun s us ws _ hl => match us, ws, hl with | [], [_, _, _], _ => .of_eq rfl | [_], [_, _], _ => .of_eq rfl | [_, _], [_], _ => .of_eq rfl | [_, _, _], [], _ => .of_eq rfl
  have D23 : DG K tab d_Relation_init "__init__" "Relation.__init__" f23 (PySem.W.fnOf "__init__" "Relation.__init__" (defArgs s_Relation_init) (defBody s_Relation_init) (defScope s_Relation_init) .none kV23 dc23 pm23 an23 cd23 ct23) ["self", "size", "rows"] n_Relation_init s_Relation_init := ⟨F23, sc_Relation_init, b23, ok_Relation_init, rfl, rfl, by decide, w23⟩
  have F24 := fun_mk (st := s_Relation_eq) l24 c24 k24
  have b24 := F24.binds (ps := ["self", "other"]) fun _ _ _ _ _ _ us hl => match us, hl with | [_, _], _ => rfl
  have w24 : KwB K (PySem.W.fnOf "__eq__" "Relation.__eq__" (defArgs s_Relation_eq) (defBody s_Relation_eq) (defScope s_Relation_eq) .none kV24 dc24 pm24 an24 cd24 ct24) ["self", "other"] := fun s us ws _ hl => match us, ws, hl with | [], [_, _], _ => .of_eq rfl | [_], [_], _ => .of_eq rfl | [_, _], [], _ => .of_eq rfl
  have D24 : DG K tab d_Relation_eq "__eq__" "Relation.__eq__" f24 (PySem.W.fnOf "__eq__" "Relation.__eq__" (defArgs s_Relation_eq) (defBody s_Relation_eq) (defScope s_Relation_eq) .none kV24 dc24 pm24 an24 cd24 ct24) ["self", "other"] n_Relation_eq s_Relation_eq := ⟨F24, sc_Relation_eq, b24, ok_Relation_eq, rfl, rfl, by decide, w24⟩
  have F25 := fun_mk (st := s_Relation_len) l25 c25 k25
  have b25 := F25.binds (ps := ["self"]) fun _ _ _ _ _ _ us hl => match us, hl with | [_], _ => rfl
  have w25 : KwB K (PySem.W.fnOf "__len__" "Relation.__len__" (defArgs s_Relation_len) (defBody s_Relation_len) (defScope s_Relation_len) .none kV25 dc25 pm25 an25 cd25 ct25) ["self"] := fun s us ws _ hl => match us, ws, hl with | [], [_], _ => .of_eq rfl | [_], [], _ => .of_eq rfl
  have D25 : DG K tab d_Relation_len "__len__" "Relation.__len__" f25 (PySem.W.fnOf "__len__" "Relation.__len__" (defArgs s_Relation_len) (defBody s_Relation_len) (defScope s_Relation_len) .none kV25 dc25 pm25 an25 cd25 ct25) ["self"] n_Relation_len s_Relation_len := ⟨F25, sc_Relation_len, b25, ok_Relation_len, rfl, rfl, by decide, w25⟩
  have F26 := fun_mk (st := s_Relation_has) l26 c26 k26
  have b26 := F26.binds (ps := ["self", "row"]) fun _ _ _ _ _ _ us hl => match us, hl with | [_, _], _ => rfl
  have w26 : KwB K (PySem.W.fnOf "has" "Relation.has" (defArgs s_Relation_has) (defBody s_Relation_has) (defScope s_Relation_has) .none kV26 dc26 pm26 an26 cd26 ct26) ["self", "row"] := fun s us ws _ hl => match us, ws, hl with | [], [_, _], _ => .of_eq rfl | [_], [_], _ => .of_eq rfl | [_, _], [], _ => .of_eq rfl
  have D26 : DG K tab d_Relation_has "has" "Relation.has" f26 (PySem.W.fnOf "has" "Relation.has" (defArgs s_Relation_has) (defBody s_Relation_has) (defScope s_Relation_has) .none kV26 dc26 pm26 an26 cd26 ct26) ["self", "row"] n_Relation_has s_Relation_has := ⟨F26, sc_Relation_has, b26, ok_Relation_has, rfl, rfl, by decide, w26⟩
  have F27 := fun_mk (st := s_Relation_opposite) l27 c27 k27
  have b27 := F27.binds (ps := ["self"]) fun _ _ _ _ _ _ us hl => match us, hl with | [_], _ => rfl
  have w27 : KwB K (PySem.W.fnOf "opposite" "Relation.opposite" (defArgs s_Relation_opposite) (defBody s_Relation_opposite) (defScope s_Relation_opposite) .none kV27 dc27 pm27 an27 cd27 ct27) ["self"] := fun s us ws _ hl => match us, ws, hl with | [], [_], _ => .of_eq rfl | [_], [], _ => .of_eq rfl
  have D27 : DG K tab d_Relation_opposite "opposite" "Relation.opposite" f27 (PySem.W.fnOf "opposite" "Relation.opposite" (defArgs s_Relation_opposite) (defBody s_Relation_opposite) (defScope s_Relation_opposite) .none kV27 dc27 pm27 an27 cd27 ct27) ["self"] n_Relation_opposite s_Relation_opposite := ⟨F27, sc_Relation_opposite, b27, ok_Relation_opposite, rfl, rfl, by decide, w27⟩
  have F28 := fun_mk (st := s_Relation_read_at) l28 c28 k28
  have b28 := F28.binds (ps := ["self", "places"]) fun _ _ _ _ _ _ us hl => match us, hl with | [_, _], _ => rfl
  have w28 : KwB K (PySem.W.fnOf "read_at" "Relation.read_at" (defArgs s_Relation_read_at) (defBody s_Relation_read_at) (defScope s_Relation_read_at) .none kV28 dc28 pm28 an28 cd28 ct28) ["self", "places"] := fun s us ws _ hl => match us, ws, hl with | [], [_, _], _ => .of_eq rfl | [_], [_], _ => .of_eq rfl | [_, _], [], _ => .of_eq rfl
  have D28 : DG K tab d_Relation_read_at "read_at" "Relation.read_at" f28 (PySem.W.fnOf "read_at" "Relation.read_at" (defArgs s_Relation_read_at) (defBody s_Relation_read_at) (defScope s_Relation_read_at) .none kV28 dc28 pm28 an28 cd28 ct28) ["self", "places"] n_Relation_read_at s_Relation_read_at := ⟨F28, sc_Relation_read_at, b28, ok_Relation_read_at, rfl, rfl, by decide, w28⟩
  have F29 := fun_mk (st := s_Relation_alike) l29 c29 k29
  have b29 := F29.binds (ps := ["self", "i", "j"]) fun _ _ _ _ _ _ us hl => match us, hl with | [_, _, _], _ => rfl
  have w29 : KwB K (PySem.W.fnOf "alike" "Relation.alike" (defArgs s_Relation_alike) (defBody s_Relation_alike) (defScope s_Relation_alike) .none kV29 dc29 pm29 an29 cd29 ct29) ["self", "i", "j"] := fun s us ws _ hl => match us, ws, hl with | [], [_, _, _], _ => .of_eq rfl | [_], [_, _], _ => .of_eq rfl | [_, _], [_], _ => .of_eq rfl | [_, _, _], [], _ => .of_eq rfl
  have D29 : DG K tab d_Relation_alike "alike" "Relation.alike" f29 (PySem.W.fnOf "alike" "Relation.alike" (defArgs s_Relation_alike) (defBody s_Relation_alike) (defScope s_Relation_alike) .none kV29 dc29 pm29 an29 cd29 ct29) ["self", "i", "j"] n_Relation_alike s_Relation_alike := ⟨F29, sc_Relation_alike, b29, ok_Relation_alike, rfl, rfl, by decide, w29⟩
  have F30 := fun_mk (st := s_Relation_both) l30 c30 k30
  have b30 := F30.binds (ps := ["self", "other"]) fun _ _ _ _ _ _ us hl => match us, hl with | [_, _], _ => rfl
  have w30 : KwB K (PySem.W.fnOf "both" "Relation.both" (defArgs s_Relation_both) (defBody s_Relation_both) (defScope s_Relation_both) .none kV30 dc30 pm30 an30 cd30 ct30) ["self", "other"] := fun s us ws _ hl => match us, ws, hl with | [], [_, _], _ => .of_eq rfl | [_], [_], _ => .of_eq rfl | [_, _], [], _ => .of_eq rfl
  have D30 : DG K tab d_Relation_both "both" "Relation.both" f30 (PySem.W.fnOf "both" "Relation.both" (defArgs s_Relation_both) (defBody s_Relation_both) (defScope s_Relation_both) .none kV30 dc30 pm30 an30 cd30 ct30) ["self", "other"] n_Relation_both s_Relation_both := ⟨F30, sc_Relation_both, b30, ok_Relation_both, rfl, rfl, by decide, w30⟩
  have F31 := fun_mk (st := s_Relation_beside) l31 c31 k31
  have b31 := F31.binds (ps := ["self", "other"]) fun _ _ _ _ _ _ us hl => match us, hl with | [_, _], _ => rfl
  have w31 : KwB K (PySem.W.fnOf "beside" "Relation.beside" (defArgs s_Relation_beside) (defBody s_Relation_beside) (defScope s_Relation_beside) .none kV31 dc31 pm31 an31 cd31 ct31) ["self", "other"] := fun s us ws _ hl => match us, ws, hl with | [], [_, _], _ => .of_eq rfl | [_], [_], _ => .of_eq rfl | [_, _], [], _ => .of_eq rfl
  have D31 : DG K tab d_Relation_beside "beside" "Relation.beside" f31 (PySem.W.fnOf "beside" "Relation.beside" (defArgs s_Relation_beside) (defBody s_Relation_beside) (defScope s_Relation_beside) .none kV31 dc31 pm31 an31 cd31 ct31) ["self", "other"] n_Relation_beside s_Relation_beside := ⟨F31, sc_Relation_beside, b31, ok_Relation_beside, rfl, rfl, by decide, w31⟩
  have TD : AllD K tab ds [f0, f1, f2, f3, f4, f5, f6, f7, f8, f9, f10, f11, f12, f13, f14, f15, f16, f17, f18, f19, f20, f21, fa, f23, f24, f25, f26, f27, f28, f29, f30, f31] [PySem.W.fnOf "_wall" "_wall" (defArgs s_wall) (defBody s_wall) (defScope s_wall) .none kV0 dc0 pm0 an0 cd0 ct0, PySem.W.fnOf "is_integer" "is_integer" (defArgs s_is_integer) (defBody s_is_integer) (defScope s_is_integer) .none kV1 dc1 pm1 an1 cd1 ct1, PySem.W.fnOf "is_number_below" "is_number_below" (defArgs s_is_number_below) (defBody s_is_number_below) (defScope s_is_number_below) .none kV2 dc2 pm2 an2 cd2 ct2, PySem.W.fnOf "is_sequence" "is_sequence" (defArgs s_is_sequence) (defBody s_is_sequence) (defScope s_is_sequence) .none kV3 dc3 pm3 an3 cd3 ct3, PySem.W.fnOf "is_tuple" "is_tuple" (defArgs s_is_tuple) (defBody s_is_tuple) (defScope s_is_tuple) .none kV4 dc4 pm4 an4 cd4 ct4, PySem.W.fnOf "is_value" "is_value" (defArgs s_is_value) (defBody s_is_value) (defScope s_is_value) .none kV5 dc5 pm5 an5 cd5 ct5, PySem.W.fnOf "is_row" "is_row" (defArgs s_is_row) (defBody s_is_row) (defScope s_is_row) .none kV6 dc6 pm6 an6 cd6 ct6, PySem.W.fnOf "all_rows" "all_rows" (defArgs s_all_rows) (defBody s_all_rows) (defScope s_all_rows) .none kV7 dc7 pm7 an7 cd7 ct7, PySem.W.fnOf "_is_size" "_is_size" (defArgs s_is_size) (defBody s_is_size) (defScope s_is_size) .none kV8 dc8 pm8 an8 cd8 ct8, PySem.W.fnOf "_are_rows" "_are_rows" (defArgs s_are_rows) (defBody s_are_rows) (defScope s_are_rows) .none kV9 dc9 pm9 an9 cd9 ct9, PySem.W.fnOf "fulfils" "fulfils" (defArgs s_fulfils) (defBody s_fulfils) (defScope s_fulfils) .none kV10 dc10 pm10 an10 cd10 ct10, PySem.W.fnOf "told_by" "told_by" (defArgs s_told_by) (defBody s_told_by) (defScope s_told_by) .none kV11 dc11 pm11 an11 cd11 ct11, PySem.W.fnOf "_fulfils_all" "_fulfils_all" (defArgs s_fulfils_all) (defBody s_fulfils_all) (defScope s_fulfils_all) .none kV12 dc12 pm12 an12 cd12 ct12, PySem.W.fnOf "_law_draws" "_law_draws" (defArgs s_law_draws) (defBody s_law_draws) (defScope s_law_draws) .none kV13 dc13 pm13 an13 cd13 ct13, PySem.W.fnOf "_law_take" "_law_take" (defArgs s_law_take) (defBody s_law_take) (defScope s_law_take) .none kV14 dc14 pm14 an14 cd14 ct14, PySem.W.fnOf "_law_all_rows" "_law_all_rows" (defArgs s_law_all_rows) (defBody s_law_all_rows) (defScope s_law_all_rows) .none kV15 dc15 pm15 an15 cd15 ct15, PySem.W.fnOf "_law_rising" "_law_rising" (defArgs s_law_rising) (defBody s_law_rising) (defScope s_law_rising) .none kV16 dc16 pm16 an16 cd16 ct16, PySem.W.fnOf "_law_clause" "_law_clause" (defArgs s_law_clause) (defBody s_law_clause) (defScope s_law_clause) .none kV17 dc17 pm17 an17 cd17 ct17, PySem.W.fnOf "_law_fulfils" "_law_fulfils" (defArgs s_law_fulfils) (defBody s_law_fulfils) (defScope s_law_fulfils) .none kV18 dc18 pm18 an18 cd18 ct18, PySem.W.fnOf "_law_told" "_law_told" (defArgs s_law_told) (defBody s_law_told) (defScope s_law_told) .none kV19 dc19 pm19 an19 cd19 ct19, PySem.W.fnOf "_law_is_relation" "_law_is_relation" (defArgs s_law_is_relation) (defBody s_law_is_relation) (defScope s_law_is_relation) .none kV20 dc20 pm20 an20 cd20 ct20, PySem.W.fnOf "_law_refusal" "_law_refusal" (defArgs s_law_refusal) (defBody s_law_refusal) (defScope s_law_refusal) .none kV21 dc21 pm21 an21 cd21 ct21, PySem.W.fnOf "law" "law" (defArgs s_law) (defBody s_law) (defScope s_law) .none kV22 dc22 pm22 an22 cd22 ct22, PySem.W.fnOf "__init__" "Relation.__init__" (defArgs s_Relation_init) (defBody s_Relation_init) (defScope s_Relation_init) .none kV23 dc23 pm23 an23 cd23 ct23, PySem.W.fnOf "__eq__" "Relation.__eq__" (defArgs s_Relation_eq) (defBody s_Relation_eq) (defScope s_Relation_eq) .none kV24 dc24 pm24 an24 cd24 ct24, PySem.W.fnOf "__len__" "Relation.__len__" (defArgs s_Relation_len) (defBody s_Relation_len) (defScope s_Relation_len) .none kV25 dc25 pm25 an25 cd25 ct25, PySem.W.fnOf "has" "Relation.has" (defArgs s_Relation_has) (defBody s_Relation_has) (defScope s_Relation_has) .none kV26 dc26 pm26 an26 cd26 ct26, PySem.W.fnOf "opposite" "Relation.opposite" (defArgs s_Relation_opposite) (defBody s_Relation_opposite) (defScope s_Relation_opposite) .none kV27 dc27 pm27 an27 cd27 ct27, PySem.W.fnOf "read_at" "Relation.read_at" (defArgs s_Relation_read_at) (defBody s_Relation_read_at) (defScope s_Relation_read_at) .none kV28 dc28 pm28 an28 cd28 ct28, PySem.W.fnOf "alike" "Relation.alike" (defArgs s_Relation_alike) (defBody s_Relation_alike) (defScope s_Relation_alike) .none kV29 dc29 pm29 an29 cd29 ct29, PySem.W.fnOf "both" "Relation.both" (defArgs s_Relation_both) (defBody s_Relation_both) (defScope s_Relation_both) .none kV30 dc30 pm30 an30 cd30 ct30, PySem.W.fnOf "beside" "Relation.beside" (defArgs s_Relation_beside) (defBody s_Relation_beside) (defScope s_Relation_beside) .none kV31 dc31 pm31 an31 cd31 ct31] pss := AllD.cons' D0 (AllD.cons' D1 (AllD.cons' D2 (AllD.cons' D3 (AllD.cons' D4 (AllD.cons' D5 (AllD.cons' D6 (AllD.cons' D7 (AllD.cons' D8 (AllD.cons' D9 (AllD.cons' D10 (AllD.cons' D11 (AllD.cons' D12 (AllD.cons' D13 (AllD.cons' D14 (AllD.cons' D15 (AllD.cons' D16 (AllD.cons' D17 (AllD.cons' D18 (AllD.cons' D19 (AllD.cons' D20 (AllD.cons' D21 (AllD.cons' D22 (AllD.cons' D23 (AllD.cons' D24 (AllD.cons' D25 (AllD.cons' D26 (AllD.cons' D27 (AllD.cons' D28 (AllD.cons' D29 (AllD.cons' D30 (AllD.cons' D31 (AllD.nil'))))))))))))))))))))))))))))))))
  have TF : FnP mg tab.fn [f0, f1, f2, f3, f4, f5, f6, f7, f8, f9, f10, f11, f12, f13, f14, f15, f16, f17, f18, f19, f20, f21, fa, f23, f24, f25, f26, f27, f28, f29, f30, f31] ds := FnP.cons' (PySem.W.mg_of X G a0) rfl (FnP.cons' (PySem.W.mg_of X G a1) rfl (FnP.cons' (PySem.W.mg_of X G a2) rfl (FnP.cons' (PySem.W.mg_of X G a3) rfl (FnP.cons' (PySem.W.mg_of X G a4) rfl (FnP.cons' (PySem.W.mg_of X G a5) rfl (FnP.cons' (PySem.W.mg_of X G a6) rfl (FnP.cons' (PySem.W.mg_of X G a7) rfl (FnP.cons' (PySem.W.mg_of X G a8) rfl (FnP.cons' (PySem.W.mg_of X G a9) rfl (FnP.cons' (PySem.W.mg_of X G a10) rfl (FnP.cons' (PySem.W.mg_of X G a11) rfl (FnP.cons' (PySem.W.mg_of X G a12) rfl (FnP.cons' (PySem.W.mg_of X G a13) rfl (FnP.cons' (PySem.W.mg_of X G a14) rfl (FnP.cons' (PySem.W.mg_of X G a15) rfl (FnP.cons' (PySem.W.mg_of X G a16) rfl (FnP.cons' (PySem.W.mg_of X G a17) rfl (FnP.cons' (PySem.W.mg_of X G a18) rfl (FnP.cons' (PySem.W.mg_of X G a19) rfl (FnP.cons' (PySem.W.mg_of X G a20) rfl (FnP.cons' (PySem.W.mg_of X G a21) rfl (FnP.cons' (PySem.W.mg_of X G a22) rfl (FnP.nil')))))))))))))))))))))))
  have TN : NoneL mg tab.bl := NoneL.cons' (PySem.W.mg_none_of X G z0) (NoneL.cons' (PySem.W.mg_none_of X G z1) (NoneL.cons' (PySem.W.mg_none_of X G z2) (NoneL.cons' (PySem.W.mg_none_of X G z3) (NoneL.cons' (PySem.W.mg_none_of X G z4) (NoneL.cons' (PySem.W.mg_none_of X G z5) (NoneL.cons' (PySem.W.mg_none_of X G z6) (NoneL.cons' (PySem.W.mg_none_of X G z7) (NoneL.cons' (PySem.W.mg_none_of X G z8) (NoneL.cons' (PySem.W.mg_none_of X G z9) (NoneL.cons' (PySem.W.mg_none_of X G z10) (NoneL.cons' (PySem.W.mg_none_of X G z11) (NoneL.cons' (PySem.W.mg_none_of X G z12) (NoneL.cons' (PySem.W.mg_none_of X G z13) (NoneL.cons' (PySem.W.mg_none_of X G z14) (NoneL.nil')))))))))))))))
  have X1 : XcF K C1 := ⟨dC1, tC1, sC1, vC1, bC1, gC1, hC1, uC1, cC1, oC1, kC1⟩
  have X2 : XcF K C2 := ⟨dC2, tC2, sC2, vC2, bC2, gC2, hC2, uC2, cC2, oC2, kC2⟩
  have Y2 := X2.oex xl2 xr2
  have FX2 := fun_mk (st := sx_InvalidNumber) xg2 xc2 xk2
  have bX2 := FX2.binds (ps := ["self", "value"]) fun _ _ _ _ _ _ us hl => match us, hl with | [_, _], _ => rfl
  have XO2 : ∀ base, XmO l.prog w K mg base C2 ["value"] := fun base X e1 e2 e3 e4 e5 r x hm hg hd e es ta p pos ha he hpl => xm_x1 (fn_x1 FX2 scx_InvalidNumber Y2 xn2_0 rfl nx0_InvalidNumber nx1_InvalidNumber) Y2 xi2 xt2 bX2 e1 e2 e3 e4 e5 r hm hg hd ha he hpl
  have X3 : XcF K C3 := ⟨dC3, tC3, sC3, vC3, bC3, gC3, hC3, uC3, cC3, oC3, kC3⟩
  have Y3 := X3.oex xl3 xr3
  have FX3 := fun_mk (st := sx_InvalidRelation) xg3 xc3 xk3
  have bX3 := FX3.binds (ps := ["self", "value"]) fun _ _ _ _ _ _ us hl => match us, hl with | [_, _], _ => rfl
  have XO3 : ∀ base, XmO l.prog w K mg base C3 ["value"] := fun base X e1 e2 e3 e4 e5 r x hm hg hd e es ta p pos ha he hpl => xm_x1 (fn_x1 FX3 scx_InvalidRelation Y3 xn3_0 rfl nx0_InvalidRelation nx1_InvalidRelation) Y3 xi3 xt3 bX3 e1 e2 e3 e4 e5 r hm hg hd ha he hpl
  have X4 : XcF K C4 := ⟨dC4, tC4, sC4, vC4, bC4, gC4, hC4, uC4, cC4, oC4, kC4⟩
  have Y4 := X4.oex xl4 xr4
  have FX4 := fun_mk (st := sx_Undefined) xg4 xc4 xk4
  have bX4 := FX4.binds (ps := ["self", "what"]) fun _ _ _ _ _ _ us hl => match us, hl with | [_, _], _ => rfl
  have XO4 : ∀ base, XmO l.prog w K mg base C4 ["what"] := fun base X e1 e2 e3 e4 e5 r x hm hg hd e es ta p pos ha he hpl => xm_x1 (fn_x1 FX4 scx_Undefined Y4 xn4_0 rfl nx0_Undefined nx1_Undefined) Y4 xi4 xt4 bX4 e1 e2 e3 e4 e5 r hm hg hd ha he hpl
  have X0 : PcF K C0 := ⟨pg0, dC0, po0, sA0, cC0, oC0, tC0, sC0, nI0_0, nI0_1, nI0_2, nI0_3, nI0_4, nI0_5, nI0_6⟩
  have TC : ClL K mg xn [C1, C2, C3, C4] := ClL.cons' (PySem.W.mg_of X G aC1) X1 (ClL.cons' (PySem.W.mg_of X G aC2) X2 (ClL.cons' (PySem.W.mg_of X G aC3) X3 (ClL.cons' (PySem.W.mg_of X G aC4) X4 (ClL.nil'))))
  have TG : GlL (⟨K, (fun c => ([C0] ++ [C1, C2, C3, C4] : List Addr).getD c 0), fun _ _ _ => False, KdF K w⟩ : Kt) mg tab.gn gls := GlL.cons' (v := .int 4) (PySem.W.mg_of X G ag0) ⟨_, rfl⟩ (fun O H => .int _) (GlL.nil')
  have TFd : FdL K (fun c => ([C0] ++ [C1, C2, C3, C4] : List Addr).getD c 0) tab.cn.length fls := FdL.cons' (by decide) xn2_0 (FdL.cons' (by decide) xn3_0 (FdL.cons' (by decide) xn4_0 (FdL.cons' (by decide) nf0_0 (FdL.cons' (by decide) nf0_1 (FdL.nil')))))
  have TX : XsL K (fun c => ([C0] ++ [C1, C2, C3, C4] : List Addr).getD c 0) tab.cn.length xss := XsL.cons' (by decide) (by decide) ss2_1 (XsL.cons' (by decide) (by decide) ss2_2 (XsL.cons' (by decide) (by decide) ss2_3 (XsL.cons' (by decide) (by decide) ss2_4 (XsL.cons' (by decide) (by decide) ss3_1 (XsL.cons' (by decide) (by decide) ss3_2 (XsL.cons' (by decide) (by decide) ss3_3 (XsL.cons' (by decide) (by decide) ss3_4 (XsL.cons' (by decide) (by decide) ss4_1 (XsL.cons' (by decide) (by decide) ss4_2 (XsL.cons' (by decide) (by decide) ss4_3 (XsL.cons' (by decide) (by decide) ss4_4 (XsL.nil'))))))))))))
  have TM : ∀ base, XmL l.prog w K mg base xfs [C1, C2, C3, C4] := fun base => XmL.skip' (XmL.cons' (XO2 base) (XmL.cons' (XO3 base) (XmL.cons' (XO4 base) (XmL.nil'))))
  have TP : PlL K mg pn [C0] := PlL.cons' (PySem.W.mg_of X G aC0) X0 (PlL.nil')
  have TS : SbL K (fun c => ([C0] ++ [C1, C2, C3, C4] : List Addr).getD c 0) sbs := SbL.cons' sb0_0 (SbL.cons' sb0_1 (SbL.cons' sb0_2 (SbL.cons' sb0_3 (SbL.cons' sb0_4 (SbL.nil')))))
  have TMt : MtL K (fun c => ([C0] ++ [C1, C2, C3, C4] : List Addr).getD c 0) (fun f => ([f0, f1, f2, f3, f4, f5, f6, f7, f8, f9, f10, f11, f12, f13, f14, f15, f16, f17, f18, f19, f20, f21, fa, f23, f24, f25, f26, f27, f28, f29, f30, f31] : List Addr).getD f 0) ds.length mts := MtL.cons' a26 mm26 k26 (by decide) (MtL.cons' a27 mm27 k27 (by decide) (MtL.cons' a28 mm28 k28 (by decide) (MtL.cons' a29 mm29 k29 (by decide) (MtL.cons' a30 mm30 k30 (by decide) (MtL.cons' a31 mm31 k31 (by decide) (MtL.nil'))))))
  have TI : InL K (fun c => ([C0] ++ [C1, C2, C3, C4] : List Addr).getD c 0) (fun f => ([f0, f1, f2, f3, f4, f5, f6, f7, f8, f9, f10, f11, f12, f13, f14, f15, f16, f17, f18, f19, f20, f21, fa, f23, f24, f25, f26, f27, f28, f29, f30, f31] : List Addr).getD f 0) ds.length ins := InL.cons' mk0 a23 mf0 mq0 (by decide) (InL.nil')
  have T := txf_p (k := (⟨K, (fun c => ([C0] ++ [C1, C2, C3, C4] : List Addr).getD c 0), fun _ _ _ => False, KdF K w⟩ : Kt)) (T := tab) (ds := ds) (pn := pn) (xn := xn) (ps := [C0]) (xs := [C1, C2, C3, C4]) (gls := gls) (xfs := xfp pn.length xfs) (fls := fls) (xss := xss) (sbs := sbs) (mts := mts) (ins := ins) (f0 := PySem.W.fnOf "law" "law" (defArgs s_law) (defBody s_law) (defScope s_law) .none kV22 dc22 pm22 an22 cd22 ct22) rfl rfl rfl rfl rfl rfl rfl rfl TD TF TN TG TP TC TFd TX (by decide) TS (by decide +kernel) TMt TI hn tk
  exact ⟨_, _, rfl, fun s u => .of_eq rfl, fun base _ _ => (tok (base := base) (fun a ps h => h) T (xm_p (k := (⟨K, (fun c => ([C0] ++ [C1, C2, C3, C4] : List Addr).getD c 0), fun _ _ _ => False, KdF K w⟩ : Kt)) (pn := pn) (xn := xn) (ps := [C0]) (xs := [C1, C2, C3, C4]) (xfs := xfs) rfl rfl rfl TC (TM base)) 60).2 22 d_law rfl⟩
end Pf
open PySem PySem.W PyProof.Rows in
set_option maxRecDepth 100000 in
set_option maxHeartbeats 0 in
theorem PySem.Challenge.cw_eightcells_k43_clauses_told_holds : PySem.Challenge.rw_eightcells_k43_clauses_told.Holds := by
  w_on; o_law; k_head; (case hw => w_witness2)
  k_fill
  refine B.walk_law (l := PySem.Challenge.rw_eightcells_k43_clauses_told) (lv := 60) (x := "script") (g := (B.orc Pf.ds Pf.gv 60).cl 22) rfl (by decide) rfl ⟨rfl, by decide, by decide⟩ (fun w h Y => PySem.W.kIn_of Y) ?F ?run
  case run => exact fun ns hl => Pf.law_true ns hl
  case F =>
    intro w mg fa h KX G hmg
    refine' Pf.fin (l := PySem.Challenge.rw_eightcells_k43_clauses_told) (w := w) KX G hmg ?aC0 ?pg0 ?dC0 ?po0 ?sA0 ?cC0 ?oC0 ?tC0 ?sC0 ?nI0_0 ?nI0_1 ?nI0_2 ?nI0_3 ?nI0_4 ?nI0_5 ?nI0_6 ?a0 ?l0 ?c0 ?k0 ?a1 ?l1 ?c1 ?k1 ?a2 ?l2 ?c2 ?k2 ?a3 ?l3 ?c3 ?k3 ?a4 ?l4 ?c4 ?k4 ?a5 ?l5 ?c5 ?k5 ?a6 ?l6 ?c6 ?k6 ?a7 ?l7 ?c7 ?k7 ?a8 ?l8 ?c8 ?k8 ?a9 ?l9 ?c9 ?k9 ?a10 ?l10 ?c10 ?k10 ?a11 ?l11 ?c11 ?k11 ?a12 ?l12 ?c12 ?k12 ?a13 ?l13 ?c13 ?k13 ?a14 ?l14 ?c14 ?k14 ?a15 ?l15 ?c15 ?k15 ?a16 ?l16 ?c16 ?k16 ?a17 ?l17 ?c17 ?k17 ?a18 ?l18 ?c18 ?k18 ?a19 ?l19 ?c19 ?k19 ?a20 ?l20 ?c20 ?k20 ?a21 ?l21 ?c21 ?k21 ?a22 ?l22 ?c22 ?k22 ?a23 ?l23 ?c23 ?k23 ?a24 ?l24 ?c24 ?k24 ?a25 ?l25 ?c25 ?k25 ?a26 ?l26 ?c26 ?k26 ?a27 ?l27 ?c27 ?k27 ?a28 ?l28 ?c28 ?k28 ?a29 ?l29 ?c29 ?k29 ?a30 ?l30 ?c30 ?k30 ?a31 ?l31 ?c31 ?k31 ?z0 ?z1 ?z2 ?z3 ?z4 ?z5 ?z6 ?z7 ?z8 ?z9 ?z10 ?z11 ?z12 ?z13 ?z14 ?aC1 ?dC1 ?tC1 ?sC1 ?vC1 ?bC1 ?gC1 ?hC1 ?uC1 ?cC1 ?oC1 ?kC1 ?aC2 ?dC2 ?tC2 ?sC2 ?vC2 ?bC2 ?gC2 ?hC2 ?uC2 ?cC2 ?oC2 ?kC2 ?xl2 ?xr2 ?xi2 ?xt2 ?xg2 ?xc2 ?xk2 ?xn2_0 ?aC3 ?dC3 ?tC3 ?sC3 ?vC3 ?bC3 ?gC3 ?hC3 ?uC3 ?cC3 ?oC3 ?kC3 ?xl3 ?xr3 ?xi3 ?xt3 ?xg3 ?xc3 ?xk3 ?xn3_0 ?aC4 ?dC4 ?tC4 ?sC4 ?vC4 ?bC4 ?gC4 ?hC4 ?uC4 ?cC4 ?oC4 ?kC4 ?xl4 ?xr4 ?xi4 ?xt4 ?xg4 ?xc4 ?xk4 ?xn4_0 ?ss2_1 ?ss2_2 ?ss2_3 ?ss2_4 ?ss3_1 ?ss3_2 ?ss3_3 ?ss3_4 ?ss4_1 ?ss4_2 ?ss4_3 ?ss4_4 ?sb0_0 ?sb0_1 ?sb0_2 ?sb0_3 ?sb0_4 ?nf0_0 ?nf0_1 ?mk0 ?mf0 ?mq0 ?mm26 ?mm27 ?mm28 ?mm29 ?mm30 ?mm31 ?hn ?tk ?ag0
    (case aC0 => k_is)
    (case pg0 => k_is)
    (case dC0 => k_is)
    (case po0 => k_is)
    (case sA0 => k_is)
    (case cC0 => k_is)
    (case oC0 => k_is)
    (case tC0 => k_is)
    (case sC0 => k_is)
    (case nI0_0 => k_is)
    (case nI0_1 => k_is)
    (case nI0_2 => k_is)
    (case nI0_3 => k_is)
    (case nI0_4 => k_is)
    (case nI0_5 => k_is)
    (case nI0_6 => k_is)
    (case a0 => k_is)
    (case l0 => k_is)
    (case c0 => k_is)
    (case k0 => k_is)
    (case a1 => k_is)
    (case l1 => k_is)
    (case c1 => k_is)
    (case k1 => k_is)
    (case a2 => k_is)
    (case l2 => k_is)
    (case c2 => k_is)
    (case k2 => k_is)
    (case a3 => k_is)
    (case l3 => k_is)
    (case c3 => k_is)
    (case k3 => k_is)
    (case a4 => k_is)
    (case l4 => k_is)
    (case c4 => k_is)
    (case k4 => k_is)
    (case a5 => k_is)
    (case l5 => k_is)
    (case c5 => k_is)
    (case k5 => k_is)
    (case a6 => k_is)
    (case l6 => k_is)
    (case c6 => k_is)
    (case k6 => k_is)
    (case a7 => k_is)
    (case l7 => k_is)
    (case c7 => k_is)
    (case k7 => k_is)
    (case a8 => k_is)
    (case l8 => k_is)
    (case c8 => k_is)
    (case k8 => k_is)
    (case a9 => k_is)
    (case l9 => k_is)
    (case c9 => k_is)
    (case k9 => k_is)
    (case a10 => k_is)
    (case l10 => k_is)
    (case c10 => k_is)
    (case k10 => k_is)
    (case a11 => k_is)
    (case l11 => k_is)
    (case c11 => k_is)
    (case k11 => k_is)
    (case a12 => k_is)
    (case l12 => k_is)
    (case c12 => k_is)
    (case k12 => k_is)
    (case a13 => k_is)
    (case l13 => k_is)
    (case c13 => k_is)
    (case k13 => k_is)
    (case a14 => k_is)
    (case l14 => k_is)
    (case c14 => k_is)
    (case k14 => k_is)
    (case a15 => k_is)
    (case l15 => k_is)
    (case c15 => k_is)
    (case k15 => k_is)
    (case a16 => k_is)
    (case l16 => k_is)
    (case c16 => k_is)
    (case k16 => k_is)
    (case a17 => k_is)
    (case l17 => k_is)
    (case c17 => k_is)
    (case k17 => k_is)
    (case a18 => k_is)
    (case l18 => k_is)
    (case c18 => k_is)
    (case k18 => k_is)
    (case a19 => k_is)
    (case l19 => k_is)
    (case c19 => k_is)
    (case k19 => k_is)
    (case a20 => k_is)
    (case l20 => k_is)
    (case c20 => k_is)
    (case k20 => k_is)
    (case a21 => k_is)
    (case l21 => k_is)
    (case c21 => k_is)
    (case k21 => k_is)
    (case a22 => k_is)
    (case l22 => k_is)
    (case c22 => k_is)
    (case k22 => k_is)
    (case a23 => k_is)
    (case l23 => k_is)
    (case c23 => k_is)
    (case k23 => k_is)
    (case a24 => k_is)
    (case l24 => k_is)
    (case c24 => k_is)
    (case k24 => k_is)
    (case a25 => k_is)
    (case l25 => k_is)
    (case c25 => k_is)
    (case k25 => k_is)
    (case a26 => k_is)
    (case l26 => k_is)
    (case c26 => k_is)
    (case k26 => k_is)
    (case a27 => k_is)
    (case l27 => k_is)
    (case c27 => k_is)
    (case k27 => k_is)
    (case a28 => k_is)
    (case l28 => k_is)
    (case c28 => k_is)
    (case k28 => k_is)
    (case a29 => k_is)
    (case l29 => k_is)
    (case c29 => k_is)
    (case k29 => k_is)
    (case a30 => k_is)
    (case l30 => k_is)
    (case c30 => k_is)
    (case k30 => k_is)
    (case a31 => k_is)
    (case l31 => k_is)
    (case c31 => k_is)
    (case k31 => k_is)
    (case z0 => k_is)
    (case z1 => k_is)
    (case z2 => k_is)
    (case z3 => k_is)
    (case z4 => k_is)
    (case z5 => k_is)
    (case z6 => k_is)
    (case z7 => k_is)
    (case z8 => k_is)
    (case z9 => k_is)
    (case z10 => k_is)
    (case z11 => k_is)
    (case z12 => k_is)
    (case z13 => k_is)
    (case z14 => k_is)
    (case aC1 => k_is)
    (case dC1 => k_is)
    (case tC1 => k_is)
    (case sC1 => k_is)
    (case vC1 => k_is)
    (case bC1 => k_is)
    (case gC1 => k_is)
    (case hC1 => k_is)
    (case uC1 => k_is)
    (case cC1 => k_is)
    (case oC1 => k_is)
    (case kC1 => k_is)
    (case aC2 => k_is)
    (case dC2 => k_is)
    (case tC2 => k_is)
    (case sC2 => k_is)
    (case vC2 => k_is)
    (case bC2 => k_is)
    (case gC2 => k_is)
    (case hC2 => k_is)
    (case uC2 => k_is)
    (case cC2 => k_is)
    (case oC2 => k_is)
    (case kC2 => k_is)
    (case xl2 => k_is)
    (case xr2 => rfl)
    (case xi2 => k_is)
    (case xt2 => k_is)
    (case xg2 => k_is)
    (case xc2 => k_is)
    (case xk2 => k_is)
    (case xn2_0 => k_is)
    (case aC3 => k_is)
    (case dC3 => k_is)
    (case tC3 => k_is)
    (case sC3 => k_is)
    (case vC3 => k_is)
    (case bC3 => k_is)
    (case gC3 => k_is)
    (case hC3 => k_is)
    (case uC3 => k_is)
    (case cC3 => k_is)
    (case oC3 => k_is)
    (case kC3 => k_is)
    (case xl3 => k_is)
    (case xr3 => rfl)
    (case xi3 => k_is)
    (case xt3 => k_is)
    (case xg3 => k_is)
    (case xc3 => k_is)
    (case xk3 => k_is)
    (case xn3_0 => k_is)
    (case aC4 => k_is)
    (case dC4 => k_is)
    (case tC4 => k_is)
    (case sC4 => k_is)
    (case vC4 => k_is)
    (case bC4 => k_is)
    (case gC4 => k_is)
    (case hC4 => k_is)
    (case uC4 => k_is)
    (case cC4 => k_is)
    (case oC4 => k_is)
    (case kC4 => k_is)
    (case xl4 => k_is)
    (case xr4 => rfl)
    (case xi4 => k_is)
    (case xt4 => k_is)
    (case xg4 => k_is)
    (case xc4 => k_is)
    (case xk4 => k_is)
    (case xn4_0 => k_is)
    (case ss2_1 => k_is)
    (case ss2_2 => k_is)
    (case ss2_3 => k_is)
    (case ss2_4 => k_is)
    (case ss3_1 => k_is)
    (case ss3_2 => k_is)
    (case ss3_3 => k_is)
    (case ss3_4 => k_is)
    (case ss4_1 => k_is)
    (case ss4_2 => k_is)
    (case ss4_3 => k_is)
    (case ss4_4 => k_is)
    (case sb0_0 => k_is)
    (case sb0_1 => k_is)
    (case sb0_2 => k_is)
    (case sb0_3 => k_is)
    (case sb0_4 => k_is)
    (case nf0_0 => k_is)
    (case nf0_1 => k_is)
    (case mk0 => k_is)
    (case mf0 => k_is)
    (case mq0 => k_is)
    (case mm26 => k_is)
    (case mm27 => k_is)
    (case mm28 => k_is)
    (case mm29 => k_is)
    (case mm30 => k_is)
    (case mm31 => k_is)
    (case hn => k_is)
    (case tk => k_is)
    (case ag0 => k_is)
