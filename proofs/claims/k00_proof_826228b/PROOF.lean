import PyProof.Rows.All
import Wide.All
import OpenK.AllK
import Wide.FinOn
import HandS.ExcInit
import HandS.ForExc
import KE.KExcInit
import HandS.Exc
import HandS.ExcField
import HandS.TryMany
import PyProof.ReprReads
import PyProof.ReprRoads
import PyProof.CallFns
import HandS.Ends
import HandS.ForMost
import HandS.IsInst
import HandS.Wide
import HandS.StrMore
import HandS.Star
import HandS.Style
import Wide.Txt
import KE.GoesNew
import KE.GoesEnum
import HandS.Walk
import KE.LtData
import HandS.GenList
import HandS.ExcIs
import HandS.HotCalls
import HandS.WordsList
import HandS.RaiseMore
import HandS.Lambda
import PyProof.FitsInt
import PyProof.StrLawsRepr
import HandS.TupAny
import HandS.Conv
import PySem.Challenge.RW_mayrows_k00_whole_errors
set_option Elab.async false
set_option linter.all false
set_option maxRecDepth 100000
set_option maxHeartbeats 4000000
/-! Own classes over KeyError: it is LookupError that makes them. -/
namespace Ks
open PySem PySem.Spec PySem.F HandSPX Builtin Builtin.ObjectAttr
abbrev keyB : List Value := [.type "KeyError", .type "LookupError", .type "Exception", .type "BaseException", .type "object"]
theorem storeKey : StoreFacts "KeyError" keyB "object.__setattr__" "object" := by
  refine { mro := ?mro, slot := ?slot, entry := entry_object_sa, kind := ?kind, split := ?split, hasOwner := ?hasOwner, args := ?args, passes := ?passes }
  case mro => kernel_rfl
  case slot =>
    refine .of (owner := "object") (n := "__setattr__") ?_ ?_ ?_ ?_ ?_ ?_
    · rw [typeLookup_type, builtinLookup_eq_fast]; kernel_rfl
    · decide +kernel
    · decide +kernel
    · decide +kernel
    · first | exact .inl (by decide +kernel) | exact .inr (by decide +kernel)
    · rw [isSubtype_type]; kernel_rfl
  case kind => decide +kernel
  case split => decide +kernel
  case hasOwner => decide +kernel
  case args => exact fun a b c => by unfold argsOk; kernel_rfl
  case passes => exact fun self => by kernel_rfl
section
variable {M : Model} {A : Around} {E : Value → Shared → Prop} {h : Heap} {g : Array GenState} {d : Drawn} {t : Nat} {os : OsState}
variable {nm q : Str} {C N : Addr} {bs bm bmB : List Value} {hdct : Bool} {sn : List Str} {sub : List Value} {ab : Bool} {col : Option Bool} {dd : Option Addr} {k0 k1 k2 k3 k5 : Option Value} {B O newId initId : String}
/-- a class of errors whose maker stands at an elder one, whose facts are told for the elder one's own ancestors -/
theorem check_elder {bmO : List Value} (F : ExcBaseFacts O newId initId bmO) (hO : bm.contains (.type O) = true) {rest : List Value} {Q : Unit → Shared → Prop}
    (hC : h.get? C = some (excClassObj nm q C N bs bm hdct sn sub ab col dd k0 k1 k2 k3 k5 newId)) (hq : Q () ⟨h, g, d, t, os⟩) : wpAny M A (checkBuiltinCall newId ⟨.ref C :: rest, []⟩) Q E ⟨h, g, d, t, os⟩ := by
  have isO : (Value.ref C :: bm).contains (.type O) = true := by rw [List.contains_cons, hO, Bool.or_true]
  have quick := F.noStar
  simp only [checkBuiltinCall, F.newKind, F.newSplit, F.newRow]
  repeat first
    | (refine wpAny_loadPart_at hC ?_)
    | (refine wpAny_isSubtype_exc hC ?_; rw [isO])
    | (refine wpAny_staticBase_exc hC ?_)
    | (refine wpAny_madeBy_exc hC ?_)
    | (simp only [bne_self_eq_false, Bool.false_eq_true, if_false])
    | wp_step
  exact hq
end
section
variable {prog : Program} {w : World} {A : Around} {E : Value → Shared → Prop} {R : Result → Shared → Prop} {h : Heap} {g : Array GenState} {d : Drawn} {t : Nat} {os : OsState}
variable {nm q : Str} {C N : Addr} {bs bm bmO : List Value} {hdct : Bool} {sn : List Str} {sub : List Value} {ab : Bool} {col : Option Bool} {dd : Option Addr} {k0 k1 k2 k3 k5 : Option Value} {O newId initId : String}
theorem new_elder (F : ExcBaseFacts O newId initId bmO) (hO : bm.contains (.type O) = true) (nA : bm.contains (.type "AttributeError") = false) (nN : bm.contains (.type "NameError") = false) {rest : List Value}
    (hC : h.get? C = some (excClassObj nm q C N bs bm hdct sn sub ab col dd k0 k1 k2 k3 k5 newId))
    (hq : R (.ok (.ret (.ref (h.objs.size + 1)))) ⟨(h.push (W.kdv_tup rest)).push (excO C h.objs.size), g, d, t, os⟩) (hrest : rest.length ≤ sizeLine) :
    codeAny (model prog w) A (.builtin newId ⟨.ref C :: rest, []⟩) R ⟨h, g, d, t, os⟩ := by
  have last := F.ends
  have isO : (Value.ref C :: bm).contains (.type O) = true := by rw [List.contains_cons, hO, Bool.or_true]
  have isA : (Value.ref C :: bm).contains (.type "AttributeError") = false := by rw [List.contains_cons, nA] <;> rfl
  have isN : (Value.ref C :: bm).contains (.type "NameError") = false := by rw [List.contains_cons, nN] <;> rfl
  refine codeAny_builtinAt F.entry ?_
  unfold Builtin.«BaseException.__new__»
  refine wpAt_bind ?_
  show wpAt _ _ _ (stack >>= _) _ _ _
  refine wpAt_bind (wpAt_stack fun here under => wpAt_of_wpAny ?_)
  wp_walk
  refine wpAt_of_wpAny ?_
  rw [F.owner]
  repeat first
    | (with_reducible refine wpAny_madeHere_exc F.canon hC ?_)
    | (with_reducible refine wpAny_loadPart_at hC ?_)
    | (with_reducible refine wpAny_isSubtype_exc hC ?_; first | rw [isO] | rw [isA] | rw [isN])
    | wp_step
  show R _ _
  rw [Heap.size_push]
  exact hq
theorem type_elder (F : ExcBaseFacts O newId initId bmO) (hO : bm.contains (.type O) = true) (nA : bm.contains (.type "AttributeError") = false) (nN : bm.contains (.type "NameError") = false) {rest : List Value} {fI : Addr} {Q : PySem.Fin → Shared → Prop}
    (hC : h.get? C = some (excClassObj nm q C N bs bm hdct sn sub ab col dd k0 k1 k2 k3 k5 newId))
    (hi : W.Looks (model prog w) h (typeLookup (.ref C) "__init__") (some (.ref fI))) (hb : ∀ self, W.Looks (model prog w) h (bindSpecial (.ref fI) self) (.ref fI, [self])) (hrest : rest.length ≤ sizeLine)
    (hq : codeAny (model prog w) A (.call (.ref fI) ⟨.ref (h.objs.size + 1) :: rest, []⟩)
      (fun r s' => match r with | .ok (.ret v) => v = .none ∧ Q (.done (.ret (.ref (h.objs.size + 1)))) s' | .ok _ => False | .error e => E e s')
      ⟨(h.push (W.kdv_tup rest)).push (excO C h.objs.size), g, d, t, os⟩) :
    wpAny (model prog w) A (Builtin.«type.__call__» ⟨.ref C :: rest, []⟩) Q E ⟨h, g, d, t, os⟩ := by
  repeat first
    | (with_reducible refine wpAny_loadPart_at hC ?_)
    | (with_reducible refine wpAny_madeBy_exc hC ?_)
    | wp_step
  refine codeAny_call_builtin_code (Code.quiet_builtin _ F.quiet) (check_elder F hO hC ?_)
  refine new_elder F hO nA nN hC ?_ hrest
  show wpAny _ _ _ _ _ _
  have keep : ∀ b o, h.get? b = some o → ((h.push (W.kdv_tup rest)).push (excO C h.objs.size)).get? b = some o := fun b o e => Heap.get?_push_of_some _ (Heap.get?_push_of_some _ e)
  have hC2 := keep _ _ hC
  have made : ((h.push (W.kdv_tup rest)).push (excO C h.objs.size)).get? (h.objs.size + 1) = some (excO C h.objs.size) := by heap_get
  have isC : (Value.ref C :: bm).contains (.ref C) = true := by simp
  have i2 := hi.keeps keep
  have b2 := (hb (.ref (h.objs.size + 1))).keeps keep
  unfold isInstance
  repeat first
    | (with_reducible refine wpAny_loadPart_at made ?_)
    | (with_reducible refine wpAny_isSubtype_exc hC2 ?_; rw [isC])
    | wp_step
  show wpAny _ _ (typeLookup (.ref C) _) _ _ _
  refine i2.at ?_
  refine wpAny_holding (wpAny_bind (b2.at ?_))
  refine wpAny_bind (wpAny_call (codeAny_mono hq fun r s' z => ?_))
  rcases r with e | (v | _ | _ | _) <;> first | exact z | exact z.elim | skip
  obtain ⟨rfl, z⟩ := z
  first
    | exact wpAny_pure (wpAny_pure z)
    | (wp_walk; exact z)
theorem call_elder (F : ExcBaseFacts O newId initId bmO) (hO : bm.contains (.type O) = true) (nA : bm.contains (.type "AttributeError") = false) (nN : bm.contains (.type "NameError") = false) {rest : List Value} {fI : Addr}
    (hC : h.get? C = some (excClassObj nm q C N bs bm hdct sn sub ab col dd k0 k1 k2 k3 k5 newId))
    (hi : W.Looks (model prog w) h (typeLookup (.ref C) "__init__") (some (.ref fI))) (hb : ∀ self, W.Looks (model prog w) h (bindSpecial (.ref fI) self) (.ref fI, [self])) (hrest : rest.length ≤ sizeLine)
    (hq : codeAny (model prog w) (A.under (.builtin "type.__call__" ⟨.ref C :: rest, []⟩)) (.call (.ref fI) ⟨.ref (h.objs.size + 1) :: rest, []⟩) (W.InitBack (h.objs.size + 1) R)
      ⟨(h.push (W.kdv_tup rest)).push (excO C h.objs.size), g, d, t, os⟩) :
    codeAny (model prog w) A (.call (.ref C) ⟨rest, []⟩) R ⟨h, g, d, t, os⟩ := by
  have look := tc_lookup
  have bound := tc_bind (.ref C)
  have isT : (⟨h, g, d, t, os⟩ : Shared).TypeIs (.ref C) "type" := ⟨_, hC, rfl⟩
  refine codeAny_of_tree ?_
  show wpAny _ _ (callAny (.ref C) _) _ _ _
  repeat any_goals first
    | assumption
    | (with_reducible refine wpAny_loadPart_at hC ?_)
    | wp_step
  refine ⟨rfl, ?_⟩
  refine codeAny_call_builtin_at (Code.quiet_builtin _ (by decide +kernel)) entry_typeCall (wpAny_check_type_call_sub hC (type_elder F hO nA nN hC hi hb hrest ?_))
  refine codeAny_mono hq fun r s' z => ?_
  rcases r with e | (v | _ | _ | _) <;> exact z
end
end Ks

/-! Own exception classes over any built-in base, whose __init__ keeps one value. -/
namespace Ks
open PySem PySem.Spec PyProof.Rows L2
open PySem.W (excOver takerIn excTail osa_openX)

/-- what is known of such a class -/
structure ECls (K : PySem.W.Frag) (C : Addr) (B : String) (bmB : List Value) (newId initId : String) : Prop where
  made : ∃ nm q N bs bm sn sub ab col dd k0 k1 k2 k3 k5, K.lookup C = some (excClassObj nm q C N bs bm true sn sub ab col dd k0 k1 k2 k3 k5 newId) ∧ excTail bmB bm = true
  fc : ∃ O bmO, ExcBaseFacts O newId initId bmO ∧ bmB.contains (.type O) = true ∧ bmB.contains (.type "AttributeError") = false ∧ bmB.contains (.type "NameError") = false
  fs : StoreFacts B bmB "object.__setattr__" "object"
  sa : PySem.W.findIn K (.ref C) "__setattr__" = some (some (.builtin "object.__setattr__"))
  eb : PySem.W.subIn K (.ref C) (.type "BaseException") = some true
  ty : PySem.W.typeIn K (.ref C) = some (.type "type")
  kp : PySem.W.keepIn K (.ref C) = true
  hd : PySem.W.hasDictIn K C = true

theorem ECls.over {K : PySem.W.Frag} {C : Addr} {B : String} {bmB : List Value} {newId initId : String} (T : ECls K C B bmB newId initId) : excOver K C bmB = true := by
  obtain ⟨nm, q, N, bs, bm, sn, sub, ab, col, dd, k0, k1, k2, k3, k5, hC, ht⟩ := T.made
  unfold excOver PySem.W.clsIn
  rw [hC]
  show (C == C && excTail bmB bm) = true
  rw [ht, Bool.and_true]
  exact beq_self_eq_true C

theorem taker_none {K : PySem.W.Frag} {C : Addr} {f : Str} (h : PySem.W.findIn K (.ref C) f = some none) : takerIn K C f = some none := by
  unfold takerIn
  rw [h]
  rfl

section
variable {prog : Program} {w : World} {A : Around} {R : Result → Shared → Prop} {s : Shared} {K : PySem.W.Frag} {C x t : Addr} {B newId initId : String} {bmB : List Value}
/-- the first field of a fresh exception -/
theorem first_field {name : Str} {tk : Tok} {v : Value} (T : ECls K C B bmB newId initId) (X : K.In s.heap) (hx : s.heap.get? x = some (PySem.W.excObj C t none .none)) (hf : PySem.W.findIn K (.ref C) name = some none)
    (hq : ∀ h' tk' dx, (∀ b o, b ≠ x → s.heap.get? b = some o → h'.get? b = some o) → s.heap.objs.size ≤ dx → dx ≠ x → h'.get? x = some (PySem.W.excObj C t (some dx) .none) →
      h'.Ns1 dx (fun y => if y = name then some v else none) → R (.ok (.ret .none)) { s with heap := h', toks := tk' }) :
    codeAny (model prog w) A (.call (.builtin "object.__setattr__") ⟨[.ref x, .str name tk, v], []⟩) R s := by
  have lt := Heap.lt_size hx
  have ne : x ≠ s.heap.objs.size := Nat.ne_of_lt lt
  refine osa_openX (od := none) (r := none) T.fs X ⟨hx, rfl, rfl, trivial⟩ T.over (taker_none hf) fun b => ?_
  obtain ⟨cd, hc, hd'⟩ := PySem.W.any_some T.hd
  refine wpAny_bind (wpAny_pure (wpAny_bind (PySem.W.instanceDict_exc hx (PySem.W.looks_clsIn X hc) hd' ?_)))
  show wpAny _ _ (Builtin.ObjectAttr.storeInDict s.heap.objs.size (.str name tk) name v) _ _ _
  have hx1 : (s.heap.push (PySem.W.dictOf [] 0)).get? x = some (PySem.W.excObj C t none .none) := Heap.get?_push_of_some _ hx
  have hx2 : ((s.heap.push (PySem.W.dictOf [] 0)).update x fun o => { o with dict := some s.heap.objs.size }).get? x = some (PySem.W.excObj C t (some s.heap.objs.size) .none) := Heap.get?_update_self _ hx1 rfl
  refine HandSPX.store_in_new ?_ ?_
  · refine ⟨_, #[], _, (Heap.get?_update_ne _ _ _ _ (Ne.symm ne)).trans (Heap.get?_push_size _ rfl), rfl, ?_⟩
    exact ⟨fun e he => absurd he (by simp), fun _ => rfl⟩
  · intro h' tk' hn sb
    refine hq h' tk' s.heap.objs.size (fun b o hb ho => ?_) (Nat.le_refl _) (Ne.symm ne) ((sb.2 x ne).trans hx2) hn
    have hbs : b ≠ s.heap.objs.size := Nat.ne_of_lt (Heap.lt_size ho)
    exact (sb.2 b hbs).trans ((Heap.get?_update_ne _ _ _ _ hb).trans (Heap.get?_push_of_some _ ho))
end
end Ks

namespace Ks
open PySem PySem.Spec L2
open PyProof.Rows hiding St

section
variable {X : Cx} {C : Addr} {B newId initId : String} {bmB : List Value} {f : Str}
/-- self.f = e within such an __init__ -/
def tKeep (C : Addr) (f : Str) (to te : TE) : TS := fun D σ H => te σ H fun y H1 => to σ H1 fun x H2 => ∃ a, x = .ref a ∧ H2 a = some (exo a C none) ∧
  ∀ dx, H2 dx = none → dx ≠ a → D.nx σ (upd (upd H2 dx (exd dx [(f, y)])) a (exo a C (some dx)))

theorem keep_inv {pins : List (Addr × Obj)} {σ : St} {H : Hp} {s : Shared} {a : Addr} {y : V} {u : Value} {Q : Unit → Shared → Prop} {E : Value → Shared → Prop} {A : Around} (T : ECls X.K C B bmB newId initId) (I : Inv X pins σ H s)
    (ea : H a = some (exo a C none)) (hno : PySem.W.findIn X.K (.ref C) f = some none) (ry : RelV y u)
    (go : ∀ dx s', H dx = none → dx ≠ a → Inv X pins σ (upd (upd H dx (exd dx [(f, y)])) a (exo a C (some dx))) s' → Q () s') :
    wpAny (model X.prog X.w) A (setAttr (.ref a) f u) Q E s := by
  obtain ⟨t1, ho⟩ := exo_at I.hok ea
  refine PySem.W.set_plain I.kIn (ox := PySem.W.excObj C t1 none .none) (od := none) ⟨ho, rfl, rfl, trivial⟩ T.sa ?_
  refine first_field T I.kIn ho hno (fun h' tk dx keep fresh ne ex ns => ?_)
  have free := I.hok.fresh fresh
  have old : ∀ {b : Addr} {o : Obj}, s.heap.get? b = some o → b ≠ dx := fun {b o} q => Nat.ne_of_lt (Nat.lt_of_lt_of_le (Heap.lt_size q) fresh)
  have off : ∀ {b : Addr}, H b = none → b ≠ a := fun {b} n z => by
    subst z
    rw [ea] at n
    exact nomatch n
  have U : Un X.fs [] H (upd (upd H dx (exd dx [(f, y)])) a (exo a C (some dx))) s.heap h' := by
    refine ⟨fun b o q n _ _ => keep b o (off n) q, fun b o q n _ _ => ⟨o.slots, keep b o (off n) q⟩, fun b o q n _ => ?_, fun b o q _ => ?_, fun b xs q => ?_, fun b o v q => ?_, fun b ps q => ?_⟩
    · rw [upd_ne (off n), upd_ne (old q)]
      exact n
    · by_cases hb : b = a
      · subst hb
        exact ⟨_, ex⟩
      · exact ⟨o, keep b o hb q⟩
    · rw [upd_ne (at_ne ea q exo_tup), upd_ne (ne_of_none q free)]
      exact q
    · rw [upd_ne (at_ne ea q exo_frz), upd_ne (ne_of_none q free)]
      exact q
    · refine ⟨#[], ?_⟩
      rw [upd_ne (at_ne ea q exo_tbl), upd_ne (ne_of_none q free), q]
      simp
  refine go dx _ free ne (I.un (t' := tk) U fun b o q => ?_)
  by_cases hb : b = a
  · subst hb
    rw [upd_same] at q
    cases q
    exact exo_ok ex
  · rw [upd_ne hb] at q
    by_cases hd : b = dx
    · subst hd
      rw [upd_same] at q
      cases q
      exact exd_ok ns (relO_put (fs := []) ry fun _ => True.intro)
    · rw [upd_ne hd] at q
      have na : ∀ {c : Addr}, H c = some (.own b) → c ≠ a := fun {c} hc => at_ne ea hc exo_own
      refine (I.hok b o q).stay (fun c v hc z => keep c v ?_ z) (fun c hc => ?_) (fun c xs hc => ?_)
      · rcases hc with rfl | hc
        · exact hb
        · exact na hc
      · rw [upd_ne (na hc), upd_ne (ne_of_none hc free)]
        exact hc
      · rw [upd_ne (at_ne ea hc exo_tup), upd_ne (ne_of_none hc free)]
        exact hc

theorem ps_keep {o e : Expr} {to te : TE} {p' pos : Pos} (T : ECls X.K C B bmB newId initId) (hno : PySem.W.findIn X.K (.ref C) f = some none) (ho : PE X o to) (he : PE X e te)
    (hs : swapsWith e (some (.Attribute o f p')) pos.line X.env = pure false := by rfl) : PS X (.Assign [.Attribute o f p'] e pos) (tKeep C f to te) := by
  constructor
  intro pins s σ H D I h
  refine plainObj_wpAny_Assign_Attribute (thn (he.run pins s σ H _ I h) ?_) hs
  rintro v s1 ⟨y, H1, I1, r1, q1⟩
  refine thn (ho.run pins s1 σ H1 _ I1 q1) ?_
  rintro u s2 ⟨x, H2, I2, r2, a, ex, ea, q⟩
  subst ex
  cases (show u = Value.ref a from r2)
  exact keep_inv T I2 ea hno r1 fun dx s' n ne J => ⟨σ, _, J, q dx n ne⟩

/-- the promise of such an __init__ -/
def spKeep (C : Addr) (f : Str) : Sp := fun vs H Q _ => ∃ a y, vs = [.ref a, y] ∧ H a = some (exo a C none) ∧ ∀ dx, H dx = none → dx ≠ a → Q .non (upd (upd H dx (exd dx [(f, y)])) a (exo a C (some dx)))

/-- C(e): an exception that keeps e's value -/
def tMade (C : Addr) (f : Str) (ta : TA) : St → Hp → XK → Prop := fun σ H Q => ta σ H fun vs H1 => ∃ y, vs = [y] ∧ ∀ d, H1 d = none → Q (.ref C) (some d) (upd H1 d (.xd [(f, y)]))

theorem gone_eq {H : Hp} {a d : Addr} {u v w : HO} {z : HO} (ha : H a = none) (hd : d ≠ a) : upd (del (upd (upd (upd H a z) d u) a v) a) d w = upd H d w := by
  funext b
  by_cases h1 : b = d
  · rw [h1, upd_same, upd_same]
  · rw [upd_ne h1, upd_ne h1]
    by_cases h2 : b = a
    · rw [h2, del_same, ha]
    · rw [del_ne h2, upd_ne h2, upd_ne h1, upd_ne h2]

theorem pmk_keep {CX : CXT} {x : Str} {fI : Addr} {k : Nat} {fd : FuncData} {ps : List Str} {e : Expr} {ta : TA} {p pos : Pos} (T : ECls X.K C B bmB newId initId) (iC : PySem.W.findIn X.K (.ref C) "__init__" = some (some (.ref fI)))
    (tI : PySem.W.typeIn X.K (.ref fI) = some (.type "function")) (F1 : FnOk X.prog X.w X.K X.mg X.base CX k fI fd ps (spKeep C f)) (hr : Room (k + 1) X.A) (hb : Binds X.K fd ps []) (hx : Passes CX X (fun _ _ _ => False))
    (hg : Gl X x) (hm : X.mg x = some (.ref C)) (ha : PA X [e] ta) (hdb : (x == ("__debug__" : Str)) = false := by decide)
    (hst : starEach [e] X.env = (false, eval e X.env) :: starEach [] X.env := by rfl) (hpl : (backTo pos (starEach [] X.env)).any (·.1) = false := by rfl) :
    PMk X (.Call (.Name x p) [e] [] pos) (tMade C f ta) := by
  intro pins s σ H Q I h
  obtain ⟨nm, q, N, bs, bm, sn, sub, ab, col, dd, k0, k1, k2, k3, k5, hC, ht⟩ := T.made
  have hT : ∀ Y : String, bm.contains (.type Y) = bmB.contains (.type Y) := fun Y => PySem.W.excTail_contains Y bm ht
  refine wpAny_Call_Name_kw (ld_glob I hg hm ?_ hdb)
  refine PySem.W.callWith_K (h₀ := X.base) I.ok.mod.kin T.kp (thn (ha.run pos pins s σ H _ I h) ?_) hst hpl
  rintro us s1 ⟨vs, H1, I1, r1, y, ev, q1⟩
  subst ev
  refine ⟨I1.kIn, ?_⟩
  show wpAny _ _ (call (.ref C) us) _ _ _
  obtain ⟨hp, g, dr, tk, os⟩ := s1
  have sz : hp.objs.size ≤ hp.objs.size + 1 := Nat.le_succ _
  have hn : H1 (hp.objs.size + 1) = none := I1.hok.fresh sz
  have kk : ∀ b o, hp.get? b = some o → ((hp.push (PySem.W.kdv_tup us)).push (HandSPX.excO C hp.objs.size)).get? b = some o := fun b o e => Heap.get?_push_of_some _ (Heap.get?_push_of_some _ e)
  have at1 : ((hp.push (PySem.W.kdv_tup us)).push (HandSPX.excO C hp.objs.size)).get? (hp.objs.size + 1) = some (HandSPX.excO C hp.objs.size) := by heap_get
  have I2 := I1.laid (t' := tk) (a := hp.objs.size + 1) (o := exo (hp.objs.size + 1) C none) (h' := (hp.push (PySem.W.kdv_tup us)).push (HandSPX.excO C hp.objs.size)) kk sz (exo_ok at1)
  have r2 : Vals [V.ref (hp.objs.size + 1), y] (Value.ref (hp.objs.size + 1) :: us) := .cons rfl r1
  have hsp : spKeep C f [V.ref (hp.objs.size + 1), y] (upd H1 (hp.objs.size + 1) (exo (hp.objs.size + 1) C none))
      (fun v H2 => v = .non ∧ ∃ d, H2 (hp.objs.size + 1) = some (exo (hp.objs.size + 1) C (some d)) ∧ H2 d = some (exd d [(f, y)]) ∧ H1 d = none ∧ Q (.ref C) (some d) (upd (del H2 (hp.objs.size + 1)) d (.xd [(f, y)]))) (fun _ _ _ => False) := by
    refine ⟨_, y, rfl, upd_same, fun d hd ne => ⟨rfl, d, upd_same, ?_, ?_, ?_⟩⟩
    · rw [upd_ne ne, upd_same]
    · rw [upd_ne ne] at hd
      exact hd
    · rw [gone_eq hn ne]
      refine q1 d ?_
      rw [upd_ne ne] at hd
      exact hd
  have hl : (Value.ref (hp.objs.size + 1) :: us).length = ps.length := by
    rw [← F1.len _ _ _ _ hsp, ← r2.length]
  have us1 : us.length ≤ sizeLine := by
    rw [← Paired.length r1, sizeLine_eq]
    exact (by decide : 1 ≤ 16777216)
  have bb := hb _ (Value.ref (hp.objs.size + 1) :: us) I2.kIn (by rw [List.append_nil]; exact hl)
  rw [List.append_nil] at bb
  obtain ⟨O, bmO, fc, hO, nA, nN⟩ := T.fc
  refine wpAny_call (call_elder fc ((hT O).trans hO) ((hT _).trans nA) ((hT _).trans nN) (I1.kIn _ _ hC) (PySem.W.looks_findIn I1.kIn iC) (fun self => PySem.W.bind_fn I1.kIn self tI) us1
    (codeAny_mono (F1.run _ X.stack _ _ ⟨Value.ref (hp.objs.size + 1) :: us, []⟩ (Value.ref (hp.objs.size + 1) :: us) _ _ (fun _ _ _ => False) (hr.make C us []) (I2.env0.make C us []) bb r2 hsp) fun r s' hq => ?_))
  cases r with
  | error er => exact hx pins σ _ _ er s' I2 hq
  | ok fl =>
    cases fl with
    | next => exact hq.elim
    | brk => exact hq.elim
    | cont => exact hq.elim
    | ret u =>
      obtain ⟨v, H2, o2, b2, un2, hok2, rv, ev, d, ea, ed, hd1, q2⟩ := hq
      subst ev
      obtain ⟨h2, g2, d2, t2, o3⟩ := s'
      exact ⟨rv, mk_end (raises_own T.eb T.ty) I1 sz kk un2 hok2 o2 b2 ea ed hd1 q2⟩
end
end Ks

/-! try with several clauses, each with a name or without one. -/
namespace Ks
open PySem PySem.Spec L2
open PyProof.Rows hiding St

/-- behind a clause with a name the slot is empty -/
def endsAs (i : Nat) (D : Ends) : Ends := { nx := fun σ' H' => D.nx (σ'.set i none) H', rt := D.rt, bk := fun σ' H' => D.bk (σ'.set i none) H', ct := fun σ' H' => D.ct (σ'.set i none) H' }
/-- a clause: its class, the slot of its name, its suite -/
structure Clause where
  cls : Value
  slot : Option Nat
  suite : Addr → Value → Option Addr → TS
def Clause.wish (k : Clause) (a : Addr) (cls : Value) (d : Option Addr) (D : Ends) (σ : St) (H : Hp) : Prop := match k.slot with
  | none => k.suite a cls d D σ H
  | some i => k.suite a cls d (endsAs i D) (σ.set i (some (.ref a))) H
def wCatch (K : PySem.W.Frag) (Wout : WX) (D : Ends) : List Clause → WX
  | [] => Wout
  | k :: r => fun cls d σ H => ∃ b, PySem.W.exmOne K cls k.cls = some b ∧ (b = true → ∀ a, H a = none → k.wish a cls d D σ H) ∧ (b = false → wCatch K Wout D r cls d σ H)

inductive ClausesOk (X : Cx) : List ExceptHandler → List Clause → Prop
  | nil : ClausesOk X [] []
  | bare {x : Str} {c : Value} {ts : Addr → Value → Option Addr → TS} {b : Stmt} {bs : List Stmt} {np pp : Pos} {hs : List ExceptHandler} {l : List Clause} (nm : Names X x c)
      (su : ∀ (a : Addr) (oe : Obj) (cls : Value) (d : Option Addr) (pn : List (Addr × Obj)), Zc cls d oe → (∃ vs, oe.data = .fields vs) → PSs (X.suite a ((a, oe) :: pn)) (b :: bs) (ts a cls d))
      (more : ClausesOk X hs l) : ClausesOk X (.ExceptHandler (some (.Name x np)) none (b :: bs) pp :: hs) (⟨c, none, ts⟩ :: l)
  | named {x n : Str} {i : Nat} {c : Value} {ts : Addr → Value → Option Addr → TS} {b : Stmt} {bs : List Stmt} {np pp : Pos} {hs : List ExceptHandler} {l : List Clause} (nm : Names X x c)
      (hi : X.N[i]? = some n) (loc : X.env.kindOf n = some .local)
      (su : ∀ (a : Addr) (oe : Obj) (cls : Value) (d : Option Addr) (pn : List (Addr × Obj)), Zc cls d oe → (∃ vs, oe.data = .fields vs) → PSs (X.suite a ((a, oe) :: pn)) (b :: bs) (ts a cls d))
      (more : ClausesOk X hs l) : ClausesOk X (.ExceptHandler (some (.Name x np)) (some n) (b :: bs) pp :: hs) (⟨c, some i, ts⟩ :: l)

section
variable {X : Cx} {body : List Stmt} {h0 : ExceptHandler} {hr : List ExceptHandler} {l : List Clause} {pos : Pos} {tb : WX → TS} {Wout : WX}
theorem ps_catch (stk : X.stack = X.env :: X.outer) (fra : X.env.frame = some X.env.locals) (nd : X.N.Nodup) (tk : Takes X Wout)
    (hb : ∀ (W : WX) (pn : List (Addr × Obj)) (xe : Value → Shared → Prop), Takes (X.tr pn xe) W → PassesOwn (model X.prog X.w) X.A X.env xe → PSs (X.tr pn xe) body (tb W))
    (hk : ClausesOk X (h0 :: hr) l) : PS X (.Try body (h0 :: hr) [] [] pos) (fun D σ H => tb (wCatch X.K Wout D l) D σ H) := by
  constructor
  intro pins s σ H D I h
  have ok := I.ok
  have frs1 : X.A.frames = some (X.env :: X.outer) := by rw [ok.frames, stk]
  refine wpAny_Try_except ?_
  let xe1 : Value → Shared → Prop := fun e z1 => wpAny (model X.prog X.w) X.A (noteFrame e X.env) (fun _ z2 => wpAny (model X.prog X.w) X.A (setFlight e none) (fun _ z3 =>
    wpAny (model X.prog X.w) X.A (handleBy e X.env (h0 :: hr)) (SP X pins D) X.xe z3) X.xe z2) X.xe z1
  refine wpAny_mono ((hb (wCatch X.K Wout D l) (X.pn ++ pins) xe1 ?_ PassesOwn.looking).run [] s σ H D (I.toTry _) h) (fun f s1 hsp => ?_) (fun _ _ he => he)
  · intro u s' xx
    obtain ⟨a, B0, sI, pins1, σ1, H1, cls, d, rfl, J0, nb, up, sky, na, os, ag, w⟩ := xx
    have J : Inv X pins σ1 H1 sI := J0.ofTry ok
    rw [show (X.tr (X.pn ++ pins) xe1).stack = X.env :: X.outer from stk] at sky
    show wpAny (model X.prog X.w) X.A (noteFrame (.ref a) X.env) _ _ _
    refine Sky.land Zc.steady frs1 fra sky fun h3 fl3 up3 => ?_
    have J3 : Inv X pins σ1 H1 { s' with heap := h3 } := J.landed nb fl3.1 (up.trans up3) os ag
    obtain ⟨oe3, vs3, he3, hz3, hd3⟩ := fl3.there
    have notIn : a ∉ X.env.locals :: X.fs := fun hm => by
      have hm2 : a ∈ frs (X.env :: X.outer) := by
        unfold frs
        rw [List.filterMap_cons, fra]
        exact hm
      obtain ⟨_, o1, e1, hnf⟩ := fl3.2.2.1.mem hm2
      rw [he3] at e1
      cases e1
      exact hnf _ hd3
    have nL : a ≠ X.env.locals := fun z => notIn (z ▸ List.mem_cons_self)
    have nF : a ∉ X.fs := fun z => notIn (List.mem_cons_of_mem _ z)
    have S3 := J3.suite he3 hd3 na nL nF
    have LT : PySem.W.Looks (model X.prog X.w) h3 (typeOf (.ref a)) cls := fun A Q E s k q => wpAny_typeOf_ref (k _ _ he3) (by rw [hz3.1]; exact q)
    have named : ∀ {x : Str} {c : Value} {np : Pos} {Q : Value → Shared → Prop} {E : Value → Shared → Prop}, Names X x c → Q c { s' with heap := h3 } →
        wpAny (model X.prog X.w) (X.A.mark (some (.ref a))) (eval (.Name x np) X.env) Q E { s' with heap := h3 } := fun {x c np Q E} nm q => by
      obtain ⟨hg, hdbg, hm | ⟨hm, hv, hnn⟩⟩ := nm
      · exact ld_glob (X := X.suite a ((a, oe3) :: (X.pn ++ pins))) S3 hg hm q hdbg
      · exact ld_blt (X := X.suite a ((a, oe3) :: (X.pn ++ pins))) S3 hg hm hv q hnn hdbg
    have go : ∀ {hs2 : List ExceptHandler} {l2 : List Clause}, ClausesOk X hs2 l2 → wCatch X.K Wout D l2 cls d σ1 H1 →
        wpAny (model X.prog X.w) X.A (handleBy (.ref a) X.env hs2) (SP X pins D) X.xe { s' with heap := h3 } := by
      intro hs2 l2 hk2
      induction hk2 with
      | nil =>
        intro w
        refine wpAny_handleBy_nil ?_
        obtain ⟨_, _, _, oe, vs, T, oT, ts', he, hz, hd, h1, hrT⟩ := id fl3
        unfold PySem.passOn
        refine wpAny_bind (wpAny_field he hd h1 ?_)
        rw [if_neg (by simp)]
        have out : wpAny (model X.prog X.w) X.A (setFlight (.ref a) X.env.frame) (fun _ z4 => wpAny (model X.prog X.w) X.A (throw (.ref a) : Sem Flow) (SP X pins D) X.xe z4) X.xe { s' with heap := h3 } := by
          rw [fra]
          refine HandSPX.setFlight_upZ fl3 fun h4 hh4 up4 => wpAny_throw (tk _ _ ?_)
          exact ⟨a, B0, sI, pins, σ1, H1, cls, d, rfl, J, nb, (up.trans up3).trans up4, .inr (.inr (by rw [stk]; exact hh4)), na, os, ag, w⟩
        first
          | exact wpAny_bind (wpAny_pure (wpAny_bind out))
          | exact wpAny_bind out
      | @bare x c ts b bs np pp hs3 l3 nm su more ih =>
        intro w
        obtain ⟨t, ht, yes, no⟩ := w
        have LM := PySem.W.exm_one (M := model X.prog X.w) J3.kIn LT ht
        refine wpAny_handleBy_cons (codeAny_handlers_test (named nm (LM.here ?_))) (by intro q; cases q)
        cases t with
        | false =>
          show wpAny _ X.A (handleBy (.ref a) X.env hs3) _ _ _
          exact ih (no rfl)
        | true =>
          refine codeAny_handlers_suite ?_
          refine HandSPX.lands_againZ fl3 fun h4 fl4 up4 => ?_
          have J4 : Inv X pins σ1 H1 { s' with heap := h4 } := J.landed nb fl4.1 ((up.trans up3).trans up4) os ag
          obtain ⟨oe4, vs4, he4, hz4, hd4⟩ := fl4.there
          have S4 := J4.suite he4 hd4 na nL nF
          refine wpAny_mono ((su a oe4 cls d (X.pn ++ pins) hz4 ⟨_, hd4⟩).run [] _ _ H1 _ S4 (yes rfl a na)) (fun f s6 hsp => ?_) (fun _ _ z => z.elim)
          cases f with
          | next => exact hsp.elim fun σ6 z => z.elim fun H6 z => ⟨_, _, z.1.unsuite ok, z.2⟩
          | brk => exact hsp.elim fun σ6 z => z.elim fun H6 z => ⟨_, _, z.1.unsuite ok, z.2⟩
          | cont => exact hsp.elim fun σ6 z => z.elim fun H6 z => ⟨_, _, z.1.unsuite ok, z.2⟩
          | ret u => exact hsp.elim fun v6 z => z.elim fun σ6 z => z.elim fun H6 z => ⟨_, _, _, z.1.unsuite ok, z.2.1, z.2.2⟩
      | @named x n i c ts b bs np pp hs3 l3 nm hi loc su more ih =>
        intro w
        obtain ⟨t, ht, yes, no⟩ := w
        have LM := PySem.W.exm_one (M := model X.prog X.w) J3.kIn LT ht
        refine wpAny_handleBy_cons (codeAny_handlers_test (named nm (LM.here ?_))) (by intro q; cases q)
        cases t with
        | false =>
          show wpAny _ X.A (handleBy (.ref a) X.env hs3) _ _ _
          exact ih (no rfl)
        | true =>
          refine codeAny_handlers_suite_as ?_
          refine HandSPX.lands_againZ fl3 fun h4 fl4 up4 => ?_
          have J4 : Inv X pins σ1 H1 { s' with heap := h4 } := J.landed nb fl4.1 ((up.trans up3).trans up4) os ag
          obtain ⟨oe4, vs4, he4, hz4, hd4⟩ := fl4.there
          have S4 := J4.suite he4 hd4 na nL nF
          refine store_ok (X := X.suite a ((a, oe4) :: (X.pn ++ pins))) (v := .ref a) S4 nd hi (.inl loc) rfl (fun s5 S5 => ?_) (.inr loc)
          refine wpAny_mono ((su a oe4 cls d (X.pn ++ pins) hz4 ⟨_, hd4⟩).run [] s5 _ H1 _ S5 (yes rfl a na)) (fun f s6 hsp => ?_) (fun _ _ z => z.elim)
          have done : ∀ {σ6 : St} {H6 : Hp} {Q : Shared → Prop}, Inv (X.suite a ((a, oe4) :: (X.pn ++ pins))) [] σ6 H6 s6 → (∀ s7, Inv X pins (σ6.set i none) H6 s7 → Q s7) →
              wpAny (model X.prog X.w) X.A (do bindName X.env n .none; unbindBehindTheSuite X.env n pp) (fun _ s7 => Q s7) X.xe s6 := fun {σ6 H6 Q} S6 hq => gone_ok (S6.unsuite ok) nd hi loc hq
          cases f with
          | next => exact hsp.elim fun σ6 z => z.elim fun H6 z => done z.1 fun s7 J7 => ⟨_, _, J7, z.2⟩
          | brk => exact hsp.elim fun σ6 z => z.elim fun H6 z => done z.1 fun s7 J7 => ⟨_, _, J7, z.2⟩
          | cont => exact hsp.elim fun σ6 z => z.elim fun H6 z => done z.1 fun s7 J7 => ⟨_, _, J7, z.2⟩
          | ret u => exact hsp.elim fun v6 z => z.elim fun σ6 z => z.elim fun H6 z => done z.1 fun s7 J7 => ⟨_, _, _, J7, z.2.1, z.2.2⟩
    exact go hk w
  · cases f with
    | next => exact hsp.elim fun σ6 z => z.elim fun H6 z => wpAny_execs_nil ⟨_, _, z.1.ofTry ok, z.2⟩
    | brk => exact hsp.elim fun σ6 z => z.elim fun H6 z => ⟨_, _, z.1.ofTry ok, z.2⟩
    | cont => exact hsp.elim fun σ6 z => z.elim fun H6 z => ⟨_, _, z.1.ofTry ok, z.2⟩
    | ret u => exact hsp.elim fun v6 z => z.elim fun σ6 z => z.elim fun H6 z => ⟨_, _, _, z.1.ofTry ok, z.2.1, z.2.2⟩
end
end Ks

/-! repr of data, where nothing on the stack is being shown. -/
namespace Ks
open PySem PySem.Spec L2
open PyProof.Rows hiding St

def keyD : Key → PyData
  | .inl i => .int i
  | .inr x => .str x
def flatD : V → Option PyData
  | .non => some .none
  | .bl b => some (.bool b)
  | .int i => some (.int i)
  | .str x => some (.str x)
  | _ => none
/-- a dict of flat entries -/
inductive FlatKv : List (Key × V) → List (PyData × PyData) → Prop
  | nil : FlatKv [] []
  | cons {k : Key} {v : V} {d : PyData} {r : List (Key × V)} {ds : List (PyData × PyData)} : flatD v = some d → FlatKv r ds → FlatKv ((k, v) :: r) ((keyD k, d) :: ds)
/-- data without dicts, or one such dict -/
def Shows (K : PySem.W.Frag) (H : Hp) (x : V) (d : PyData) : Prop :=
  (Dp K H x d ∧ d.hasDict = false) ∨ ∃ a kvs ds, x = .ref a ∧ H a = some (.dK kvs) ∧ FlatKv kvs ds ∧ d = .dict ds

theorem flat_reads {h : Heap} {v : V} {d : PyData} {u : Value} (e : flatD v = some d) (r : RelV v u) : Reads h u d [] := by
  cases v with
  | non => cases e; cases r; exact .none
  | bl b => cases e; cases r; exact .bool b
  | int i => cases e; obtain ⟨t, rfl⟩ := r; exact .int i t
  | str x => cases e; obtain ⟨t, rfl⟩ := r; exact .str x t
  | byt b => cases e
  | flt b => cases e
  | ref a => cases e
  | ty n => cases e
theorem key_reads {h : Heap} {k : Key} {u : Value} (e : keyIs k u = true) : Reads h u (keyD k) [] := by
  rcases keyIs_shape e with ⟨i, t, rfl, rfl⟩ | ⟨x, t, rfl, rfl⟩
  · exact .int i t
  · exact .str x t
theorem kv_reads {P : Program} {w : World} {h : Heap} : ∀ {kvs : List (Key × V)} {vs : List (Key × Value)} {es : List DictEntry} {ds : List (PyData × PyData)}, KV kvs vs → Pairs (mixKind P w) es vs → FlatKv kvs ds →
    ReadsAll h (es.map (·.key)) (ds.map (·.1)) [] ∧ ReadsAll h (es.map (·.val)) (ds.map (·.2)) []
  | _, _, _, _, .nil, .nil, .nil => ⟨.nil, .nil⟩
  | _, _, _, _, .cons r rs, .cons hk hv ps, .cons hf fs => by
    obtain ⟨a, b⟩ := kv_reads rs ps fs
    obtain ⟨r1, r2⟩ := r
    simp only at r1 r2
    subst r1
    refine ⟨.cons (as := []) (key_reads hk) a, .cons (as := []) ?_ b⟩
    dsimp only
    rw [hv]
    exact flat_reads hf r2

section
variable {X : Cx}
def rShow (K : PySem.W.Frag) : List V → Hp → VK → Prop := fun xs H Q => ∃ x d, xs = [x] ∧ Shows K H x d ∧ d.showable = true ∧ d.depth ≤ 50 ∧ d.shown.length ≤ sizeLine ∧ Q (.str d.shown) H
theorem call_show (hg : X.A.guards = some []) (hu : X.A.units + 100 < cLine) : CallR X (.builtin "repr") (rShow X.K) := by
  intro pins s σ H xs us Q I r h
  obtain ⟨x, d, rfl, hs, sh, dp, sz, q⟩ := h
  obtain ⟨u, rfl, ru⟩ := vals1 r
  have byRef : ∀ {a : Addr} {as : List Addr}, u = .ref a → Reads s.heap u d as → (d.hasDict = true → sysModules ∉ as) → wpAny (model X.prog X.w) X.A (call (.builtin "repr") [u]) (EP X pins σ Q) X.xe s := by
    intro a as e hr hm
    subst e
    exact repr_of_reads' hr sh hm hg (by omega) (fun _ _ z => z) (fun h' u tk k => ⟨.str d.shown, H, I.kept (t' := tk) k, ⟨_, rfl⟩, q⟩) sz
  rcases hs with ⟨hd, nd⟩ | ⟨a, kvs, ds, rfl, ha, fl, rfl⟩
  · obtain ⟨as, hr⟩ := Dp.reads I d x u hd ru
    cases hd with
    | non => cases ru; exact PySem.P.repr_of_none ⟨.str _, H, I.tok _, ⟨_, rfl⟩, q⟩
    | bl b => cases ru; exact PySem.P.repr_of_bool ⟨.str _, H, I.tok _, ⟨_, rfl⟩, q⟩
    | int i => obtain ⟨t, rfl⟩ := ru; exact PySem.P.repr_of_int (of_decide_eq_true sh) ⟨.str _, H, I.tok _, ⟨_, rfl⟩, q⟩
    | str y => obtain ⟨t, rfl⟩ := ru; exact PySem.P.repr_of_str (hsz := sz) ⟨.str _, H, I.tok _, ⟨_, rfl⟩, q⟩
    | lst h1 h2 => exact byRef (show u = Value.ref _ from ru) hr (PyData.noDict_hsm nd)
    | tup h1 h2 => exact byRef (show u = Value.ref _ from ru) hr (PyData.noDict_hsm nd)
  · obtain ⟨_, nsys, vs, rkv, o, es, ep, ho, hx, hdt, hk, hp, hnd⟩ := (show ObjOk X.prog X.w H s.heap a (.dK kvs) from I.hok a _ ha)
    cases (show u = Value.ref a from ru)
    obtain ⟨ra, rb⟩ := kv_reads (h := s.heap) rkv hp fl
    refine byRef rfl (Reads.dict ho hx.1 hdt ra rb) (fun _ hm => ?_)
    simp only [List.append_nil, List.mem_singleton] at hm
    rw [hm] at nsys
    simp at nsys
end
end Ks

/-! Promises of defs that are called while nothing on the stack is being shown (repr of a list asks who is shown already). -/
namespace Ks
open PySem PySem.Spec L2
open PyProof.Rows hiding St

/-- a def's promise, kept wherever nothing is being shown -/
structure FnG (P : Program) (w : World) (K : PySem.W.Frag) (mg : Str → Option Value) (base : Heap) (CX : CXT) (k : Nat) (f : Addr) (fd : FuncData) (ps : List Str) (sp : Sp) : Prop where
  len : ∀ vs H Q E, sp vs H Q E → vs.length = ps.length
  go : ∀ (A : Around) (outer : List Env) (s : Shared) (H : Hp) (args : Args) (us : List Value) (vs : List V) (Q : VK) (E : XK), Room k A → A.guards = some [] → Env0 P w K mg base A outer s H →
    BindsTo s fd args (ps.zip us) → Vals vs us → sp vs H Q E → codeAny (model P w) A (.call (.ref f) args) (CR CX outer P w H s Q E) s

section
variable {P : Program} {w : World} {K : PySem.W.Frag} {mg : Str → Option Value} {base : Heap} {CX : CXT} {j k : Nat} {f : Addr} {fd : FuncData} {ps : List Str} {sp : Sp}
theorem FnG.ofOk (F : FnOk P w K mg base CX k f fd ps sp) : FnG P w K mg base CX k f fd ps sp := ⟨F.len, fun A outer s H args us vs Q E hr _ => F.run A outer s H args us vs Q E hr⟩
theorem FnG.mono (F : FnG P w K mg base CX j f fd ps sp) (h : j ≤ k) : FnG P w K mg base CX k f fd ps sp := ⟨F.len, fun A outer s H args us vs Q E hr => F.go A outer s H args us vs Q E (hr.mono h)⟩
end

/-- the guards stay in a def's frame -/
theorem guards_deeper {A : Around} {env : Env} (h : A.guards = some []) : (A.deeper env).guards = some [] := h

/-- a def by its body -/
theorem fng_of {CX : CXT} {P : Program} {w : World} {K : PySem.W.Frag} {mg : Str → Option Value} {base : Heap} {k : Nat} {x qual : Str} {st : Stmt} {f : Addr} {fd : FuncData} {N ps : List Str} {sp : Sp} (F : Fun K x qual st f fd) (S : FnScope N ps (defScope st))
    (len : ∀ vs H Q E, sp vs H Q E → vs.length = ps.length)
    (hbody : ∀ (cdv : Value) (A : Around) (outer : List Env) (s : Shared) (H : Hp) (vs : List V) (Q : VK) (E : XK), Room k (A.deeper (envOfC qual (defScope st) s.heap.objs.size f cdv)) → A.guards = some [] → sp vs H Q E →
      ∃ t, PSs (cxOf CX P w K mg base N qual (defScope st) f cdv A outer s H E) (defBody st) t ∧ t { nx := fun _ H' => Q .non H', rt := Q } (start N vs) H) : FnG P w K mg base CX (k + 1) f fd ps sp := by
  obtain ⟨oc, od, kV, doc, pm, an, cdv, ct, osl, rfl, lk, hcd⟩ := F.ex
  refine ⟨len, ?_⟩
  intro A outer s H args us vs Q E hr hG e0 hb r hsp
  have keep := fun b o e => (e0.bs b o e).1
  have par : ∀ y ∈ ps.zip us, (defScope st).names.lookup y.1 = some .local ∨ ((defScope st).names.lookup y.1 = some .cell ∧ ((cellsFrom (s.heap.objs.size + 1) (defScope st).names []).lookup y.1).isSome = true) := by
    rintro ⟨n, v⟩ hy
    have q := S.par n (List.of_mem_zip hy).1
    exact q.imp id fun q => ⟨q, PySem.W.cellsFrom_some _ _ _ (.inl q)⟩
  refine codeAny_call_function hr.depth ((e0.mod.kin.keeps keep) _ _ lk) rfl S.co S.gen rfl (PySem.W.codeRec_of (e0.mod.kin.keeps keep) hcd) (hb _ _ _ _ ?_)
  refine wpAny_newFunctionEnv_cells S.kind par ?_
  intro env he s1 hx
  subst he
  refine ⟨(e0.mod.nolimit.keeps keep).keeps hx.toInCall.keep, codeAny_func ?_⟩
  obtain ⟨t, ht, hq⟩ := hbody cdv A outer s H vs Q E (hr.deeper _) hG hsp
  have I := inv_start (CX := CX) (E := E) (cd := cdv) S hr.hd e0 (len _ _ _ _ hsp) r hx
  refine wpAny_mono (ht.run [] s1 (start N vs) H _ I hq) ?_ (fun _ _ z => z)
  intro fl s' hs
  cases fl with
  | next => exact hs.elim fun σ' z => z.elim fun H' z => ⟨V.non, H', z.1.os, z.1.bare, z.1.base, z.1.hok, rfl, z.2⟩
  | ret u => exact hs.elim fun v z => z.elim fun σ' z => z.elim fun H' z => ⟨v, H', z.1.os, z.1.bare, z.1.base, z.1.hok, z.2.1, z.2.2⟩
  | brk => exact hs.elim fun _ z => z.elim fun _ z => z.2.elim
  | cont => exact hs.elim fun _ z => z.elim fun _ z => z.2.elim

section
variable {X : Cx} {CX : CXT} {k : Nat} {f : Addr} {fd : FuncData} {ps : List Str} {sp : Sp} {E : XK} {x : Str} {p pos : Pos} {e : Expr} {es : List Expr} {t : TA}
/-- f(e, ..) -/
theorem pe_callG (hG : X.A.guards = some []) (F : FnG X.prog X.w X.K X.mg X.base CX k f fd ps sp) (hr : Room k X.A) (hg : Gl X x) (hm : X.mg x = some (.ref f)) (hk : PySem.W.keepIn X.K (.ref f) = true) (hb : Binds X.K fd ps []) (hx : Passes CX X E)
    (ha : PA X (e :: es) t) (hdb : (x == ("__debug__" : Str)) = false := by decide) (hst : starEach (e :: es) X.env = (false, eval e X.env) :: starEach es X.env := by rfl) (hpl : (backTo pos (starEach es X.env)).any (·.1) = false := by rfl) :
    PE X (.Call (.Name x p) (e :: es) [] pos) (tCall sp [] E t) := by
  constructor
  intro pins s σ H Q I h
  refine wpAny_Call_Name_kw (ld_glob I hg hm ?_ hdb)
  refine PySem.W.callWith_K (h₀ := X.base) I.ok.mod.kin hk (thn (ha.run pos pins s σ H _ I h) ?_) hst hpl
  rintro us s1 ⟨vs, H1, I1, r, q⟩
  rw [List.append_nil] at q
  refine ⟨I1.kIn, ?_⟩
  have hl : (us ++ []).length = ps.length := by
    rw [List.append_nil, ← r.length]
    exact F.len _ _ _ _ q
  have b := hb s1 us I1.kIn hl
  rw [List.append_nil] at b
  refine wpAny_call (codeAny_mono (F.go X.A X.stack s1 H1 ⟨us, []⟩ us vs Q E hr hG I1.env0 b r q) ?_)
  intro res s2 hq
  cases res with
  | error er => exact hx pins σ H1 s1 er s2 I1 hq
  | ok fl =>
    cases fl with
    | ret u => exact I1.after hq
    | next => exact hq.elim
    | brk => exact hq.elim
    | cont => exact hq.elim
end

/-- the law's call, its script the one thing that is tracked -/
theorem law_callG {P : Program} {w : World} {K : PySem.W.Frag} {mg mb : Str → Option Value} {CX : CXT} {k : Nat} {fa a : Addr} {fd : FuncData} {x : Str} {sp : Sp} {s1 : Shared} {vs : List Value} {ns : List Int}
    (KX : K.In s1.heap) (hns : s1.heap.Ns mainGlobals mg) (hb : s1.heap.Ns builtinsNs mb) (hbb : ∀ x : Str, x ≠ "__name__" → mb x = bootBuiltins x) (hlim : s1.heap.NoLimit) (hg : s1.gens = #[])
    (ha : s1.heap.get? a = some { cls := .type "list", data := .seq vs.toArray }) (hi : IntsAre vs ns) (hl : ns.length ≤ sizeLine) (hr : Room k callerA)
    (F : ∀ base : Heap, K.In base → base.Ns mainGlobals mg → FnG P w K mg base CX k fa fd [x] sp) (hbind : ∀ (s : Shared) (u : Value), BindsTo s fd ⟨[u], []⟩ [(x, u)])
    (hsp : ∀ H : Hp, Only H → SqL K H a (ns.map V.int) → sp [.ref a] H (fun v _ => v = .bl true) fun _ _ _ => False)
    (hCX : ∀ H e s', CX [] H s1 (fun _ _ _ => False) e s' → False) :
    codeAny (model P w) callerA (.call (.ref fa) ⟨[.ref a], []⟩) (fun r s' => r = .ok (.ret (.bool true)) ∧ OldK s1.heap s'.heap ∧ s'.os = s1.os ∧ AllBare s'.gens) s1 := by
  have rv := vals_ints hi
  have lenV := hi.length
  have core : ∀ H : Hp, Only H → SqL K H a (ns.map V.int) → HOk P w H s1.heap → (∀ b, H b ≠ none → b = a) → (H a ≠ none → K.lookup a = none) →
      codeAny (model P w) callerA (.call (.ref fa) ⟨[.ref a], []⟩) (fun r s' => r = .ok (.ret (.bool true)) ∧ OldK s1.heap s'.heap ∧ s'.os = s1.os ∧ AllBare s'.gens) s1 := by
    intro H hO hS hok hA hK
    have at_a : ∀ {b : Addr} {u : HO}, H b = some u → b = a := fun {b u} q => hA b (by rw [q]; exact fun z => nomatch z)
    have free : ∀ {b : Addr} {o : Obj} {es : Array DictEntry} {ep : Nat}, s1.heap.get? b = some o → o.data = .dict es ep → H b = none := by
      intro b o es ep e d
      cases q : H b with
      | none => rfl
      | some u =>
        rw [at_a q, ha] at e
        cases e
        exact nomatch d
    have ns1 : ∀ {b : Addr} {m : Str → Option Value}, s1.heap.Ns b m → (hidT s1.heap H).Ns b m := fun {b m} ⟨o, es, ep, e, d, r⟩ => ⟨o, es, ep, hidT_get e (free e d), d, r⟩
    have kin : K.In (hidT s1.heap H) := by
      intro b o e
      refine hidT_get (KX b o e) ?_
      cases q : H b with
      | none => rfl
      | some u =>
        have eb := at_a q
        rw [eb] at q e
        rw [hK (by rw [q]; exact fun z => nomatch z)] at e
        cases e
    have lim2 : (hidT s1.heap H).NoLimit := by
      obtain ⟨mc, h1, h2⟩ := hlim
      exact ⟨mc, ns1 h1, h2⟩
    have e0 : Env0 P w K mg (hidT s1.heap H) callerA [] s1 H :=
      ⟨rfl, ⟨kin, ns1 hns, ⟨mb, ns1 hb, hbb⟩, lim2⟩, fun b o e => of_hidT e, Nat.le_of_eq (hidT_size _ _), trivial, fun b z => absurd z List.not_mem_nil, hok, .of_eq hg⟩
    refine codeAny_mono ((F _ kin (ns1 hns)).go callerA [] s1 H ⟨[.ref a], []⟩ [.ref a] [.ref a] _ _ hr rfl e0 (hbind s1 (.ref a)) (.cons rfl .nil) (hsp H hO hS)) ?_
    intro r s' h
    cases r with
    | error e => exact (hCX H e s' h).elim
    | ok fl =>
      cases fl with
      | next => exact h.elim
      | brk => exact h.elim
      | cont => exact h.elim
      | ret u =>
        obtain ⟨v, H', os, bare, un, hok', r', q⟩ := h
        cases (show v = .bl true from q)
        cases (show u = Value.bool true from r')
        refine ⟨rfl, OldK.of_keep ?_, os, bare⟩
        intro b o e
        cases q : H b with
        | none => exact un.keep b o e q List.not_mem_nil List.not_mem_nil
        | some u =>
          rcases hO b with z | ⟨ob, xs, z⟩
          · rw [q] at z
            cases z
          · have e1 := (hok b _ z).1
            have e2 := (hok' b _ (un.frzs b ob _ z)).1
            rw [e] at e1
            cases e1
            exact e2
  cases hk : K.lookup a with
  | some o =>
    have e := KX a o hk
    rw [ha] at e
    cases e
    have sq : SqL K (fun _ => none) a (ns.map V.int) := .inr ⟨_, vs.toArray, _, hk, rfl, rfl, rfl, by rw [List.size_toArray, lenV]; exact hl, by simpa using rv⟩
    exact core (fun _ => none) (fun _ => .inl rfl) sq (fun b u z => nomatch z) (fun b z => absurd rfl z) fun z => absurd rfl z
  | none =>
    have at1 : (fun b => if b = a then some (HO.frz { cls := .type "list", data := .seq vs.toArray } (.lst (ns.map V.int))) else none) a = some (.frz { cls := .type "list", data := .seq vs.toArray } (.lst (ns.map V.int))) := if_pos rfl
    refine core (fun b => if b = a then some (.frz { cls := .type "list", data := .seq vs.toArray } (.lst (ns.map V.int))) else none) ?_ (.inl (.inr ⟨_, at1⟩)) ?_ ?_ fun _ => hk
    · intro b
      by_cases hb : b = a
      · exact .inr ⟨_, _, if_pos hb⟩
      · exact .inl (if_neg hb)
    · intro b u z
      by_cases hb : b = a
      · subst hb
        cases at1.symm.trans z
        exact ⟨ha, by rw [List.length_map]; exact hl, vs, _, rv, ha⟩
      · cases (if_neg hb).symm.trans z
    · intro b z
      by_cases hb : b = a
      · exact hb
      · exact absurd (if_neg hb) z

theorem walk_ofG {l : PySem.W.OpenLaw} {n k : Nat} {q : Program} {loose : List Str} {XP : (Str → Option Value) → Heap → Prop} {YP : World → Heap → Prop} {d : DefRec} {K : Params → PySem.W.Frag} {CX : World → CXT} {sp : World → Sp} {x : Str}
    (hn : l.most = some n) (hn2 : n ≤ sizeLine) (hdf : d.params.defaults = []) (hr : Room k callerA)
    (hY : ∀ (w : World) (h : Heap), YP w h → (K w.params).In h)
    (F : ∀ (w : World) (mg : Str → Option Value) (fa : Addr) (h : Heap), (K w.params).In h → h.Ns mainGlobals mg → mg d.name = some (.ref fa) →
      ∃ fd : FuncData, (∀ (s : Shared) (u : Value), BindsTo s fd ⟨[u], []⟩ [(x, u)]) ∧
        ∀ base : Heap, (K w.params).In base → base.Ns mainGlobals mg → FnG l.prog w (K w.params) mg base (CX w) k fa fd [x] (sp w))
    (hsp : ∀ (w : World) (H : Hp) (a : Addr) (ns : List Int), ns.length ≤ n → Only H → SqL (K w.params) H a (ns.map V.int) → sp w [.ref a] H (fun v _ => v = .bl true) fun _ _ _ => False)
    (hCX : ∀ (w : World) (H : Hp) (s : Shared) (e : Value) (s' : Shared), CX w [] H s (fun _ _ _ => False) e s' → False) :
    PySem.W.WalkO q loose XP YP l.row.toRowW d [] (fun f vs => PySem.call f vs) := by
  refine Att.attach_call hn hdf ?_
  intro w s₀ s₁ mg mb fa o pm cd doc a vs ns G Y ho hd hcd hmg hobj hints hlen hg
  have KX := hY w _ Y
  obtain ⟨fd, hb, hF⟩ := F w mg fa _ KX G.T.g hmg
  exact law_callG KX G.T.g G.T.b G.T.builtins G.T.nolimit hg hobj hints (Nat.le_trans hlen hn2) hr hF hb (fun H hO hS => hsp w H a ns hlen hO hS) fun H e s' => hCX w H s₁ e s'
end Ks

/-! What the laws' texts have in common. -/
namespace Ks
open PySem PySem.Spec L2
open PyProof.Rows hiding St

/-- the built-ins' names that are not given another meaning -/
structure Bx (mg : Str → Option Value) : Prop where
  m_isinstance : mg "isinstance" = none
  m_int : mg "int" = none
  m_bool : mg "bool" = none
  m_str : mg "str" = none
  m_len : mg "len" = none
  m_list : mg "list" = none
  m_range : mg "range" = none
  m_sum : mg "sum" = none
  m_abs : mg "abs" = none
  m_max : mg "max" = none
  m_min : mg "min" = none
  m_repr : mg "repr" = none
  m_zip : mg "zip" = none
/-- a def of the text: its object, its name, how its arguments bind -/
structure Dn (K : PySem.W.Frag) (mg : Str → Option Value) (x : Str) (st : Stmt) (ps : List Str) (f : Addr) (fd : FuncData) : Prop where
  F : Fun K x x st f fd
  g : mg x = some (.ref f)
  b : Binds K fd ps []
/-- an own class of errors over ValueError, made with a message -/
structure OwnE (K : PySem.W.Frag) (mg : Str → Option Value) (x : Str) (C : Addr) : Prop where
  g : mg x = some (.ref C)
  x : PySem.W.excIn K C [.type "ValueError", .type "Exception", .type "BaseException", .type "object"] "ValueError.__new__" = true
  k : PySem.W.keepIn K (.ref C) = true
  b : PySem.W.subIn K (.ref C) (.type "BaseException") = some true
  t : PySem.W.typeIn K (.ref C) = some (.type "type")
/-- an own class of errors that keeps one value -/
structure KeepE (K : PySem.W.Frag) (mg : Str → Option Value) (x f : Str) (C fI : Addr) (fd : FuncData) (ps : List Str) (B : String) (bmB : List Value) (newId initId : String) : Prop where
  T : ECls K C B bmB newId initId
  g : mg x = some (.ref C)
  i : PySem.W.findIn K (.ref C) "__init__" = some (some (.ref fI))
  t : PySem.W.typeIn K (.ref fI) = some (.type "function")
  n : PySem.W.findIn K (.ref C) f = some none
  b : Binds K fd ps []
theorem passZ {X : Cx} : Passes CX0 X (fun _ _ _ => False) := pass0
theorem passO {X : Cx} {W : XK} (tk : Takes X (fun cls d _ H => W cls d H)) : Passes (L2.CX X.prog X.w) X W := passes_call tk fun _ _ _ _ z => z

/-! ### values of any kind -/
inductive AnyV (H : Hp) : V → Prop
  | non : AnyV H .non
  | bl (b : Bool) : AnyV H (.bl b)
  | int (i : Int) : AnyV H (.int i)
  | str (z : Str) : AnyV H (.str z)
  | lst {a : Addr} {xs : List V} : H a = some (.lst xs) → AnyV H (.ref a)
  | tup {a : Addr} {xs : List V} : H a = some (.tup xs) → AnyV H (.ref a)
  | dct {a : Addr} {kvs : List (Key × V)} : H a = some (.dK kvs) → AnyV H (.ref a)
def isI : V → Bool
  | .int _ => true
  | .bl _ => true
  | _ => false
def isB : V → Bool
  | .bl _ => true
  | _ => false
def isS : V → Bool
  | .str _ => true
  | _ => false
theorem AnyV.typed {K : PySem.W.Frag} {H : Hp} {x : V} (h : AnyV H x) : ∃ T, TyX K H x (.type T) ∧ kitB T "int" = some (isI x) ∧ kitB T "bool" = some (isB x) ∧ kitB T "str" = some (isS x) := by
  cases h with
  | non => exact ⟨"NoneType", .base .non, (show kitB "NoneType" "int" = some false by decide +kernel), (show kitB "NoneType" "bool" = some false by decide +kernel), (show kitB "NoneType" "str" = some false by decide +kernel)⟩
  | bl b => exact ⟨"bool", .base (.bl b), (show kitB "bool" "int" = some true by decide +kernel), (show kitB "bool" "bool" = some true by decide +kernel), (show kitB "bool" "str" = some false by decide +kernel)⟩
  | int i => exact ⟨"int", .base (.int i), (show kitB "int" "int" = some true by decide +kernel), (show kitB "int" "bool" = some false by decide +kernel), (show kitB "int" "str" = some false by decide +kernel)⟩
  | str z => exact ⟨"str", .base (.str z), (show kitB "str" "int" = some false by decide +kernel), (show kitB "str" "bool" = some false by decide +kernel), (show kitB "str" "str" = some true by decide +kernel)⟩
  | lst e => exact ⟨"list", .base (.lst e), (show kitB "list" "int" = some false by decide +kernel), (show kitB "list" "bool" = some false by decide +kernel), (show kitB "list" "str" = some false by decide +kernel)⟩
  | tup e => exact ⟨"tuple", .base (.tup e), (show kitB "tuple" "int" = some false by decide +kernel), (show kitB "tuple" "bool" = some false by decide +kernel), (show kitB "tuple" "str" = some false by decide +kernel)⟩
  | dct e => exact ⟨"dict", .base (.dK e), (show kitB "dict" "int" = some false by decide +kernel), (show kitB "dict" "bool" = some false by decide +kernel), (show kitB "dict" "str" = some false by decide +kernel)⟩
/-- an integer, no boolean, in these bounds -/
def isNum (lo hi : Int) : V → Bool
  | .int i => decide (lo ≤ i) && decide (i ≤ hi)
  | _ => false

/-! ### a power of a great number -/
section
variable {X : Cx}
def CPowW (i j : Int) : Prop := 0 ≤ j ∧ (Builtin.Int.intBits i : Int) * j ≤ 2 ^ 27
theorem op_powW : OpR X (binaryOp .Pow) (rI CPowW fun i j => .int (i ^ j.toNat)) := opI fun _ _ _ _ _ _ _ hc q => PyProof.Rows.pow_int hc.1 hc.2 q
end
end Ks

/-! Texts of digits. -/
namespace Ks
open PySem PySem.Spec L2
open PyProof.Rows hiding St

abbrev cl (x : Str) : List Nat := x.cps.toList
theorem str_ext {x y : Str} (h : cl x = cl y) : x = y := by
  obtain ⟨⟨a⟩⟩ := x
  obtain ⟨⟨b⟩⟩ := y
  have h' : a = b := h
  rw [h']
theorem cl_len (x : Str) : (cl x).length = x.length := by
  show x.cps.toList.length = x.cps.size
  exact Array.length_toList

theorem tw_all {α : Type} {p : α → Bool} : ∀ {l : List α}, l.all p = true → l.takeWhile p = l
  | [], _ => rfl
  | a :: r, h => by
    rw [List.all_cons, Bool.and_eq_true] at h
    rw [List.takeWhile_cons, if_pos h.1, tw_all h.2]
theorem tw_lt {α : Type} {p : α → Bool} : ∀ {l : List α}, l.all p = false → (l.takeWhile p).length < l.length
  | [], h => by cases h
  | a :: r, h => by
    rw [List.takeWhile_cons]
    by_cases e : p a = true
    · rw [if_pos e]
      rw [List.all_cons, e, Bool.true_and] at h
      have := tw_lt h
      simp only [List.length_cons]
      omega
    · rw [if_neg e]
      simp
theorem dw_head {α : Type} {p : α → Bool} : ∀ {l : List α}, l.all p = false → ∃ a, a ∈ l.drop (l.takeWhile p).length ∧ p a = false
  | [], h => by cases h
  | a :: r, h => by
    rw [List.takeWhile_cons]
    by_cases e : p a = true
    · rw [if_pos e]
      rw [List.all_cons, e, Bool.true_and] at h
      obtain ⟨x, hx, hp⟩ := dw_head h
      exact ⟨x, by simpa using hx, hp⟩
    · rw [if_neg e]
      exact ⟨a, by simp, by simpa using e⟩

/-- a text stripped of some letters is empty just if it has no others -/
theorem strip_empty (a b : Str) : decide (V.str (Txt.stripChars a b) = V.str ("" : Str)) = (cl a).all fun c => b.cps.contains c := by
  have h0 : ("" : Str) = ⟨#[]⟩ := by decide
  have e : Txt.stripChars a b = PySem.W.stripped b.cps.contains true true a := PySem.W.stripBy_eq _ _ _ _
  rw [e, h0]
  unfold PySem.W.stripped
  simp only [if_true]
  show decide (V.str (Builtin.Str.strSub a (List.takeWhile b.cps.contains (cl a)).length (a.length - (List.takeWhile b.cps.contains (List.drop (List.takeWhile b.cps.contains (cl a)).length (cl a)).reverse).length)) = V.str ⟨#[]⟩) = _
  have hl := cl_len a
  cases q : (cl a).all fun c => b.cps.contains c with
  | true =>
    rw [tw_all q, List.drop_length]
    refine decide_eq_true ?_
    congr 1
    unfold Builtin.Str.strSub
    congr 1
    have hs : a.cps.size = a.length := rfl
    apply Array.eq_empty_of_size_eq_zero
    rw [Array.size_extract]
    simp
    omega
  | false =>
    refine decide_eq_false fun h => ?_
    have h1 := congrArg (fun v => match v with | V.str z => z.cps.size | _ => 0) h
    unfold Builtin.Str.strSub at h1
    simp only [Array.size_extract, List.size_toArray, List.length_nil] at h1
    obtain ⟨x, hx, hp⟩ := dw_head q
    have nall : (List.drop (List.takeWhile b.cps.contains (cl a)).length (cl a)).reverse.all b.cps.contains = false := by
      rw [Bool.eq_false_iff]
      intro z
      rw [List.all_eq_true] at z
      have := z x (List.mem_reverse.mpr hx)
      rw [hp] at this
      cases this
    have h2 := tw_lt nall
    have h3 := tw_lt q
    rw [List.length_reverse, List.length_drop] at h2
    have hs : a.cps.size = a.length := rfl
    omega

/-- a text of digits less than n -/
def alpha (n : Int) : Str := cutS "0123" none (some n)
def txt (n : Int) (z : Str) : Bool := decide (z.length ≤ 200) && (cl z).all fun c => (alpha n).cps.contains c
theorem alpha2 : alpha 2 = ⟨#[48, 49]⟩ := by decide +kernel
theorem alpha4 : alpha 4 = ⟨#[48, 49, 50, 51]⟩ := by decide +kernel
theorem digit_str (r : Nat) (h : r < 4) : Str.ofString (toString (r : Int)) = ⟨#[48 + r]⟩ := by
  match r, h with
  | 0, _ => decide +kernel
  | 1, _ => decide +kernel
  | 2, _ => decide +kernel
  | 3, _ => decide +kernel
theorem join_empty : ∀ ys : List Str, cl (Txt.join ("" : Str) ys) = (ys.map cl).flatten := by
  intro ys
  have h0 : cl ("" : Str) = [] := by decide
  rw [TL.join_eq]
  have := TL.tl_join ("" : Str) ys
  rw [show TL.tl ("" : Str) = [] from h0] at this
  refine this.trans ?_
  show TL.joinL [] (ys.map cl) = _
  generalize ys.map cl = zs
  induction zs with
  | nil => rfl
  | cons a r ih =>
    cases r with
    | nil => simp [TL.joinL]
    | cons b r =>
      show a ++ ([] ++ TL.joinL [] (b :: r)) = _
      rw [ih]
      simp
end Ks

/-! zip of two texts; the order of tuples. -/
namespace Ks
open PySem PySem.Spec L2
open PyProof.Rows hiding St

/-- the signs of two texts, two by two -/
def Itzs (x y : Str) : It :=
  ⟨fun i _ => i < min x.cps.size y.cps.size, fun i H v H' => ∃ T c d, v = .ref T ∧ H T = none ∧ H' = upd H T (.tup [.str ⟨#[c]⟩, .str ⟨#[d]⟩]) ∧ x.cps[i]? = some c ∧ y.cps[i]? = some d, fun i _ => i = min x.cps.size y.cps.size⟩
def StZ (z TI TO i1 i2 : Addr) (x y : Str) (t u : Tok) (i : Nat) (h : Heap) : Prop :=
  IsZip h z TI TO .none ∧ IsTupOf2 h TI (.ref i1) (.ref i2) ∧ (∃ a1 a2, IsTupOf2 h TO a1 a2) ∧ h.IsStrIter i1 (strIterType x) x t i ∧ h.IsStrIter i2 (strIterType y) y u i
theorem turn_zipS {P : Program} {w : World} {K : PySem.W.Frag} {elts : List Expr} {kk : Nat} {tpos : Pos} {z TI TO i1 i2 : Addr} {x y : Str} {t u : Tok} (S : ZipSep2 z TI TO i1 i2 [i1] [i2]) :
    Turn P w K (.Tuple elts kk tpos) (Itzs x y) (z :: TI :: TO :: ([i1] ++ [i2])) z (StZ z TI TO i1 i2 x y t u) where
  mem := List.mem_cons_self
  obj := by
    intro i h st c hc
    obtain ⟨hz, hTI, ⟨a1, a2, hTO⟩, ⟨o1, e1, _, d1⟩, ⟨o2, e2, _, d2⟩⟩ := st
    have e' : c = z ∨ c = TI ∨ c = TO ∨ c = i1 ∨ c = i2 := by simpa using hc
    rcases e' with rfl | rfl | rfl | rfl | rfl
    · exact ⟨_, hz, fun v q => nomatch q⟩
    · exact ⟨_, hTI, fun v q => nomatch q⟩
    · exact ⟨_, hTO, fun v q => nomatch q⟩
    · exact ⟨o1, e1, fun v q => by rw [d1] at q; cases q⟩
    · exact ⟨o2, e2, fun v q => by rw [d2] at q; cases q⟩
  keep := by
    intro i h h' st k
    obtain ⟨hz, hTI, ⟨a1, a2, hTO⟩, ⟨o1, e1, c1, d1⟩, ⟨o2, e2, c2, d2⟩⟩ := st
    exact ⟨k z (by simp) _ hz, k TI (by simp) _ hTI, ⟨a1, a2, k TO (by simp) _ hTO⟩, ⟨o1, k i1 (by simp) o1 e1, c1, d1⟩, ⟨o2, k i2 (by simp) o2 e2, c2, d2⟩⟩
  item := by
    intro X hP hw hK hc i pins s σ H E I hf st hg
    subst hP hw hK
    have hh := I.ok.hd hc
    have W := GoesN.zip2 (elts := elts) (x1 := kk) (pos := tpos) S (Draws.text (prog := X.prog) (w := X.w) (A := X.A.in1) hh i1 x t) (Draws.text (A := X.A.in1) hh i2 y u)
    refine W.goes i s _ E hg st ?_
    rintro v h' tk ⟨T, a, b, rfl, hT, ⟨c, tc, hx, rfl⟩, ⟨d, td, hy, rfl⟩, hIs⟩ st' keep _
    have new : ObjOk X.prog X.w (upd H T (.tup [.str ⟨#[c]⟩, .str ⟨#[d]⟩])) h' T (.tup [.str ⟨#[c]⟩, .str ⟨#[d]⟩]) :=
      ⟨by show 2 ≤ sizeLine; decide, [.str ⟨#[c]⟩ tc, .str ⟨#[d]⟩ td], .cons ⟨tc, rfl⟩ (.cons ⟨td, rfl⟩ .nil), hIs⟩
    have J := I.turnedNew (t' := tk) (ch := z :: TI :: TO :: ([i1] ++ [i2])) (fun b o hb q => keep b o (fun m => hb (by simp only [List.mem_cons, List.not_mem_nil, or_false] at m; rcases m with rfl | rfl | rfl | rfl <;> simp)) q) hf hT new
    refine ⟨.ref T, _, J, rfl, ⟨T, c, d, rfl, I.hok.fresh hT, rfl, hx, hy⟩, st', fun b hb => ?_⟩
    obtain ⟨o, ho, _⟩ : ∃ o, s.heap.get? b = some o ∧ ∀ v, o.data ≠ .cell v := by
      obtain ⟨hz, hTI, ⟨a1, a2, hTO⟩, ⟨o1, e1, _, d1⟩, ⟨o2, e2, _, d2⟩⟩ := st
      have e' : b = z ∨ b = TI ∨ b = TO ∨ b = i1 ∨ b = i2 := by simpa using hb
      rcases e' with rfl | rfl | rfl | rfl | rfl
      · exact ⟨_, hz, fun v q => nomatch q⟩
      · exact ⟨_, hTI, fun v q => nomatch q⟩
      · exact ⟨_, hTO, fun v q => nomatch q⟩
      · exact ⟨o1, e1, fun v q => by rw [d1] at q; cases q⟩
      · exact ⟨o2, e2, fun v q => by rw [d2] at q; cases q⟩
    rw [upd_ne (Nat.ne_of_lt (Nat.lt_of_lt_of_le (Heap.lt_size ho) hT))]
    exact (hf b hb).1
  done := by
    intro X hP hw hK hc i pins s σ H E I hf st hg
    subst hP hw hK
    have hh := I.ok.hd hc
    have W := GoesN.zip2 (elts := elts) (x1 := kk) (pos := tpos) S (Draws.text (prog := X.prog) (w := X.w) (A := X.A.in1) hh i1 x t) (Draws.text (A := X.A.in1) hh i2 y u)
    have e : i = min x.cps.size y.cps.size := hg
    subst e
    refine wpAny_mono (W.stops s (fun s1 => Inv X pins σ H s1) E st fun h' tk keep _ => ?_) (fun r s1 q => q) fun _ _ q => q
    exact I.turnedL (t' := tk) (ch := z :: TI :: TO :: ([i1] ++ [i2])) (fun b o hb q => keep b o (fun m => hb (by simp only [List.mem_cons, List.not_mem_nil, or_false] at m; rcases m with rfl | rfl | rfl | rfl <;> simp)) q) hf
  self := fun A i s Q E st h => wpAny_pyIter_zip st.1 h

def iZipS (ta : TA) : TI := fun σ H R => ta σ H fun vs H1 => ∃ x y, vs = [.str x, .str y] ∧ R (Itzs x y) H1
theorem pi_zipS {X : Cx} {e e2 : Expr} {ta : TA} {p pos tpos : Pos} {elts : List Expr} {kk : Nat} (hg : Gl X "zip") (hm : X.mg "zip" = none) (ha : PA X [e, e2] ta)
    (hst : starEach [e, e2] X.env = (false, eval e X.env) :: starEach [e2] X.env := by rfl) (hpl : (backTo pos (starEach [e2] X.env)).any (·.1) = false := by rfl) :
    PI X (.Tuple elts kk tpos) (.Call (.Name "zip" p) [e, e2] [] pos) (iZipS ta) := by
  constructor
  intro pins s σ H R I h
  refine Call_ (ld_blt I hg hm PyProof.Rows.boot_zip (PyProof.Rows.callWith_type1 (thn (ha.run pos pins s σ H _ I h) ?_) hst hpl))
  rintro us s1 ⟨vs, H1, I1, r1, x, y, ex, q⟩
  subst ex
  obtain ⟨u1, u2, rfl, ⟨t, rfl⟩, ⟨u, rfl⟩⟩ := vals2 r1
  refine zip_begins2 (begins_text x t) (begins_text y u) trivial trivial fun h' hz hTI hTO h1 h2 hsz hk => wpAny_pyIter_zip hz ?_
  have I2 : Inv X pins σ H1 { s1 with heap := h' } := I1.kept (t' := s1.toks) hk
  refine ⟨s1.heap.objs.size + 4, _, _, _, H1, rfl, I2, turn_zipS (t := t) (u := u) (zip_sep2 (fp1 := []) (fp2 := []) (by simp) (by simp)), ⟨hz, hTI, ⟨_, _, hTO⟩, ?_, ?_⟩, fun c hc => ?_, q⟩
  · exact ⟨_, h1, rfl, rfl⟩
  · exact ⟨_, h2, rfl, rfl⟩
  · have hle : s1.heap.objs.size ≤ c := by
      have e' : c = s1.heap.objs.size + 4 ∨ c = s1.heap.objs.size + 2 ∨ c = s1.heap.objs.size + 3 ∨ c = s1.heap.objs.size ∨ c = s1.heap.objs.size + 1 := by simpa using hc
      rcases e' with z | z | z | z | z <;> rw [z] <;> first | exact Nat.le_refl _ | exact Nat.le_add_right _ _
    have f := I1.fpOk hle (I1.hok.fresh hle)
    exact f
theorem walk_zipS {x y : Str} {n : Nat} (hn : n = min x.cps.size y.cps.size) : Walk (Itzs x y) n (fun _ => True) (fun i H v H' => ∃ T c d, v = .ref T ∧ H T = none ∧ H' = upd H T (.tup [.str ⟨#[c]⟩, .str ⟨#[d]⟩]) ∧ x.cps[i]? = some c ∧ y.cps[i]? = some d) := by
  subst hn
  exact ⟨fun _ _ hi _ => hi, fun _ _ => rfl, fun _ _ _ _ _ _ y => y⟩

/-- less, of data of one shape -/
def rLtD (K : PySem.W.Frag) : R2 := fun x y H Q => ∃ d e, Dp K H x d ∧ Dp K H y e ∧ PySem.W.alike d e = true ∧ d ≠ .none ∧ d.depth ≤ 60 ∧ Q (.bl (PySem.W.dataLt d e)) H
theorem op_ltD {X : Cx} (hu : X.A.units + 100 < cLine) : OpR X (compareOp .Lt) (rLtD X.K) := by
  intro pins s σ H x y v u Q I rx ry h
  obtain ⟨d, e, hd, he, al, nn, dp, q⟩ := h
  obtain ⟨as, r1⟩ := Dp.reads I d x v hd rx
  obtain ⟨bs, r2⟩ := Dp.reads I e y u he ry
  exact PySem.W.rcLt_alike d e X.A s v u as bs r1 r2 al nn (by have := Nat.min_le_left d.depth e.depth; omega) X.prog X.w _ _ ⟨.bl _, H, I, rfl, q⟩
end Ks

/-! Calls of defs with a star parameter, also under a try. -/
namespace Ks
open PySem PySem.Spec L2
open PyProof.Rows hiding St
section
variable {X : Cx} {CX : CXT} {k : Nat} {f : Addr} {sp : Sp} {E : L2.St → XK} {x : Str} {p pos : Pos} {e : Expr} {es : List Expr} {t : TA}
theorem run_fnRS {pins : List (Addr × Obj)} {σ : L2.St} {H : Hp} {s : Shared} {Q : VK} {us : List Value} {vs : List V} (F : FnR X.prog X.w X.K X.mg X.base CX k f sp) (hr : Room k X.A) (hx : PassesAt CX X σ (E σ)) (I : Inv X pins σ H s) (r : Vals vs us) (q : sp vs H Q (E σ)) :
    wpAny (model X.prog X.w) X.A (call (.ref f) us) (EP X pins σ Q) X.xe s := by
  refine wpAny_call (codeAny_mono (F X.A X.stack s H us vs Q (E σ) hr I.env0 r q) ?_)
  intro res s2 hq
  cases res with
  | error er => exact hx pins H s er s2 I hq
  | ok fl =>
    cases fl with
    | ret u => exact I.after hq
    | next => exact hq.elim
    | brk => exact hq.elim
    | cont => exact hq.elim
/-- f(e, ..) where f has a star parameter -/
theorem pe_callRS (F : FnR X.prog X.w X.K X.mg X.base CX k f sp) (hr : Room k X.A) (hg : Gl X x) (hm : X.mg x = some (.ref f)) (hk : PySem.W.keepIn X.K (.ref f) = true) (hx : ∀ σ, PassesAt CX X σ (E σ))
    (ha : PA X (e :: es) t) (hdb : (x == ("__debug__" : Str)) = false := by decide) (hst : starEach (e :: es) X.env = (false, eval e X.env) :: starEach es X.env := by rfl) (hpl : (backTo pos (starEach es X.env)).any (·.1) = false := by rfl) :
    PE X (.Call (.Name x p) (e :: es) [] pos) (tCallS sp E t) := by
  constructor
  intro pins s σ H Q I h
  refine wpAny_Call_Name_kw (ld_glob I hg hm ?_ hdb)
  refine PySem.W.callWith_K (h₀ := X.base) I.ok.mod.kin hk (thn (ha.run pos pins s σ H _ I h) ?_) hst hpl
  rintro us s1 ⟨vs, H1, I1, r, q⟩
  exact ⟨I1.kIn, run_fnRS F hr (hx σ) I1 r q⟩
theorem pe_callRS0 (F : FnR X.prog X.w X.K X.mg X.base CX k f sp) (hr : Room k X.A) (hg : Gl X x) (hm : X.mg x = some (.ref f)) (hk : PySem.W.keepIn X.K (.ref f) = true) (hx : ∀ σ, PassesAt CX X σ (E σ))
    (hdb : (x == ("__debug__" : Str)) = false := by decide) : PE X (.Call (.Name x p) [] [] pos) (tCallS sp E tNil) := by
  constructor
  intro pins s σ H Q I h
  refine Call_ (ld_glob I hg hm ?_ hdb)
  exact PySem.W.callWith_K0 I.kIn hk (run_fnRS (us := []) F hr (hx σ) I .nil h)
end
theorem passOut {X : Cx} {W : XK} (tk : Takes X (fun cls d _ H => W cls d H)) (σ : L2.St) : PassesAt (L2.CX X.prog X.w) X σ W := fun _ _ _ e s' I c => tk e s' (XE.of_call I (fun _ _ _ h => h) c)
end Ks

/-! The bag of drawn numbers: a list of three ints that each draw writes. -/
namespace Ks
open PySem PySem.Spec L2
open PyProof.Rows hiding St
/-- without what is tracked at b -/
def wo (b : Addr) (H : Hp) : Hp := fun a => if a = b then none else H a
def Bag (b : Addr) (H : Hp) : Prop := ∃ g m c : Int, H b = some (.lst [.int g, .int m, .int c])
/-- the bag is a bag again; all else is as it was -/
def Go (b : Addr) (H H' : Hp) : Prop := Bag b H' ∧ Same (wo b H) (wo b H')
theorem wo_ne {b a : Addr} {H : Hp} (h : a ≠ b) : wo b H a = H a := if_neg h
theorem wo_same (b : Addr) (H : Hp) : Same (wo b H) H := fun a o e => by
  by_cases h : a = b
  · have : wo b H a = none := if_pos h
    rw [this] at e
    cases e
  · rwa [wo_ne h] at e
theorem wo_up {b : Addr} {H H' : Hp} (s : Same H H') : Same (wo b H) (wo b H') := fun a o e => by
  by_cases h : a = b
  · have : wo b H a = none := if_pos h
    rw [this] at e
    cases e
  · rw [wo_ne h] at e ⊢
    exact s a o e
theorem wo_free {b : Addr} {H H' : Hp} (hb : H b = none) (s : Same H H') : Same H (wo b H') := fun a o e => by
  rw [wo_ne (ne_of_none e hb)]
  exact s a o e
theorem Go.refl {b : Addr} {H : Hp} (h : Bag b H) : Go b H H := ⟨h, Same.refl _⟩
theorem Go.trans {b : Addr} {H H1 H2 : Hp} (x : Go b H H1) (y : Go b H1 H2) : Go b H H2 := ⟨y.1, x.2.trans y.2⟩
theorem Go.same {b : Addr} {H H' : Hp} (h : Bag b H) (s : Same H H') : Go b H H' := by
  obtain ⟨g, m, c, e⟩ := h
  exact ⟨⟨g, m, c, s b _ e⟩, wo_up s⟩
theorem Go.at {b a : Addr} {H H' : Hp} {o : HO} (x : Go b H H') (h : a ≠ b) (e : H a = some o) : H' a = some o := by
  have := x.2 a o (by rw [wo_ne h]; exact e)
  rwa [wo_ne h] at this
theorem Go.put {b : Addr} {H H' : Hp} {g m c : Int} (x : Go b H H') : Go b H (upd H' b (.lst [.int g, .int m, .int c])) := by
  refine ⟨⟨g, m, c, upd_same⟩, fun a o e => ?_⟩
  have h : a ≠ b := fun z => by
    have : wo b H a = none := if_pos z
    rw [this] at e
    cases e
  have e1 := x.2 a o e
  rw [wo_ne h] at e1 ⊢
  rw [upd_ne h]
  exact e1
theorem Go.free {b a : Addr} {H H' : Hp} (x : Go b H H') (hb : Bag b H) (h : H' a = none) : H a = none := by
  cases q : H a with
  | none => rfl
  | some o =>
    have hne : a ≠ b := fun z => by
      obtain ⟨g, m, c, e⟩ := x.1
      rw [z, e] at h
      cases h
    rw [x.at hne q] at h
    cases h
/-- something new beside the bag -/
theorem Go.new {b a : Addr} {H H' : Hp} {o : HO} (x : Go b H H') (h : H' a = none) : Go b H (upd H' a o) :=
  x.trans (Go.same x.1 fun c u e => by
    rw [upd_ne (ne_of_none e h)]
    exact e)
/-- something tracked, not the bag, is written -/
theorem Go.set {b a : Addr} {H H' : Hp} {o : HO} (x : Go b H H') (h : H a = none) (hb : Bag b H) : Go b H (upd H' a o) := by
  have hne : a ≠ b := fun z => by
    obtain ⟨g, m, c, e⟩ := hb
    rw [z, e] at h
    cases h
  obtain ⟨⟨g, m, c, e⟩, s⟩ := x
  refine ⟨⟨g, m, c, by rw [upd_ne (Ne.symm hne)]; exact e⟩, fun d u e => ?_⟩
  have hd : d ≠ b := fun z => by
    have : wo b H d = none := if_pos z
    rw [this] at e
    cases e
  have hda : d ≠ a := fun z => by
    rw [wo_ne hd, z, h] at e
    cases e
  have := s d u e
  rw [wo_ne hd] at this ⊢
  rw [upd_ne hda]
  exact this
theorem Bag.ne {b a : Addr} {H : Hp} (hb : Bag b H) (h : H a = none) : a ≠ b := fun z => by
  obtain ⟨g, m, c, e⟩ := hb
  rw [z, e] at h
  cases h
/-! ### the promises of the drawing -/
def spDraw : Sp := fun vs H Q _ => ∃ b t, vs = [.ref b, .int t] ∧ 0 < t ∧ t.natAbs.log2 < 9000 ∧ Bag b H ∧ ∀ r : Nat, (r : Int) < t → ∀ H', Go b H H' → Q (.int r) H'
def spBag (K : PySem.W.Frag) : Sp := fun vs H Q _ => ∃ (a : Addr) (ns : List Int) (k : Int), vs = [.ref a, .int k] ∧ SqL K H a (ns.map V.int) ∧ (0 : Int) ≤ k ∧ ∀ p H', H p = none → Same H H' → Bag p H' → Q (.ref p) H'
def spOneOf : Sp := fun vs H Q _ => ∃ b p xs, vs = [.ref b, .ref p] ∧ Bag b H ∧ H p = some (.lst xs) ∧ p ≠ b ∧ xs ≠ [] ∧ xs.length ≤ 1000 ∧ ∀ x ∈ xs, ∀ H', Go b H H' → Q x H'
end Ks

/-! An exception beside a tuple of five classes. -/
namespace Ks
open PySem PySem.Spec PySem.W PySem.Calls PyProof.Rows
theorem exm_five {M : Model} {K : Frag} {c1 c2 c3 c4 c5 cls : Value} {tp e : Addr} {b : Bool} {h : Heap} (X : K.In h) (ty : Looks M h (typeOf (.ref e)) cls)
    (at_ : h.get? tp = some { cls := .type "tuple", data := .seq [c1, c2, c3, c4, c5].toArray }) (hx : exmAny K cls [c1, c2, c3, c4, c5] = some b) : Looks M h (excMatches (.ref e) (.ref tp)) b := by
  intro A Q E s keep0 q
  obtain ⟨hp, g, d, tk, os⟩ := s
  have keep : ∀ a o, h.get? a = some o → hp.get? a = some o := keep0
  have isT : Looks M h (isInstance (.ref tp) (.type "tuple")) true := Looks.andThen (Looks.andThen (Looks.ld at_) .now) (Looks.of_pure isSubtype_tuple_tuple)
  obtain ⟨b1, r1, x1, y1, z1⟩ := exmAny_cons hx
  obtain ⟨b2, r2, x2, y2, z2⟩ := exmAny_cons y1
  obtain ⟨b3, r3, x3, y3, z3⟩ := exmAny_cons y2
  obtain ⟨b4, r4, x4, y4, z4⟩ := exmAny_cons y3
  obtain ⟨b5, r5, x5, y5, z5⟩ := exmAny_cons y4
  cases (show some false = some r5 from y5)
  obtain ⟨p1, q1⟩ := exm_cls (M := M) X x1
  obtain ⟨p2, q2⟩ := exm_cls (M := M) X x2
  obtain ⟨p3, q3⟩ := exm_cls (M := M) X x3
  obtain ⟨p4, q4⟩ := exm_cls (M := M) X x4
  obtain ⟨p5, q5⟩ := exm_cls (M := M) X x5
  replace p1 := p1.keeps keep
  replace p2 := p2.keeps keep
  replace p3 := p3.keeps keep
  replace p4 := p4.keeps keep
  replace p5 := p5.keeps keep
  replace q1 := q1.keeps keep
  replace q2 := q2.keeps keep
  replace q3 := q3.keeps keep
  replace q4 := q4.keeps keep
  replace q5 := q5.keeps keep
  replace ty := ty.keeps keep
  replace isT := isT.keeps keep
  replace at_ := keep _ _ at_
  subst z1 z2 z3 z4 z5
  unfold excMatches
  refine wpAny_bind (isT.at ?_)
  dsimp only
  rw [if_pos rfl]
  first
    | refine wpAny_bind (wpAny_seqItems at_ rfl ?_)
    | refine wpAny_bind (wpAny_bind (wpAny_seqItems at_ rfl (wpAny_pure ?_)))
  dsimp only [Option.getD_some, Option.getD]
  cases b1 <;> cases b2 <;> cases b3 <;> cases b4 <;> cases b5 <;>
    (repeat first
      | simp only [List.forIn_cons, List.forIn_nil, Bool.not_true, Bool.false_eq_true, if_false, if_true]
      | lk) <;> exact q
end Ks

/-! try with several clauses, some of them over a tuple of classes. -/
namespace Ks
open PySem PySem.Spec L2
open PyProof.Rows hiding St

/-- what the clause asks of the exception's class; the slot of its name; its suite -/
structure Claw where
  ask : PySem.W.Frag → Value → Option Bool
  slot : Option Nat
  suite : Addr → Value → Option Addr → TS
def Claw.wish (k : Claw) (a : Addr) (cls : Value) (d : Option Addr) (D : Ends) (σ : St) (H : Hp) : Prop := match k.slot with
  | none => k.suite a cls d D σ H
  | some i => k.suite a cls d (endsAs i D) (σ.set i (some (.ref a))) H
def wClaws (K : PySem.W.Frag) (Wout : WX) (D : Ends) : List Claw → WX
  | [] => Wout
  | k :: r => fun cls d σ H => ∃ b, k.ask K cls = some b ∧ (b = true → ∀ a, H a = none → k.wish a cls d D σ H) ∧ (b = false → wClaws K Wout D r cls d σ H)
def askOne (c : Value) : PySem.W.Frag → Value → Option Bool := fun K cls => PySem.W.exmOne K cls c
def askFive (cs : List Value) : PySem.W.Frag → Value → Option Bool := fun K cls => PySem.W.exmAny K cls cs
inductive ClawsOk (X : Cx) : List ExceptHandler → List Claw → Prop
  | nil : ClawsOk X [] []
  | bare {x : Str} {c : Value} {ts : Addr → Value → Option Addr → TS} {b : Stmt} {bs : List Stmt} {np pp : Pos} {hs : List ExceptHandler} {l : List Claw} (nm : Names X x c)
      (su : ∀ (a : Addr) (oe : Obj) (cls : Value) (d : Option Addr) (pn : List (Addr × Obj)), Zc cls d oe → (∃ vs, oe.data = .fields vs) → PSs (X.suite a ((a, oe) :: pn)) (b :: bs) (ts a cls d))
      (more : ClawsOk X hs l) : ClawsOk X (.ExceptHandler (some (.Name x np)) none (b :: bs) pp :: hs) (⟨askOne c, none, ts⟩ :: l)
  | named {x n : Str} {i : Nat} {c : Value} {ts : Addr → Value → Option Addr → TS} {b : Stmt} {bs : List Stmt} {np pp : Pos} {hs : List ExceptHandler} {l : List Claw} (nm : Names X x c)
      (hi : X.N[i]? = some n) (loc : X.env.kindOf n = some .local)
      (su : ∀ (a : Addr) (oe : Obj) (cls : Value) (d : Option Addr) (pn : List (Addr × Obj)), Zc cls d oe → (∃ vs, oe.data = .fields vs) → PSs (X.suite a ((a, oe) :: pn)) (b :: bs) (ts a cls d))
      (more : ClawsOk X hs l) : ClawsOk X (.ExceptHandler (some (.Name x np)) (some n) (b :: bs) pp :: hs) (⟨askOne c, some i, ts⟩ :: l)
  | five {x1 x2 x3 x4 x5 n : Str} {i kk : Nat} {c1 c2 c3 c4 c5 : Value} {ts : Addr → Value → Option Addr → TS} {b : Stmt} {bs : List Stmt} {n1 n2 n3 n4 n5 tp pp : Pos} {hs : List ExceptHandler} {l : List Claw}
      (m1 : Names X x1 c1) (m2 : Names X x2 c2) (m3 : Names X x3 c3) (m4 : Names X x4 c4) (m5 : Names X x5 c5)
      (hi : X.N[i]? = some n) (loc : X.env.kindOf n = some .local)
      (su : ∀ (a : Addr) (oe : Obj) (cls : Value) (d : Option Addr) (pn : List (Addr × Obj)), Zc cls d oe → (∃ vs, oe.data = .fields vs) → PSs (X.suite a ((a, oe) :: pn)) (b :: bs) (ts a cls d))
      (more : ClawsOk X hs l) : ClawsOk X (.ExceptHandler (some (.Tuple [.Name x1 n1, .Name x2 n2, .Name x3 n3, .Name x4 n4, .Name x5 n5] kk tp)) (some n) (b :: bs) pp :: hs) (⟨askFive [c1, c2, c3, c4, c5], some i, ts⟩ :: l)

theorem flying_grown {B h h' : Heap} {l : List Env} {a : Addr} {Z : Obj → Prop} (keep : ∀ b o, h.get? b = some o → h'.get? b = some o) (x : HandSPX.FlyingZ B l a Z h) : HandSPX.FlyingZ B l a Z h' := by
  obtain ⟨st, na, ff, oe, vs, T, oT, ts, e1, z, e2, e3, e4, e5, e6, e7, e8⟩ := x
  exact ⟨fun b o e => keep b o (st b o e), na, Heap.FunFrames.of_keeps (fun b o e _ => ⟨o, keep b o e, rfl⟩) ff, oe, vs, T, oT, ts, keep _ _ e1, z, e2, e3, e4, e5, keep _ _ e6, e7, e8⟩

section
variable {X : Cx} {body : List Stmt} {h0 : ExceptHandler} {hr : List ExceptHandler} {l : List Claw} {pos : Pos} {tb : WX → TS} {Wout : WX}
theorem ps_claws (stk : X.stack = X.env :: X.outer) (fra : X.env.frame = some X.env.locals) (nd : X.N.Nodup) (tk : Takes X Wout)
    (hb : ∀ (W : WX) (pn : List (Addr × Obj)) (xe : Value → Shared → Prop), Takes (X.tr pn xe) W → PassesOwn (model X.prog X.w) X.A X.env xe → PSs (X.tr pn xe) body (tb W))
    (hk : ClawsOk X (h0 :: hr) l) : PS X (.Try body (h0 :: hr) [] [] pos) (fun D σ H => tb (wClaws X.K Wout D l) D σ H) := by
  constructor
  intro pins s σ H D I h
  have ok := I.ok
  have frs1 : X.A.frames = some (X.env :: X.outer) := by rw [ok.frames, stk]
  refine wpAny_Try_except ?_
  let xe1 : Value → Shared → Prop := fun e z1 => wpAny (model X.prog X.w) X.A (noteFrame e X.env) (fun _ z2 => wpAny (model X.prog X.w) X.A (setFlight e none) (fun _ z3 =>
    wpAny (model X.prog X.w) X.A (handleBy e X.env (h0 :: hr)) (SP X pins D) X.xe z3) X.xe z2) X.xe z1
  refine wpAny_mono ((hb (wClaws X.K Wout D l) (X.pn ++ pins) xe1 ?_ PassesOwn.looking).run [] s σ H D (I.toTry _) h) (fun f s1 hsp => ?_) (fun _ _ he => he)
  · intro u s' xx
    obtain ⟨a, B0, sI, pins1, σ1, H1, cls, d, rfl, J0, nb, up, sky, na, os, ag, w⟩ := xx
    have J : Inv X pins σ1 H1 sI := J0.ofTry ok
    rw [show (X.tr (X.pn ++ pins) xe1).stack = X.env :: X.outer from stk] at sky
    show wpAny (model X.prog X.w) X.A (noteFrame (.ref a) X.env) _ _ _
    refine Sky.land Zc.steady frs1 fra sky fun h3 fl3 up3 => ?_
    have go : ∀ {hs2 : List ExceptHandler} {l2 : List Claw}, ClawsOk X hs2 l2 → ∀ hh : Heap, HandSPX.FlyingZ B0 (X.env :: X.outer) a (Zc cls d) hh → s'.heap.UpToSlots hh → wClaws X.K Wout D l2 cls d σ1 H1 →
        wpAny (model X.prog X.w) X.A (handleBy (.ref a) X.env hs2) (SP X pins D) X.xe { s' with heap := hh } := by
      intro hs2 l2 hk2
      have notIn : ∀ {hh : Heap}, HandSPX.FlyingZ B0 (X.env :: X.outer) a (Zc cls d) hh → a ∉ X.env.locals :: X.fs := fun {hh} fl hm => by
        obtain ⟨oe3, vs3, he3, hz3, hd3⟩ := fl.there
        have hm2 : a ∈ frs (X.env :: X.outer) := by
          unfold frs
          rw [List.filterMap_cons, fra]
          exact hm
        obtain ⟨_, o1, e1, hnf⟩ := fl.2.2.1.mem hm2
        rw [he3] at e1
        cases e1
        exact hnf _ hd3
      have nL : a ≠ X.env.locals := fun z => notIn fl3 (z ▸ List.mem_cons_self)
      have nF : a ∉ X.fs := fun z => notIn fl3 (List.mem_cons_of_mem _ z)
      have named : ∀ {hh : Heap} {x : Str} {c : Value} {np : Pos} {Q : Value → Shared → Prop} {E : Value → Shared → Prop}, HandSPX.FlyingZ B0 (X.env :: X.outer) a (Zc cls d) hh → s'.heap.UpToSlots hh → Names X x c → Q c { s' with heap := hh } →
          wpAny (model X.prog X.w) (X.A.mark (some (.ref a))) (eval (.Name x np) X.env) Q E { s' with heap := hh } := fun {hh x c np Q E} fl upp nm q => by
        obtain ⟨oe3, vs3, he3, hz3, hd3⟩ := fl.there
        have S3 := (J.landed nb fl.1 (up.trans upp) os ag : Inv X pins σ1 H1 { s' with heap := hh }).suite he3 hd3 na nL nF
        obtain ⟨hg, hdbg, hm | ⟨hm, hv, hnn⟩⟩ := nm
        · exact ld_glob (X := X.suite a ((a, oe3) :: (X.pn ++ pins))) S3 hg hm q hdbg
        · exact ld_blt (X := X.suite a ((a, oe3) :: (X.pn ++ pins))) S3 hg hm hv q hnn hdbg
      have looks : ∀ {hh : Heap}, HandSPX.FlyingZ B0 (X.env :: X.outer) a (Zc cls d) hh → PySem.W.Looks (model X.prog X.w) hh (typeOf (.ref a)) cls := fun {hh} fl A Q E s k q => by
        obtain ⟨oe3, vs3, he3, hz3, hd3⟩ := fl.there
        exact wpAny_typeOf_ref (k _ _ he3) (by rw [hz3.1]; exact q)
      induction hk2 with
      | nil =>
        intro hh fl upp w
        refine wpAny_handleBy_nil ?_
        obtain ⟨_, _, _, oe, vs, T, oT, ts', he, hz, hd, h1, hrT⟩ := id fl
        unfold PySem.passOn
        refine wpAny_bind (wpAny_field he hd h1 ?_)
        rw [if_neg (by simp)]
        have out : wpAny (model X.prog X.w) X.A (setFlight (.ref a) X.env.frame) (fun _ z4 => wpAny (model X.prog X.w) X.A (throw (.ref a) : Sem Flow) (SP X pins D) X.xe z4) X.xe { s' with heap := hh } := by
          rw [fra]
          refine HandSPX.setFlight_upZ fl fun h4 hh4 up4 => wpAny_throw (tk _ _ ?_)
          exact ⟨a, B0, sI, pins, σ1, H1, cls, d, rfl, J, nb, (up.trans upp).trans up4, .inr (.inr (by rw [stk]; exact hh4)), na, os, ag, w⟩
        first
          | exact wpAny_bind (wpAny_pure (wpAny_bind out))
          | exact wpAny_bind out
      | @bare x c ts b bs np pp hs3 l3 nm su more ih =>
        intro hh fl upp w
        obtain ⟨t, ht, yes, no⟩ := w
        have kin : X.K.In hh := (J.landed nb fl.1 (up.trans upp) os ag : Inv X pins σ1 H1 { s' with heap := hh }).kIn
        have LM := PySem.W.exm_one (M := model X.prog X.w) kin (looks fl) (show PySem.W.exmOne X.K cls c = some t from ht)
        refine wpAny_handleBy_cons (codeAny_handlers_test (named fl upp nm (LM.here ?_))) (by intro q; cases q)
        cases t with
        | false =>
          show wpAny _ X.A (handleBy (.ref a) X.env hs3) _ _ _
          exact ih hh fl upp (no rfl)
        | true =>
          refine codeAny_handlers_suite ?_
          refine HandSPX.lands_againZ fl fun h4 fl4 up4 => ?_
          have J4 : Inv X pins σ1 H1 { s' with heap := h4 } := J.landed nb fl4.1 ((up.trans upp).trans up4) os ag
          obtain ⟨oe4, vs4, he4, hz4, hd4⟩ := fl4.there
          have S4 := J4.suite he4 hd4 na nL nF
          refine wpAny_mono ((su a oe4 cls d (X.pn ++ pins) hz4 ⟨_, hd4⟩).run [] _ _ H1 _ S4 (yes rfl a na)) (fun f s6 hsp => ?_) (fun _ _ z => z.elim)
          cases f with
          | next => exact hsp.elim fun σ6 z => z.elim fun H6 z => ⟨_, _, z.1.unsuite ok, z.2⟩
          | brk => exact hsp.elim fun σ6 z => z.elim fun H6 z => ⟨_, _, z.1.unsuite ok, z.2⟩
          | cont => exact hsp.elim fun σ6 z => z.elim fun H6 z => ⟨_, _, z.1.unsuite ok, z.2⟩
          | ret u => exact hsp.elim fun v6 z => z.elim fun σ6 z => z.elim fun H6 z => ⟨_, _, _, z.1.unsuite ok, z.2.1, z.2.2⟩
      | @named x n i c ts b bs np pp hs3 l3 nm hi loc su more ih =>
        intro hh fl upp w
        obtain ⟨t, ht, yes, no⟩ := w
        have kin : X.K.In hh := (J.landed nb fl.1 (up.trans upp) os ag : Inv X pins σ1 H1 { s' with heap := hh }).kIn
        have LM := PySem.W.exm_one (M := model X.prog X.w) kin (looks fl) (show PySem.W.exmOne X.K cls c = some t from ht)
        refine wpAny_handleBy_cons (codeAny_handlers_test (named fl upp nm (LM.here ?_))) (by intro q; cases q)
        cases t with
        | false =>
          show wpAny _ X.A (handleBy (.ref a) X.env hs3) _ _ _
          exact ih hh fl upp (no rfl)
        | true =>
          refine codeAny_handlers_suite_as ?_
          refine HandSPX.lands_againZ fl fun h4 fl4 up4 => ?_
          have J4 : Inv X pins σ1 H1 { s' with heap := h4 } := J.landed nb fl4.1 ((up.trans upp).trans up4) os ag
          obtain ⟨oe4, vs4, he4, hz4, hd4⟩ := fl4.there
          have S4 := J4.suite he4 hd4 na nL nF
          refine store_ok (X := X.suite a ((a, oe4) :: (X.pn ++ pins))) (v := .ref a) S4 nd hi (.inl loc) rfl (fun s5 S5 => ?_) (.inr loc)
          refine wpAny_mono ((su a oe4 cls d (X.pn ++ pins) hz4 ⟨_, hd4⟩).run [] s5 _ H1 _ S5 (yes rfl a na)) (fun f s6 hsp => ?_) (fun _ _ z => z.elim)
          have done : ∀ {σ6 : St} {H6 : Hp} {Q : Shared → Prop}, Inv (X.suite a ((a, oe4) :: (X.pn ++ pins))) [] σ6 H6 s6 → (∀ s7, Inv X pins (σ6.set i none) H6 s7 → Q s7) →
              wpAny (model X.prog X.w) X.A (do bindName X.env n .none; unbindBehindTheSuite X.env n pp) (fun _ s7 => Q s7) X.xe s6 := fun {σ6 H6 Q} S6 hq => gone_ok (S6.unsuite ok) nd hi loc hq
          cases f with
          | next => exact hsp.elim fun σ6 z => z.elim fun H6 z => done z.1 fun s7 J7 => ⟨_, _, J7, z.2⟩
          | brk => exact hsp.elim fun σ6 z => z.elim fun H6 z => done z.1 fun s7 J7 => ⟨_, _, J7, z.2⟩
          | cont => exact hsp.elim fun σ6 z => z.elim fun H6 z => done z.1 fun s7 J7 => ⟨_, _, J7, z.2⟩
          | ret u => exact hsp.elim fun v6 z => z.elim fun σ6 z => z.elim fun H6 z => done z.1 fun s7 J7 => ⟨_, _, _, J7, z.2.1, z.2.2⟩
      | @five x1 x2 x3 x4 x5 n i kk c1 c2 c3 c4 c5 ts b bs n1 n2 n3 n4 n5 tp pp hs3 l3 m1 m2 m3 m4 m5 hi loc su more ih =>
        intro hh0 fl0 upp0 w
        obtain ⟨t, ht, yes, no⟩ := w
        have grow : ∀ b o, hh0.get? b = some o → (hh0.push { cls := .type "tuple", data := .seq [c1, c2, c3, c4, c5].toArray }).get? b = some o := fun _ _ z => Heap.get?_push_of_some _ z
        have fl := flying_grown grow fl0
        have upp := upp0.trans (Heap.UpToSlots.of_keeps grow)
        have kin : X.K.In (hh0.push { cls := .type "tuple", data := .seq [c1, c2, c3, c4, c5].toArray }) := (J.landed nb fl.1 (up.trans upp) os ag : Inv X pins σ1 H1 { s' with heap := _ }).kIn
        have LM := exm_five (M := model X.prog X.w) kin (looks fl) (Heap.get?_push_size hh0 rfl) (show PySem.W.exmAny X.K cls [c1, c2, c3, c4, c5] = some t from ht)
        refine wpAny_handleBy_cons (codeAny_handlers_test (wpAny_Tuple ?_)) (by intro q; cases q)
        refine wpAny_items_cons (named fl0 upp0 m1 ?_)
        refine wpAny_items_cons (named fl0 upp0 m2 ?_)
        refine wpAny_items_cons (named fl0 upp0 m3 ?_)
        refine wpAny_items_cons (named fl0 upp0 m4 ?_)
        refine wpAny_items_cons (named fl0 upp0 m5 ?_)
        refine wpAny_items_nil ⟨by size_fits, LM.here ?_⟩
        cases t with
        | false =>
          show wpAny _ X.A (handleBy (.ref a) X.env hs3) _ _ _
          exact ih _ fl upp (no rfl)
        | true =>
          refine codeAny_handlers_suite_as ?_
          refine HandSPX.lands_againZ fl fun h4 fl4 up4 => ?_
          have J4 : Inv X pins σ1 H1 { s' with heap := h4 } := J.landed nb fl4.1 ((up.trans upp).trans up4) os ag
          obtain ⟨oe4, vs4, he4, hz4, hd4⟩ := fl4.there
          have S4 := J4.suite he4 hd4 na nL nF
          refine store_ok (X := X.suite a ((a, oe4) :: (X.pn ++ pins))) (v := .ref a) S4 nd hi (.inl loc) rfl (fun s5 S5 => ?_) (.inr loc)
          refine wpAny_mono ((su a oe4 cls d (X.pn ++ pins) hz4 ⟨_, hd4⟩).run [] s5 _ H1 _ S5 (yes rfl a na)) (fun f s6 hsp => ?_) (fun _ _ z => z.elim)
          have done : ∀ {σ6 : St} {H6 : Hp} {Q : Shared → Prop}, Inv (X.suite a ((a, oe4) :: (X.pn ++ pins))) [] σ6 H6 s6 → (∀ s7, Inv X pins (σ6.set i none) H6 s7 → Q s7) →
              wpAny (model X.prog X.w) X.A (do bindName X.env n .none; unbindBehindTheSuite X.env n pp) (fun _ s7 => Q s7) X.xe s6 := fun {σ6 H6 Q} S6 hq => gone_ok (S6.unsuite ok) nd hi loc hq
          cases f with
          | next => exact hsp.elim fun σ6 z => z.elim fun H6 z => done z.1 fun s7 J7 => ⟨_, _, J7, z.2⟩
          | brk => exact hsp.elim fun σ6 z => z.elim fun H6 z => done z.1 fun s7 J7 => ⟨_, _, J7, z.2⟩
          | cont => exact hsp.elim fun σ6 z => z.elim fun H6 z => done z.1 fun s7 J7 => ⟨_, _, J7, z.2⟩
          | ret u => exact hsp.elim fun v6 z => z.elim fun σ6 z => z.elim fun H6 z => done z.1 fun s7 J7 => ⟨_, _, _, J7, z.2.1, z.2.2⟩
    exact go hk h3 fl3 up3 w
  · cases f with
    | next => exact hsp.elim fun σ6 z => z.elim fun H6 z => wpAny_execs_nil ⟨_, _, z.1.ofTry ok, z.2⟩
    | brk => exact hsp.elim fun σ6 z => z.elim fun H6 z => ⟨_, _, z.1.ofTry ok, z.2⟩
    | cont => exact hsp.elim fun σ6 z => z.elim fun H6 z => ⟨_, _, z.1.ofTry ok, z.2⟩
    | ret u => exact hsp.elim fun v6 z => z.elim fun σ6 z => z.elim fun H6 z => ⟨_, _, _, z.1.ofTry ok, z.2.1, z.2.2⟩
end
end Ks

/-! isinstance of the handled exception, in a def that is called with it. -/
namespace Ks
open PySem PySem.Spec PySem.W PySem.Calls PyProof.Rows
section
variable {prog : Program} {w : World} {A : Around} {E : Value → Shared → Prop} {s : Shared} {K : Frag} {x D : Addr} {ox : Obj} {od : Option Obj}
theorem class_found (ex : L2.ExcC K D) : findObj K D od "__class__" = some (.bind (.builtin "getset_descriptor.__get__") (.builtin "object.__class__")) := by
  obtain ⟨cd, hc, _⟩ := any_some ex.hd
  unfold findObj
  rw [hc, Option.bind_some, ex.ha, Option.bind_some]
  simp [ex.hn, ex.ht]
theorem class_asked {Q : Option Value → Shared → Prop} (ex : L2.ExcC K D) (X : K.In s.heap) (I : InstAt s.heap x ox D od) (go : Q (some (.ref D)) { s with toks := s.toks + 1 }) :
    wpAny (model prog w) A (getAttr? (.ref x) "__class__") Q E s := by
  have found := class_found (od := od) ex
  obtain ⟨hp, g, d, t, os⟩ := s
  have ofX := I.type (M := model prog w)
  have own := looks_findIn (M := model prog w) X ex.hg
  have hook := looks_findIn (M := model prog w) X ex.hk
  have seen := looks_find (M := model prog w) X I found
  have isE : Looks (model prog w) hp (isInstance (.ref x) (.type "BaseException")) true := ofX.andThen (looks_subIn X ex.hs)
  have n0 : (false && onTheHeap (Value.builtin "BaseException.__getattribute__")) = false := rfl
  have n1 : (Value.builtin "BaseException.__getattribute__" == Value.builtin "object.__getattribute__") = false := by decide +kernel
  have n2 : (onTheHeap (Value.ref D) && Value.builtin "BaseException.__getattribute__" == Value.builtin "object.__getattribute__") = false := by
    rw [n1]
    rfl
  unfold getAttr? getAttrBy? getAttrBy
  refine wpAny_bind (wpAny_mkText (wpAny_bind (wpAny_attempt (wpAny_holding (wpAny_bind (ofX.at (wpAny_bind (own.at ?_))))))))
  show wpAny _ _ (if (onTheHeap (Value.ref D) && Value.builtin "BaseException.__getattribute__" == Value.builtin "object.__getattribute__") = true then _ else _) _ _ _
  rw [n2, if_neg Bool.false_ne_true]
  unfold getAttrByItsOwn hookBefore
  refine wpAny_bind ?_
  rw [if_pos (show onTheHeap (Value.ref D) = true from rfl)]
  refine hook.at ?_
  refine wpAny_bind (wpAny_attempt (wpAny_holding ?_))
  unfold callGetattribute
  rw [n0, if_neg Bool.false_ne_true]
  unfold boundAndCalled
  rw [PySem.F.excAttr_ValueError.ga.bind (.ref x)]
  refine wpAny_bind (wpAny_pure ?_)
  show wpAny _ _ (call (.builtin "BaseException.__getattribute__") [.ref x, .str "__class__" t]) _ _ _
  refine wpAny_call (codeAny_call_builtin PySem.F.excAttr_ValueError.ga.plain PySem.F.entry_bexc_ga ?_)
  refine @check_slot (model prog w) _ _ ⟨hp, g, d, t + 1, os⟩ "BaseException.__getattribute__" "BaseException" "__getattribute__" (.ref x) [.str "__class__" t] [] _ (by decide +kernel) (by decide +kernel) isE (PySem.F.args_bexc_ga (.ref x) (.str "__class__" t)) ?_
  unfold Builtin.«object.__getattribute__»
  refine wpAny_bind (wpAny_of_eq (a := ((Value.ref x : Value), [Value.str "__class__" t])) (by first | rfl | (simp only [slotArgs]; rfl)) ?_)
  refine wpAny_bind (wpAny_pure (wpAny_bind (ofX.at (wpAny_bind (seen.at ?_)))))
  show wpAny _ _ (holding [Value.builtin "object.__class__"] (call (.builtin "getset_descriptor.__get__") [.builtin "object.__class__", .ref x, .ref D]) >>= ret) _ _ _
  refine wpAny_bind (wpAny_holding (wpAny_call (class_get (s := ⟨hp, g, d, t + 1, os⟩) (ox := ox) (od := od) X I ex.hm ?_)))
  refine wpAny_pure ?_
  show wpAny _ _ (handedOut (.ref D)) _ _ _
  rw [handedOut_of (v := .ref D) rfl]
  first
    | exact wpAny_pure (wpAny_pure go)
    | exact wpAny_pure go
    | exact wpAny_pure (wpAny_bind (wpAny_pure (wpAny_pure go)))
theorem kitx_handled (ex : L2.ExcC K D) : KitX K (.ref x) (.ref D) (fun h => ∃ od, InstAt h x ox D od) where
  ty := fun _ _ _ I => by
    obtain ⟨od, I⟩ := I
    exact I.type
  it := fun _ _ X _ => by
    obtain ⟨cd, hc, _⟩ := any_some ex.hd
    unfold clsIn at hc
    split at hc
    · rename_i q1 q2 q3 q4 at_
      intro A2 Q2 E2 s2 k q
      unfold isType loadHead
      exact wpAny_bind (wpAny_loadPart (k _ _ (X _ _ at_)) (wpAny_pure q))
    · cases hc
  ne := fun h tp dd its n sl X at2 => by
    obtain ⟨cd, hc, _⟩ := any_some ex.hd
    refine Bool.eq_false_iff.mpr fun q => ?_
    obtain rfl : D = tp := Value.ref.inj (beq_iff_eq.mp q)
    unfold clsIn at hc
    split at hc
    · rename_i q1 q2 q3 q4 at_
      cases (X _ _ at_).symm.trans at2
    · cases hc
  ca := fun X I k => by
    obtain ⟨od, I⟩ := I
    exact class_asked ex X I k
end
end Ks
namespace Ks
open PySem PySem.Spec L2
open PyProof.Rows hiding St
/-- isinstance(e, c), e the handled exception, d its dict -/
def rIsX (K : PySem.W.Frag) (D a : Addr) (d : Option Addr) : List V → Hp → VK → Prop := fun xs H Q => ∃ (c : V) (cv : Value) (b : Bool), xs = [.ref a, c] ∧ (∀ u, RelV c u → u = cv) ∧ PySem.W.kitOne K (.ref D) cv = some b ∧
  (∀ dd, d = some dd → ∃ fs, H dd = some (.xd fs)) ∧ Q (.bl b) H
theorem call_isX {X : Cx} {a D : Addr} {d : Option Addr} {oe : Obj} (C : ExcC X.K D) (hz : Zc (.ref D) d oe) (hf : ∃ vs, oe.data = .fields vs) (hp : (a, oe) ∈ X.pn) : CallR X (.builtin "isinstance") (rIsX X.K D a d) := by
  intro pins s σ H xs us Q I r h
  obtain ⟨c, cv, b, rfl, hcv, e, hd, q⟩ := h
  obtain ⟨u1, u2, rfl, r1, r2⟩ := vals2 r
  cases r1
  have ec := hcv _ r2
  subst ec
  obtain ⟨hget, _⟩ := I.pin (a, oe) (List.mem_append.mpr (.inl hp))
  obtain ⟨vs, hv⟩ := hf
  have J : ∃ od, PySem.W.InstAt s.heap a oe D od := by
    obtain ⟨oc, odd, oda, osl⟩ := oe
    obtain ⟨h1, h2⟩ := hz
    dsimp only at h1 h2 hv
    subst h1 hv
    cases d with
    | none =>
      subst h2
      exact ⟨none, hget, rfl, rfl, trivial⟩
    | some dd =>
      subst h2
      obtain ⟨fs, e1⟩ := hd dd rfl
      obtain ⟨mA, ⟨o2, _, _, at2, _⟩, _⟩ := (show ObjOk X.prog X.w H s.heap dd (.xd fs) from I.hok dd _ e1)
      exact ⟨some o2, hget, rfl, rfl, at2⟩
  exact PySem.W.kia_one (kitx_handled C) I.kIn J e (fun z => nomatch z) fun tk => ⟨.bl b, H, I.kept (t' := tk) fun _ _ z => z, rfl, q⟩
/-! ### a def that is called with the handled exception -/
abbrev SpX := Addr → Value → Option Addr → Hp → VK → Prop
/-- its promise: p the exception and its object -/
structure FnX (P : Program) (w : World) (K : PySem.W.Frag) (mg : Str → Option Value) (base : Heap) (k : Nat) (f : Addr) (fd : FuncData) (x : Str) (sp : SpX) : Prop where
  go : ∀ (A : Around) (outer : List Env) (s : Shared) (H : Hp) (p : Addr × Obj) (cls : Value) (d : Option Addr) (Q : VK), L2H.RoomH k A → L2H.PinOk outer H s p → Zc cls d p.2 → (∃ vs, p.2.data = .fields vs) → Env0 P w K mg base A outer s H →
    BindsTo s fd ⟨[.ref p.1], []⟩ [(x, .ref p.1)] → sp p.1 cls d H Q → codeAny (model P w) A (.call (.ref f) ⟨[.ref p.1], []⟩) (CR CX0 outer P w H s Q fun _ _ _ => False) s
theorem fnx_of {P : Program} {w : World} {K : PySem.W.Frag} {mg : Str → Option Value} {base : Heap} {k : Nat} {x qual y : Str} {st : Stmt} {f : Addr} {fd : FuncData} {N : List Str} {sp : SpX} (F : Fun K x qual st f fd) (S : FnScope N [y] (defScope st))
    (hbody : ∀ (cdv : Value) (A : Around) (outer : List Env) (s : Shared) (H : Hp) (p : Addr × Obj) (cls : Value) (d : Option Addr) (Q : VK), L2H.RoomH k (A.deeper (envOfC qual (defScope st) s.heap.objs.size f cdv)) → Zc cls d p.2 → (∃ vs, p.2.data = .fields vs) → sp p.1 cls d H Q →
      ∃ t, PSs (L2H.cxH CX0 P w K mg base N qual (defScope st) f cdv A outer s H (fun _ _ _ => False) p) (defBody st) t ∧ t { nx := fun _ H' => Q .non H', rt := Q } (start N [.ref p.1]) H) : FnX P w K mg base (k + 1) f fd y sp := by
  obtain ⟨oc, od, kV, doc, pm, an, cdv, ct, osl, rfl, lk, hcd⟩ := F.ex
  constructor
  intro A outer s H p cls d Q hr hpin hz hf e0 hb hsp
  have keep := fun b o e => (e0.bs b o e).1
  have par : ∀ z ∈ [(y, Value.ref p.1)], (defScope st).names.lookup z.1 = some .local ∨ ((defScope st).names.lookup z.1 = some .cell ∧ ((cellsFrom (s.heap.objs.size + 1) (defScope st).names []).lookup z.1).isSome = true) := by
    intro z hz
    have ez : z = (y, Value.ref p.1) := by simpa using hz
    subst ez
    have q := S.par y (by simp)
    exact q.imp id fun q => ⟨q, PySem.W.cellsFrom_some _ _ _ (.inl q)⟩
  refine codeAny_call_function hr.depth ((e0.mod.kin.keeps keep) _ _ lk) rfl S.co S.gen rfl (PySem.W.codeRec_of (e0.mod.kin.keeps keep) hcd) (hb _ _ _ _ ?_)
  refine wpAny_newFunctionEnv_cells S.kind par ?_
  intro env he s1 hx
  subst he
  refine ⟨(e0.mod.nolimit.keeps keep).keeps hx.toInCall.keep, codeAny_func ?_⟩
  obtain ⟨t, ht, hq⟩ := hbody cdv A outer s H p cls d Q (hr.deeper _) hz hf hsp
  have I : Inv (L2H.cxH CX0 P w K mg base N qual (defScope st) f cdv A outer s H (fun _ _ _ => False) p) [] (start N [.ref p.1]) H s1 := L2H.inv_startH (ps := [y]) (us := [.ref p.1]) S hpin e0 rfl (.cons rfl .nil) hx
  refine wpAny_mono (ht.run [] s1 _ H _ I hq) ?_ (fun _ _ z => z)
  intro fl s' hs
  cases fl with
  | next => exact hs.elim fun σ' z => z.elim fun H' z => ⟨V.non, H', z.1.os, z.1.bare, z.1.base, z.1.hok, rfl, z.2⟩
  | ret u => exact hs.elim fun v z => z.elim fun σ' z => z.elim fun H' z => ⟨v, H', z.1.os, z.1.bare, z.1.base, z.1.hok, z.2.1, z.2.2⟩
  | brk => exact hs.elim fun _ z => z.elim fun _ z => z.2.elim
  | cont => exact hs.elim fun _ z => z.elim fun _ z => z.2.elim
/-- the call of it, in the suite -/
def tCallX (a : Addr) (cls : Value) (d : Option Addr) (sp : SpX) (t : TA) : TE := fun σ H Q => t σ H fun vs H1 => vs = [.ref a] ∧ sp a cls d H1 Q
theorem pe_callX {X : Cx} {a : Addr} {oe : Obj} {pn : List (Addr × Obj)} {cls : Value} {d : Option Addr} {k : Nat} {f : Addr} {fd : FuncData} {x y : Str} {p pos : Pos} {e : Expr} {t : TA} {sp : SpX} (F : FnX X.prog X.w X.K X.mg X.base k f fd y sp) (hr : L2H.RoomH k X.A) (hz : Zc cls d oe) (hf : ∃ vs, oe.data = .fields vs)
    (hg : Gl X x) (hm : X.mg x = some (.ref f)) (hk : PySem.W.keepIn X.K (.ref f) = true) (hb : Binds X.K fd [y] []) (ha : PA (X.suite a ((a, oe) :: pn)) [e] t) (hdb : (x == ("__debug__" : Str)) = false := by decide)
    (hst : starEach [e] X.env = (false, eval e X.env) :: starEach [] X.env := by rfl) (hpl : (backTo pos (starEach [] X.env)).any (·.1) = false := by rfl) :
    PE (X.suite a ((a, oe) :: pn)) (.Call (.Name x p) [e] [] pos) (tCallX a cls d sp t) := by
  constructor
  intro pins s σ H Q I h
  refine wpAny_Call_Name_kw (ld_glob I hg hm ?_ hdb)
  refine PySem.W.callWith_K (h₀ := X.base) I.ok.mod.kin hk (thn (ha.run pos pins s σ H (fun vs H1 => vs = [.ref a] ∧ sp a cls d H1 Q) I h) ?_) hst hpl
  · rintro us s1 ⟨vs, H1, I1, r, ev, q⟩
    subst ev
    obtain ⟨u, rfl, ru⟩ := vals1 r
    cases ru
    refine ⟨I1.kIn, ?_⟩
    have b := hb s1 [.ref a] I1.kIn rfl
    have P1 := I1.pin (a, oe) (List.mem_append_left _ List.mem_cons_self)
    have hpin : L2H.PinOk X.stack H1 s1 (a, oe) := ⟨P1.1, P1.2.1, fun hm => (List.mem_cons.mp (I1.stkSub a hm)).elim P1.2.2.1 P1.2.2.2.1, P1.2.2.2.2⟩
    refine wpAny_call (codeAny_mono (F.go _ X.stack s1 H1 (a, oe) cls d Q (⟨hr.dp, hr.un⟩ : L2H.RoomH k (X.A.mark (some (.ref a)))) hpin hz hf I1.env0 b q) fun r s' hq => ?_)
    cases r with
    | error e => exact hq.elim
    | ok fl =>
      cases fl with
      | ret u => exact I1.after hq
      | next => exact hq.elim
      | brk => exact hq.elim
      | cont => exact hq.elim
end Ks

/-! repr of tuples that hold flat dicts. -/
namespace Ks
open PySem PySem.Spec L2
open PyProof.Rows hiding St
mutual
/-- flat values, flat dicts, tuples of such -/
inductive ShD (K : PySem.W.Frag) (H : Hp) : V → PyData → Prop
  | flat {v : V} {d : PyData} : flatD v = some d → ShD K H v d
  | tup {a : Addr} {xs : List V} {ds : List PyData} : SqT K H a xs → ShDs K H xs ds → ShD K H (.ref a) (.tuple ds)
  | dct {a : Addr} {kvs : List (Key × V)} {ds : List (PyData × PyData)} : H a = some (.dK kvs) → FlatKv kvs ds → ShD K H (.ref a) (.dict ds)
inductive ShDs (K : PySem.W.Frag) (H : Hp) : List V → List PyData → Prop
  | nil : ShDs K H [] []
  | cons {v : V} {vs : List V} {d : PyData} {ds : List PyData} : ShD K H v d → ShDs K H vs ds → ShDs K H (v :: vs) (d :: ds)
end
section
variable {X : Cx} {pins : List (Addr × Obj)} {σ : L2.St} {H : Hp} {s : Shared}
mutual
theorem shd_reads (I : Inv X pins σ H s) : ∀ {v : V} {d : PyData}, ShD X.K H v d → ∀ {u : Value}, RelV v u → ∃ as, Reads s.heap u d as ∧ sysModules ∉ as
  | _, _, .flat e, _, r => ⟨[], flat_reads e r, by simp⟩
  | _, _, .tup h hs, u, r => by
    obtain ⟨its, rv, ⟨o, ho, hc, n, hd⟩, _⟩ := I.tuple h
    obtain ⟨as, h1, h2⟩ := shds_reads I hs rv
    cases (show u = Value.ref _ from r)
    exact ⟨as, Reads.tuple ho hc hd (by simpa using h1), h2⟩
  | _, _, .dct (a := a) ha fl, u, r => by
    obtain ⟨_, nsys, vs, rkv, o, es, ep, ho, hx, hdt, hk, hp, hnd⟩ := (show ObjOk X.prog X.w H s.heap a (.dK _) from I.hok a _ ha)
    cases (show u = Value.ref a from r)
    obtain ⟨ra, rb⟩ := kv_reads (h := s.heap) rkv hp fl
    refine ⟨_, Reads.dict ho hx.1 hdt ra rb, fun hm => ?_⟩
    simp only [List.append_nil, List.mem_singleton] at hm
    rw [hm] at nsys
    simp at nsys
theorem shds_reads (I : Inv X pins σ H s) : ∀ {vs : List V} {ds : List PyData}, ShDs X.K H vs ds → ∀ {us : List Value}, Vals vs us → ∃ as, ReadsAll s.heap us ds as ∧ sysModules ∉ as
  | _, _, .nil, _, .nil => ⟨_, .nil, by simp⟩
  | _, _, .cons h1 h2, _, .cons r1 r2 => by
    obtain ⟨as, q1, m1⟩ := shd_reads I h1 r1
    obtain ⟨bs, q2, m2⟩ := shds_reads I h2 r2
    exact ⟨_, .cons q1 q2, fun hm => (List.mem_append.mp hm).elim m1 m2⟩
end
end
def Shows2 (K : PySem.W.Frag) (H : Hp) (x : V) (d : PyData) : Prop := (Dp K H x d ∧ d.hasDict = false) ∨ ShD K H x d
section
variable {X : Cx}
def rShow2 (K : PySem.W.Frag) : List V → Hp → VK → Prop := fun xs H Q => ∃ x d, xs = [x] ∧ Shows2 K H x d ∧ (∃ a, x = .ref a) ∧ d.showable = true ∧ d.depth ≤ 50 ∧ d.shown.length ≤ sizeLine ∧ Q (.str d.shown) H
theorem call_show2 (hg : X.A.guards = some []) (hu : X.A.units + 100 < cLine) : CallR X (.builtin "repr") (rShow2 X.K) := by
  intro pins s σ H xs us Q I r h
  obtain ⟨x, d, rfl, hs, ⟨a, rfl⟩, sh, dp, sz, q⟩ := h
  obtain ⟨u, rfl, ru⟩ := vals1 r
  cases ru
  have byRef : ∀ {as : List Addr}, Reads s.heap (.ref a) d as → (d.hasDict = true → sysModules ∉ as) → wpAny (model X.prog X.w) X.A (call (.builtin "repr") [.ref a]) (EP X pins σ Q) X.xe s := fun {as} hr hm =>
    repr_of_reads' hr sh hm hg (by omega) (fun _ _ z => z) (fun h' u tk k => ⟨.str d.shown, H, I.kept (t' := tk) k, ⟨_, rfl⟩, q⟩) sz
  rcases hs with ⟨hd, nd⟩ | hd
  · obtain ⟨as, hr⟩ := Dp.reads I d _ _ hd (show RelV (.ref a) (.ref a) from rfl)
    exact byRef hr (PyData.noDict_hsm nd)
  · obtain ⟨as, hr, hm⟩ := shd_reads I hd (show RelV (.ref a) (.ref a) from rfl)
    exact byRef hr fun _ => hm
end
end Ks

namespace K00
open PySem PySem.Spec L2
open PyProof.Rows hiding St
def topS (i : Nat) : Stmt := PySem.Challenge.pw_mayrows_k00_whole_errors.main.body.getD i (.Pass ⟨0, 0, 0, 0⟩)
abbrev sParseerrorInit : Stmt := inClass (topS 9) 0
theorem scParseerrorInit : FnScope ["self", "spot"] ["self", "spot"] (defScope sParseerrorInit) := ⟨rfl, rfl, rfl, by decide +kernel, rfl, by decide +kernel, by decide +kernel⟩
abbrev sInvalidnumberInit : Stmt := inClass (topS 10) 0
theorem scInvalidnumberInit : FnScope ["self", "given"] ["self", "given"] (defScope sInvalidnumberInit) := ⟨rfl, rfl, rfl, by decide +kernel, rfl, by decide +kernel, by decide +kernel⟩
abbrev sUnknownnameInit : Stmt := inClass (topS 11) 0
theorem scUnknownnameInit : FnScope ["self", "wanted"] ["self", "wanted"] (defScope sUnknownnameInit) := ⟨rfl, rfl, rfl, by decide +kernel, rfl, by decide +kernel, by decide +kernel⟩
abbrev sToomanyInit : Stmt := inClass (topS 12) 0
theorem scToomanyInit : FnScope ["self", "most"] ["self", "most"] (defScope sToomanyInit) := ⟨rfl, rfl, rfl, by decide +kernel, rfl, by decide +kernel, by decide +kernel⟩
abbrev sRefusedInit : Stmt := inClass (topS 13) 0
theorem scRefusedInit : FnScope ["self", "reason"] ["self", "reason"] (defScope sRefusedInit) := ⟨rfl, rfl, rfl, by decide +kernel, rfl, by decide +kernel, by decide +kernel⟩
abbrev sNothingtoundoInit : Stmt := inClass (topS 14) 0
theorem scNothingtoundoInit : FnScope ["self", "many"] ["self", "many"] (defScope sNothingtoundoInit) := ⟨rfl, rfl, rfl, by decide +kernel, rfl, by decide +kernel, by decide +kernel⟩
abbrev sLbag : Stmt := topS 16
theorem scLbag : FnScope ["_law_script", "_law_at", "_law_cell", "_law_great", "_law_mixed"] ["_law_script", "_law_at"] (defScope sLbag) := ⟨rfl, rfl, rfl, by decide +kernel, rfl, by decide +kernel, by decide +kernel⟩
abbrev sLdraw : Stmt := topS 17
theorem scLdraw : FnScope ["_law_bag_here", "_law_total", "_law_found", "_law_one", "_law_two"] ["_law_bag_here", "_law_total"] (defScope sLdraw) := ⟨rfl, rfl, rfl, by decide +kernel, rfl, by decide +kernel, by decide +kernel⟩
abbrev sLoneOf : Stmt := topS 18
theorem scLoneOf : FnScope ["_law_bag_here", "_law_items"] ["_law_bag_here", "_law_items"] (defScope sLoneOf) := ⟨rfl, rfl, rfl, by decide +kernel, rfl, by decide +kernel, by decide +kernel⟩
abbrev sLshuffled : Stmt := topS 19
theorem scLshuffled : FnScope ["_law_bag_here", "_law_items", "_law_waits", "_law_turn"] ["_law_bag_here", "_law_items"] (defScope sLshuffled) := ⟨rfl, rfl, rfl, by decide +kernel, rfl, by decide +kernel, by decide +kernel⟩
abbrev sLraised : Stmt := topS 20
theorem scLraised : FnScope ["_law_which", "_law_text", "_law_value", "_law_number", "_law_reason"] ["_law_which", "_law_text", "_law_value", "_law_number", "_law_reason"] (defScope sLraised) := ⟨rfl, rfl, rfl, by decide +kernel, rfl, by decide +kernel, by decide +kernel⟩
abbrev sLcaught : Stmt := topS 21
theorem scLcaught : FnScope ["_law_which", "_law_text", "_law_value", "_law_number", "_law_reason", "e"] ["_law_which", "_law_text", "_law_value", "_law_number", "_law_reason"] (defScope sLcaught) := ⟨rfl, rfl, rfl, by decide +kernel, rfl, by decide +kernel, by decide +kernel⟩
abbrev sLclasses : Stmt := topS 22
theorem scLclasses : FnScope ["_law_error", "_law_found"] ["_law_error"] (defScope sLclasses) := ⟨rfl, rfl, rfl, by decide +kernel, rfl, by decide +kernel, by decide +kernel⟩
abbrev sLclassesOf : Stmt := topS 23
theorem scLclassesOf : FnScope ["_law_which", "_law_text", "_law_value", "_law_number", "_law_reason", "e"] ["_law_which", "_law_text", "_law_value", "_law_number", "_law_reason"] (defScope sLclassesOf) := ⟨rfl, rfl, rfl, by decide +kernel, rfl, by decide +kernel, by decide +kernel⟩
abbrev sLdueClasses : Stmt := topS 24
theorem scLdueClasses : FnScope ["_law_which", "_law_due", "_law_at"] ["_law_which"] (defScope sLdueClasses) := ⟨rfl, rfl, rfl, by decide +kernel, rfl, by decide +kernel, by decide +kernel⟩
abbrev sLkept : Stmt := topS 25
theorem scLkept : FnScope ["_law_which", "_law_value", "_law_number", "_law_reason"] ["_law_which", "_law_value", "_law_number", "_law_reason"] (defScope sLkept) := ⟨rfl, rfl, rfl, by decide +kernel, rfl, by decide +kernel, by decide +kernel⟩
abbrev sLaw : Stmt := topS 26
theorem scLaw : FnScope ["_law_script", "_law_at", "_law_bag_here", "_law_text", "_law_number", "_law_value", "_law_reason", "_law_which", "_law_kept_here", "_law_turn"] ["_law_script"] (defScope sLaw) := ⟨rfl, rfl, rfl, by decide +kernel, rfl, by decide +kernel, by decide +kernel⟩
end K00

namespace K00
open PySem PySem.Spec L2 Ks
open PyProof.Rows hiding St
theorem cut1L (xs : List V) : cutV xs none (some 1) = xs.take 1 := by
  unfold cutV
  rw [show HT.sIx xs.length xs.length (some 1) = min 1 xs.length from HT.sIx_nat xs.length xs.length 1, HT.sIx_none]
  cases xs with
  | nil => rfl
  | cons x r =>
    rw [show min 1 (x :: r).length = 1 by
      rw [List.length_cons]
      omega]
    rfl
theorem same_new {H : Hp} {p : Addr} {o : HO} (np : H p = none) : Same H (upd H p o) := fun b x e => by
  rw [upd_ne (ne_of_none e np)]
  exact e
section
variable {P : Program} {w : World} {K : PySem.W.Frag} {mg : Str → Option Value} {base : Heap}
theorem okLdraw {f : Addr} {fd : FuncData} (D : Dn K mg "_law_draw" sLdraw ["_law_bag_here", "_law_total"] f fd) (T : Bx mg) : FnOk P w K mg base CX0 1 f fd ["_law_bag_here", "_law_total"] spDraw := by
  refine D.F.ok scLdraw (fun vs H Q E h => ?_) (fun cdv A outer s H vs Q E hr h => ?_)
  · obtain ⟨b, t, rfl, _⟩ := h
    rfl
  · obtain ⟨b, t, rfl, ht, hw, ⟨g, m, c, hb⟩, q⟩ := h
    refine ⟨_, ((pss_cons (ps_if (pt_cmpR op_gt (pe_ix ix_list (pv 0) pe_int (fun _ _ => rfl)) pe_int (nomark _)) (pss_cons (ps_set (i := 2) scLdraw.nd rfl (Or.inl rfl) (pe_op op_mod (pe_callTy call_int1 (by rfl) T.m_int (by decide +kernel) (pa_cons (pe_ix ix_list (pv 0) pe_int (fun _ _ => rfl)) pa_nil)) (pv 1)))
  (pss_cons (ps_asg (pe_op op_fdivW (pe_ix ix_list (pv 0) pe_int (fun _ _ => rfl)) (pv 1)) (pg_sub (pv 0) pe_int set_list))
  (pss_one (ps_ret (pv 2))))) pss_nil)
  (pss_cons (ps_asg (pe_op op_add (pe_ix ix_list (pv 0) pe_int (fun _ _ => rfl)) pe_int) (pg_sub (pv 0) pe_int set_list))
  (pss_cons (ps_set (i := 3) scLdraw.nd rfl (Or.inl rfl) (pe_op op_mod (pe_callTy call_int1 (by rfl) T.m_int (by decide +kernel) (pa_cons (pe_op op_add (pe_ix ix_list (pv 0) pe_int (fun _ _ => rfl)) (pe_op op_mul pe_int (pe_ix ix_list (pv 0) pe_int (fun _ _ => rfl)))) pa_nil)) pe_int))
  (pss_cons (ps_set (i := 4) scLdraw.nd rfl (Or.inl rfl) (pe_op op_add (pe_op op_mul (pe_op op_mod (pe_callTy call_int1 (by rfl) T.m_int (by decide +kernel) (pa_cons (pe_op op_mul (pv 3) (pv 3)) pa_nil)) pe_int) (pv 3)) (pe_op op_mul pe_int (pe_ix ix_list (pv 0) pe_int (fun _ _ => rfl)))))
  (pss_one (ps_ret (pe_op op_mod (pe_callTy call_int1 (by rfl) T.m_int (by decide +kernel) (pa_cons (pe_op op_fdivW (pe_op op_mod (pe_callTy call_int1 (by rfl) T.m_int (by decide +kernel) (pa_cons (pv 4) pa_nil)) pe_int) pe_int) pa_nil)) (pv 1))))))))), ?_⟩
    have at0 : ∀ {H' : Hp} {x y z : Int}, H' b = some (.lst [.int x, .int y, .int z]) → SqL K H' b [.int x, .int y, .int z] := fun e => .inl (.inl e)
    have fin : ∀ i : Int, ∃ r : Nat, i % t = (r : Int) ∧ (r : Int) < t := fun i => ⟨(i % t).toNat, by have := Int.emod_nonneg i (Int.ne_of_gt ht); omega, by have := Int.emod_lt_of_pos i ht; have := Int.emod_nonneg i (Int.ne_of_gt ht); omega⟩
    refine ⟨.ref b, rfl, b, _, 0, .int g, rfl, rfl, at0 hb, rfl, g, 0, rfl, rfl, _, rfl, ite2 (fun e => ?_) (fun e => ?_)⟩
    · refine ⟨.ref b, rfl, b, _, 0, .int g, rfl, rfl, at0 hb, rfl, .inl ⟨g, rfl, .int t, rfl, g, t, rfl, rfl, ht, ?_⟩⟩
      refine ⟨.ref b, rfl, b, _, 0, .int g, rfl, rfl, at0 hb, rfl, .int t, rfl, g, t, rfl, rfl, ⟨ht, hw⟩, .ref b, rfl, b, _, 0, 0, rfl, rfl, hb, rfl, ?_⟩
      obtain ⟨r, er, lr⟩ := fin g
      refine ⟨_, rfl, ?_⟩
      have := q r lr _ (Go.put (g := g / t) (m := m) (c := c) (Go.refl ⟨g, m, c, hb⟩))
      rw [← er] at this
      exact this
    · refine ⟨.ref b, rfl, b, _, 2, .int c, rfl, rfl, at0 hb, rfl, c, 1, rfl, rfl, .ref b, rfl, b, _, 2, 2, rfl, rfl, hb, rfl, ?_⟩
      have hb2 : (upd H b (.lst [.int g, .int m, .int (c + 1)])) b = some (.lst [.int g, .int m, .int (c + 1)]) := upd_same
      have s2 := at0 hb2
      refine ⟨.ref b, rfl, b, _, 1, .int m, rfl, rfl, s2, rfl, .ref b, rfl, b, _, 2, .int (c + 1), rfl, rfl, s2, rfl, 1048609, c + 1, rfl, rfl, .inl ⟨by decide, by decide⟩, m, _, rfl, rfl, .inl ⟨_, rfl, _, _, rfl, rfl, (show (0 : Int) < _ by decide), ?_⟩⟩
      refine ⟨_, rfl, _, rfl, _, _, rfl, rfl, ?_, .inl ⟨_, rfl, _, _, rfl, rfl, (show (0 : Int) < _ by decide), ?_⟩⟩
      · have h1 := Int.emod_nonneg (m + 1048609 * (c + 1)) (show (2305843009213693951 : Int) ≠ 0 by decide)
        have h2 := Int.emod_lt_of_pos (m + 1048609 * (c + 1)) (show (0 : Int) < 2305843009213693951 by decide)
        exact .inl ⟨by omega, by omega⟩
      refine ⟨_, rfl, _, _, rfl, rfl, ?_, .ref b, rfl, b, _, 2, .int (c + 1), rfl, rfl, s2, rfl, 8117, c + 1, rfl, rfl, .inl ⟨by decide, by decide⟩, _, _, rfl, rfl, ?_⟩
      · have h1 := Int.emod_nonneg (m + 1048609 * (c + 1)) (show (2305843009213693951 : Int) ≠ 0 by decide)
        have h2 := Int.emod_lt_of_pos (m + 1048609 * (c + 1)) (show (0 : Int) < 2305843009213693951 by decide)
        exact .inr ⟨by show _ < _; omega, by show _ < _; omega⟩
      refine ⟨_, rfl, .inl ⟨_, rfl, _, _, rfl, rfl, (show (0 : Int) < _ by decide), _, _, rfl, rfl, ⟨by decide, (by decide +kernel)⟩, .inl ⟨_, rfl, .int t, rfl, _, t, rfl, rfl, ht, ?_⟩⟩⟩
      obtain ⟨r, er, lr⟩ := fin ((((m + 1048609 * (c + 1)) % 2305843009213693951 * ((m + 1048609 * (c + 1)) % 2305843009213693951)) % 2305843009213693723 * ((m + 1048609 * (c + 1)) % 2305843009213693951) + 8117 * (c + 1)) % 2305843009213693921 / 16384)
      have := q r lr _ (Go.put (g := g) (m := m) (c := c + 1) (Go.refl ⟨g, m, c, hb⟩))
      rw [← er] at this
      exact this
theorem okLbag {f : Addr} {fd : FuncData} (D : Dn K mg "_law_bag" sLbag ["_law_script", "_law_at"] f fd) (T : Bx mg) : FnOk P w K mg base CX0 1 f fd ["_law_script", "_law_at"] (spBag K) := by
  refine D.F.ok scLbag (fun vs H Q E h => ?_) (fun cdv A outer s H vs Q E hr h => ?_)
  · obtain ⟨a, ns, k, rfl, _⟩ := h
    rfl
  · obtain ⟨a, ns, k, rfl, hS, hk, q⟩ := h
    refine ⟨_, ((pss_cons (ps_set (i := 2) scLbag.nd rfl (Or.inl rfl) (pe_ifExp (pt_cmpR op_lt (pv 1) (pe_callB call_len_seq (by rfl) T.m_len (by decide +kernel) (pa_cons (pv 0) pa_nil)) (nomark _)) (pe_ix ix_list (pv 0) (pv 1) (fun _ _ => rfl)) (pe_op op_add (pe_op op_add (pe_callB (cr_sum rfl) (by rfl) T.m_sum (by decide +kernel) (pa_cons (pe_slice sl_list (pv 0) po_none (po_some pe_int)) pa_nil)) (pe_op op_mul pe_int (pv 1))) pe_int)))
  (pss_cons (ps_set (i := 3) scLbag.nd rfl (Or.inl rfl) (pe_op op_mod (pe_callTy call_int1 (by rfl) T.m_int (by decide +kernel) (pa_cons (pe_callB call_abs (by rfl) T.m_abs (by decide +kernel) (pa_cons (pv 2) pa_nil)) pa_nil)) (pe_op Ks.op_powW (pe_op Ks.op_powW pe_int pe_int) pe_int)))
  (pss_cons (ps_set (i := 4) scLbag.nd rfl (Or.inl rfl) (pe_op op_add (pe_op op_add (pe_op op_add (pe_op op_mul (pe_op op_mod (pe_callTy call_int1 (by rfl) T.m_int (by decide +kernel) (pa_cons (pv 3) pa_nil)) pe_int) pe_int) (pe_op op_mul pe_int (pv 1))) (pe_op op_mul pe_int (pe_callTy call_int1 (by rfl) T.m_int (by decide +kernel) (pa_cons (pe_cmpR op_lt (pv 2) pe_int (nomark _)) pa_nil)))) pe_int))
  (pss_one (ps_ret (pe_lst (pa_cons (pe_callB (call_max2 rfl) (by rfl) T.m_max (by decide +kernel) (pa_cons pe_int (pa_cons (pe_op op_sub (pv 3) (pe_op Ks.op_powW pe_int pe_int)) pa_nil))) (pa_cons (pe_op op_mod (pe_callTy call_int1 (by rfl) T.m_int (by decide +kernel) (pa_cons (pv 4) pa_nil)) pe_int) (pa_cons pe_int pa_nil)))))))))), ?_⟩
    have pw : ∀ i : Int, (i = 47 ∨ i = 18) → CPowW 10 i := by
      rintro i (rfl | rfl) <;> exact ⟨by decide, by decide +kernel⟩
    refine ⟨.int k, rfl, .ref a, rfl, a, _, rfl, .inl hS, k, _, rfl, rfl, _, rfl, ite2 (fun e => ?a) (fun e => ?b)⟩
    case a =>
      have hk2 : k.toNat < (ns.map V.int).length := by
        have : k < ((ns.map V.int).length : Int) := of_decide_eq_true e
        omega
      have hk3 : k.toNat < ns.length := by rwa [List.length_map] at hk2
      have sm : Same H H := Same.refl H
      refine ⟨.ref a, rfl, .int k, rfl, a, _, k, .int ns[k.toNat], rfl, rfl, hS, ?_, ?_⟩
      · have := atI_nat (xs := ns.map V.int) (j := k.toNat) (v := .int ns[k.toNat]) (by rw [List.getElem?_map, List.getElem?_eq_getElem hk3]; rfl)
        rwa [Int.toNat_of_nonneg hk] at this
      refine ⟨_, rfl, _, rfl, .inl ⟨_, rfl, _, _, rfl, rfl, pw _ (.inl rfl), _, _, rfl, rfl, ⟨by decide, by decide +kernel⟩, _, _, rfl, rfl, (show (0 : Int) < _ by decide +kernel), ?_⟩⟩
      refine ⟨_, rfl, .inl ⟨_, rfl, _, _, rfl, rfl, (show (0 : Int) < _ by decide), _, _, rfl, rfl, .inr ⟨by decide, by decide⟩, .int k, rfl, _, _, rfl, rfl, .inl ⟨by decide, by decide⟩, _, _, rfl, rfl, ?_⟩⟩
      refine ⟨_, rfl, _, _, rfl, rfl, .inr ⟨_, rfl, _, _, rfl, rfl, .inl ⟨by decide, by decide⟩, _, _, rfl, rfl, _, _, rfl, rfl, ?_⟩⟩
      refine ⟨_, rfl, _, _, rfl, rfl, pw _ (.inr rfl), _, _, rfl, rfl, _, _, rfl, _, rfl, .inl ⟨_, rfl, _, _, rfl, rfl, (show (0 : Int) < _ by decide), (show 3 ≤ sizeLine by decide), fun c nc => ?_⟩⟩
      exact q c _ (sm.free nc) (sm.trans (same_new nc)) ⟨_, _, _, upd_same⟩
    case b =>
      refine ⟨.ref a, rfl, 1, rfl, a, _, rfl, hS, fun p np => ?_⟩
      have sm : Same H (upd H p (.lst (cutV (ns.map V.int) none (some 1)))) := same_new np
      refine ⟨p, ns.take 1, rfl, .inl (.inl ?_), .int k, rfl, 103, k, rfl, rfl, .inl ⟨by decide, by decide⟩, _, _, rfl, rfl, _, _, rfl, rfl, ?_⟩
      · rw [upd_same, cut1L, List.map_take]
      refine ⟨_, rfl, _, rfl, .inl ⟨_, rfl, _, _, rfl, rfl, pw _ (.inl rfl), _, _, rfl, rfl, ⟨by decide, by decide +kernel⟩, _, _, rfl, rfl, (show (0 : Int) < _ by decide +kernel), ?_⟩⟩
      refine ⟨_, rfl, .inl ⟨_, rfl, _, _, rfl, rfl, (show (0 : Int) < _ by decide), _, _, rfl, rfl, .inr ⟨by decide, by decide⟩, .int k, rfl, _, _, rfl, rfl, .inl ⟨by decide, by decide⟩, _, _, rfl, rfl, ?_⟩⟩
      refine ⟨_, rfl, _, _, rfl, rfl, .inr ⟨_, rfl, _, _, rfl, rfl, .inl ⟨by decide, by decide⟩, _, _, rfl, rfl, _, _, rfl, rfl, ?_⟩⟩
      refine ⟨_, rfl, _, _, rfl, rfl, pw _ (.inr rfl), _, _, rfl, rfl, _, _, rfl, _, rfl, .inl ⟨_, rfl, _, _, rfl, rfl, (show (0 : Int) < _ by decide), (show 3 ≤ sizeLine by decide), fun c nc => ?_⟩⟩
      exact q c _ (sm.free nc) (sm.trans (same_new nc)) ⟨_, _, _, upd_same⟩
theorem okLoneOf {f f1 : Addr} {fd fd1 : FuncData} (D : Dn K mg "_law_one_of" sLoneOf ["_law_bag_here", "_law_items"] f fd) (DLdraw : Dn K mg "_law_draw" sLdraw ["_law_bag_here", "_law_total"] f1 fd1) (T : Bx mg) : FnOk P w K mg base CX0 2 f fd ["_law_bag_here", "_law_items"] spOneOf := by
  have GLdraw : FnOk P w K mg base CX0 1 _ _ _ _ := okLdraw DLdraw T
  refine D.F.ok scLoneOf (fun vs H Q E h => ?_) (fun cdv A outer s H vs Q E hr h => ?_)
  · obtain ⟨b, p, xs, rfl, _⟩ := h
    rfl
  · obtain ⟨b, p, xs, rfl, hb, hp, hne, h0, hl, q⟩ := h
    refine ⟨_, ((pss_one (ps_ret (pe_ix ix_list (pv 1) (pe_call GLdraw (hr.mono (by decide)) (by rfl) DLdraw.g DLdraw.F.kp DLdraw.b .nil pass0 (pa_cons (pv 0) (pa_cons (pe_callB call_len_seq (by rfl) T.m_len (by decide +kernel) (pa_cons (pv 1) pa_nil)) pa_nil))) (fun _ _ => rfl))))), ?_⟩
    have hl0 : 0 < xs.length := List.length_pos_iff.mpr h0
    refine ⟨.ref p, rfl, .ref b, rfl, .ref p, rfl, p, xs, rfl, .inl (.inl (.inl hp)), b, _, rfl, by omega, ?_, hb, fun r lr H' go => ?_⟩
    · have h1 := Nat.log2_le_self (xs.length : Int).natAbs
      have h2 : (xs.length : Int).natAbs = xs.length := Int.natAbs_natCast _
      omega
    · have hr : r < xs.length := by omega
      refine ⟨p, xs, (r : Int), xs[r], rfl, rfl, .inl (.inl (go.at hne hp)), atI_nat (List.getElem?_eq_getElem hr), q _ (List.getElem_mem hr) _ go⟩
end
end K00

namespace K00
open PySem PySem.Spec L2 Ks
open PyProof.Rows hiding St
/-- which of the fourteen classes stands below which -/
def isSub (i j : Nat) : Bool := i == j || (j == 0 && decide (i ≤ 8))
def blts : List String := ["ValueError", "IndexError", "KeyError", "LookupError", "OverflowError", "ArithmeticError"]
def bltAt (i : Nat) : List Nat := if i ≤ 8 then [0] else [[1, 3], [2, 3], [4, 5], [5], [3]].getD (i - 9) []
def bltSub (i k : Nat) : Bool := (bltAt i).contains k
structure Cs (K : PySem.W.Frag) (C : Nat → Addr) : Prop where
  sub : ∀ i j, i < 14 → j < 14 → PySem.W.subIn K (.ref (C i)) (.ref (C j)) = some (isSub i j)
  blt : ∀ i k T, i < 14 → blts[k]? = some T → PySem.W.subIn K (.ref (C i)) (.type T) = some (bltSub i k)
  ex : ∀ i, i < 14 → ExcC K (C i)
  ty : ∀ i, i < 14 → PySem.W.typeIn K (.ref (C i)) = some (.type "type")
  cl : ∀ i, i < 14 → PySem.W.isClsIn K (C i) = true
section
variable {K : PySem.W.Frag} {C : Nat → Addr}
theorem Cs.exm (c : Cs K C) {i j : Nat} (hi : i < 14) (hj : j < 14) : PySem.W.exmOne K (.ref (C i)) (.ref (C j)) = some (isSub i j) :=
  PySem.W.exm_ref (c.ex j hj).hs (c.ex j hj).hd (c.ty j hj) (c.sub i j hi hj)
theorem Cs.five (c : Cs K C) {i : Nat} (hi : i < 14) : PySem.W.exmAny K (.ref (C i)) [.ref (C 9), .ref (C 10), .ref (C 11), .ref (C 12), .ref (C 13)] = some (isSub i 9 || (isSub i 10 || (isSub i 11 || (isSub i 12 || (isSub i 13 || false))))) := by
  unfold PySem.W.exmAny PySem.W.exmAny PySem.W.exmAny PySem.W.exmAny PySem.W.exmAny PySem.W.exmAny
  rw [c.exm hi (show 9 < 14 by decide), c.exm hi (show 10 < 14 by decide), c.exm hi (show 11 < 14 by decide), c.exm hi (show 12 < 14 by decide), c.exm hi (show 13 < 14 by decide)]
theorem Cs.kit (c : Cs K C) {i j : Nat} (hi : i < 14) (hj : j < 14) : PySem.W.kitOne K (.ref (C i)) (.ref (C j)) = some (isSub i j) := by
  unfold PySem.W.kitOne
  by_cases e : ((Value.ref (C i)) == Value.ref (C j)) = true
  · rw [if_pos e]
    have e1 : C i = C j := Value.ref.inj (beq_iff_eq.mp e)
    have h1 := c.sub i j hi hj
    rw [← e1, c.sub i i hi hi] at h1
    rw [← Option.some.inj h1]
    show some true = some (i == i || _)
    rw [beq_self_eq_true, Bool.true_or]
  · rw [if_neg e]
    show (if _ then _ else _) = _
    have h2 : (PySem.W.clsIn K (C j)).isSome = true := c.cl j hj
    rw [h2, c.ty j hj, if_pos (by decide), c.sub i j hi hj]
theorem meta_all : ∀ T ∈ blts, PySem.W.kitMeta T = true := by decide +kernel
theorem Cs.kitB (c : Cs K C) {i k : Nat} {T : String} (hi : i < 14) (hk : blts[k]? = some T) : PySem.W.kitOne K (.ref (C i)) (.type T) = some (bltSub i k) := by
  unfold PySem.W.kitOne
  rw [if_neg (by intro h; exact absurd (beq_iff_eq.mp h) (fun z => nomatch z))]
  show (if _ then _ else _) = _
  rw [if_pos (meta_all T (List.mem_of_getElem? hk)), c.blt i k T hi hk]
end
/-- the classes that are made with a message -/
structure Ow (K : PySem.W.Frag) (mg : Str → Option Value) (C : Nat → Addr) : Prop where
  o0 : OwnE K mg "MayrowError" (C 0)
  o1 : OwnE K mg "InvalidText" (C 1)
  o2 : OwnE K mg "InvalidRow" (C 2)
  o3 : OwnE K mg "InvalidTable" (C 3)
  o4 : OwnE K mg "InvalidPasses" (C 4)
  o5 : OwnE K mg "InvalidOperation" (C 5)
  o6 : OwnE K mg "InvalidPromise" (C 6)
  o7 : OwnE K mg "InvalidBook" (C 7)
/-- the classes that keep one value -/
structure Kp (K : PySem.W.Frag) (mg : Str → Option Value) (C fI : Nat → Addr) (fd : Nat → FuncData) : Prop where
  F8 : Fun K "__init__" "ParseError.__init__" sParseerrorInit (fI 8) (fd 8)
  k8 : KeepE K mg "ParseError" "spot" (C 8) (fI 8) (fd 8) ["self", "spot"] "ValueError" [.type "ValueError", .type "Exception", .type "BaseException", .type "object"] "ValueError.__new__" "ValueError.__init__"
  F9 : Fun K "__init__" "InvalidNumber.__init__" sInvalidnumberInit (fI 9) (fd 9)
  k9 : KeepE K mg "InvalidNumber" "given" (C 9) (fI 9) (fd 9) ["self", "given"] "IndexError" [.type "IndexError", .type "LookupError", .type "Exception", .type "BaseException", .type "object"] "IndexError.__new__" "IndexError.__init__"
  F10 : Fun K "__init__" "UnknownName.__init__" sUnknownnameInit (fI 10) (fd 10)
  k10 : KeepE K mg "UnknownName" "wanted" (C 10) (fI 10) (fd 10) ["self", "wanted"] "KeyError" [.type "KeyError", .type "LookupError", .type "Exception", .type "BaseException", .type "object"] "LookupError.__new__" "LookupError.__init__"
  F11 : Fun K "__init__" "TooMany.__init__" sToomanyInit (fI 11) (fd 11)
  k11 : KeepE K mg "TooMany" "most" (C 11) (fI 11) (fd 11) ["self", "most"] "OverflowError" [.type "OverflowError", .type "ArithmeticError", .type "Exception", .type "BaseException", .type "object"] "OverflowError.__new__" "OverflowError.__init__"
  F12 : Fun K "__init__" "Refused.__init__" sRefusedInit (fI 12) (fd 12)
  k12 : KeepE K mg "Refused" "reason" (C 12) (fI 12) (fd 12) ["self", "reason"] "ArithmeticError" [.type "ArithmeticError", .type "Exception", .type "BaseException", .type "object"] "ArithmeticError.__new__" "ArithmeticError.__init__"
  F13 : Fun K "__init__" "NothingToUndo.__init__" sNothingtoundoInit (fI 13) (fd 13)
  k13 : KeepE K mg "NothingToUndo" "many" (C 13) (fI 13) (fd 13) ["self", "many"] "LookupError" [.type "LookupError", .type "Exception", .type "BaseException", .type "object"] "LookupError.__new__" "LookupError.__init__"
section
variable {P : Program} {w : World} {K : PySem.W.Frag} {mg : Str → Option Value} {base : Heap}
theorem okInit8 {C fI : Nat → Addr} {fd : Nat → FuncData} (k : Kp K mg C fI fd) : FnOk P w K mg base CX0 1 (fI 8) (fd 8) ["self", "spot"] (spKeep (C 8) "spot") := by
  refine k.F8.ok scParseerrorInit (fun vs H Q E h => ?_) (fun cdv A outer s H vs Q E hr h => ?_)
  · obtain ⟨a, y, rfl, _⟩ := h
    rfl
  · obtain ⟨a, y, rfl, ha, q⟩ := h
    refine ⟨_, (pss_one (ps_keep k.k8.T k.k8.n (pv 0) (pv 1))), ?_⟩
    exact ⟨y, rfl, .ref a, rfl, a, rfl, ha, fun dx hd ne => q dx hd ne⟩
theorem okInit9 {C fI : Nat → Addr} {fd : Nat → FuncData} (k : Kp K mg C fI fd) : FnOk P w K mg base CX0 1 (fI 9) (fd 9) ["self", "given"] (spKeep (C 9) "given") := by
  refine k.F9.ok scInvalidnumberInit (fun vs H Q E h => ?_) (fun cdv A outer s H vs Q E hr h => ?_)
  · obtain ⟨a, y, rfl, _⟩ := h
    rfl
  · obtain ⟨a, y, rfl, ha, q⟩ := h
    refine ⟨_, (pss_one (ps_keep k.k9.T k.k9.n (pv 0) (pv 1))), ?_⟩
    exact ⟨y, rfl, .ref a, rfl, a, rfl, ha, fun dx hd ne => q dx hd ne⟩
theorem okInit10 {C fI : Nat → Addr} {fd : Nat → FuncData} (k : Kp K mg C fI fd) : FnOk P w K mg base CX0 1 (fI 10) (fd 10) ["self", "wanted"] (spKeep (C 10) "wanted") := by
  refine k.F10.ok scUnknownnameInit (fun vs H Q E h => ?_) (fun cdv A outer s H vs Q E hr h => ?_)
  · obtain ⟨a, y, rfl, _⟩ := h
    rfl
  · obtain ⟨a, y, rfl, ha, q⟩ := h
    refine ⟨_, (pss_one (ps_keep k.k10.T k.k10.n (pv 0) (pv 1))), ?_⟩
    exact ⟨y, rfl, .ref a, rfl, a, rfl, ha, fun dx hd ne => q dx hd ne⟩
theorem okInit11 {C fI : Nat → Addr} {fd : Nat → FuncData} (k : Kp K mg C fI fd) : FnOk P w K mg base CX0 1 (fI 11) (fd 11) ["self", "most"] (spKeep (C 11) "most") := by
  refine k.F11.ok scToomanyInit (fun vs H Q E h => ?_) (fun cdv A outer s H vs Q E hr h => ?_)
  · obtain ⟨a, y, rfl, _⟩ := h
    rfl
  · obtain ⟨a, y, rfl, ha, q⟩ := h
    refine ⟨_, (pss_one (ps_keep k.k11.T k.k11.n (pv 0) (pv 1))), ?_⟩
    exact ⟨y, rfl, .ref a, rfl, a, rfl, ha, fun dx hd ne => q dx hd ne⟩
theorem okInit12 {C fI : Nat → Addr} {fd : Nat → FuncData} (k : Kp K mg C fI fd) : FnOk P w K mg base CX0 1 (fI 12) (fd 12) ["self", "reason"] (spKeep (C 12) "reason") := by
  refine k.F12.ok scRefusedInit (fun vs H Q E h => ?_) (fun cdv A outer s H vs Q E hr h => ?_)
  · obtain ⟨a, y, rfl, _⟩ := h
    rfl
  · obtain ⟨a, y, rfl, ha, q⟩ := h
    refine ⟨_, (pss_one (ps_keep k.k12.T k.k12.n (pv 0) (pv 1))), ?_⟩
    exact ⟨y, rfl, .ref a, rfl, a, rfl, ha, fun dx hd ne => q dx hd ne⟩
theorem okInit13 {C fI : Nat → Addr} {fd : Nat → FuncData} (k : Kp K mg C fI fd) : FnOk P w K mg base CX0 1 (fI 13) (fd 13) ["self", "many"] (spKeep (C 13) "many") := by
  refine k.F13.ok scNothingtoundoInit (fun vs H Q E h => ?_) (fun cdv A outer s H vs Q E hr h => ?_)
  · obtain ⟨a, y, rfl, _⟩ := h
    rfl
  · obtain ⟨a, y, rfl, ha, q⟩ := h
    refine ⟨_, (pss_one (ps_keep k.k13.T k.k13.n (pv 0) (pv 1))), ?_⟩
    exact ⟨y, rfl, .ref a, rfl, a, rfl, ha, fun dx hd ne => q dx hd ne⟩
end
end K00

namespace K00
open PySem PySem.Spec L2 Ks
open PyProof.Rows hiding St
def fld (n : Nat) : Str := (["spot", "given", "wanted", "most", "reason", "many"] : List Str).getD (n - 8) ""
def kept (n : Nat) (v m r : V) : V := if n < 8 then .non else if n < 11 then v else if n = 12 then r else m
def spRaised (C : Nat → Addr) : Sp := fun vs H Q E => ∃ (n : Nat) (t v m r : V), vs = [.int n, t, v, m, r] ∧ n < 14 ∧ (n < 8 → E (.ref (C n)) none H) ∧ (8 ≤ n → ∀ d, H d = none → E (.ref (C n)) (some d) (upd H d (.xd [(fld n, kept n v m r)])))
section
variable {P : Program} {w : World} {K : PySem.W.Frag} {mg : Str → Option Value} {base : Heap} {C fI : Nat → Addr} {fdI : Nat → FuncData}
theorem okLraised {f : Addr} {fd : FuncData} (D : Dn K mg "_law_raised" sLraised ["_law_which", "_law_text", "_law_value", "_law_number", "_law_reason"] f fd) (T : Bx mg) (O : Ow K mg C) (I : Kp K mg C fI fdI) :
    FnOk P w K mg base (L2.CX P w) 3 f fd ["_law_which", "_law_text", "_law_value", "_law_number", "_law_reason"] (spRaised C) := by
  have OMayrowError := O.o0
  have OInvalidText := O.o1
  have OInvalidRow := O.o2
  have OInvalidTable := O.o3
  have OInvalidPasses := O.o4
  have OInvalidOperation := O.o5
  have OInvalidPromise := O.o6
  have OInvalidBook := O.o7
  have IParseError := I.k8
  have IInvalidNumber := I.k9
  have IUnknownName := I.k10
  have ITooMany := I.k11
  have IRefused := I.k12
  have INothingToUndo := I.k13
  have GParseerrorInit : FnOk P w K mg base CX0 1 _ _ _ _ := okInit8 I
  have GInvalidnumberInit : FnOk P w K mg base CX0 1 _ _ _ _ := okInit9 I
  have GUnknownnameInit : FnOk P w K mg base CX0 1 _ _ _ _ := okInit10 I
  have GToomanyInit : FnOk P w K mg base CX0 1 _ _ _ _ := okInit11 I
  have GRefusedInit : FnOk P w K mg base CX0 1 _ _ _ _ := okInit12 I
  have GNothingtoundoInit : FnOk P w K mg base CX0 1 _ _ _ _ := okInit13 I
  refine D.F.okX scLraised (fun vs H Q E h => ?_) (fun cdv A outer s H vs Q E hr h => ?_)
  · obtain ⟨n, t, v, m, r, rfl, _⟩ := h
    rfl
  · obtain ⟨n, t, v, m, r, rfl, hn, q1, q2⟩ := h
    refine ⟨_, ((pss_cons (ps_if (pt_cmpR op_eq (pv 0) pe_int (nomark _)) (pss_one (ps_raise rfl (takes_of rfl rfl rfl rfl) (SkE.pmk_own1 PySem.F.excBase_ValueError OMayrowError.x OMayrowError.g OMayrowError.k (raises_own OMayrowError.b OMayrowError.t) (by rfl) (pv 1)))) pss_nil)
  (pss_cons (ps_if (pt_cmpR op_eq (pv 0) pe_int (nomark _)) (pss_one (ps_raise rfl (takes_of rfl rfl rfl rfl) (SkE.pmk_own1 PySem.F.excBase_ValueError OInvalidText.x OInvalidText.g OInvalidText.k (raises_own OInvalidText.b OInvalidText.t) (by rfl) (pv 1)))) pss_nil)
  (pss_cons (ps_if (pt_cmpR op_eq (pv 0) pe_int (nomark _)) (pss_one (ps_raise rfl (takes_of rfl rfl rfl rfl) (SkE.pmk_own1 PySem.F.excBase_ValueError OInvalidRow.x OInvalidRow.g OInvalidRow.k (raises_own OInvalidRow.b OInvalidRow.t) (by rfl) (pv 1)))) pss_nil)
  (pss_cons (ps_if (pt_cmpR op_eq (pv 0) pe_int (nomark _)) (pss_one (ps_raise rfl (takes_of rfl rfl rfl rfl) (SkE.pmk_own1 PySem.F.excBase_ValueError OInvalidTable.x OInvalidTable.g OInvalidTable.k (raises_own OInvalidTable.b OInvalidTable.t) (by rfl) (pv 1)))) pss_nil)
  (pss_cons (ps_if (pt_cmpR op_eq (pv 0) pe_int (nomark _)) (pss_one (ps_raise rfl (takes_of rfl rfl rfl rfl) (SkE.pmk_own1 PySem.F.excBase_ValueError OInvalidPasses.x OInvalidPasses.g OInvalidPasses.k (raises_own OInvalidPasses.b OInvalidPasses.t) (by rfl) (pv 1)))) pss_nil)
  (pss_cons (ps_if (pt_cmpR op_eq (pv 0) pe_int (nomark _)) (pss_one (ps_raise rfl (takes_of rfl rfl rfl rfl) (SkE.pmk_own1 PySem.F.excBase_ValueError OInvalidOperation.x OInvalidOperation.g OInvalidOperation.k (raises_own OInvalidOperation.b OInvalidOperation.t) (by rfl) (pv 1)))) pss_nil)
  (pss_cons (ps_if (pt_cmpR op_eq (pv 0) pe_int (nomark _)) (pss_one (ps_raise rfl (takes_of rfl rfl rfl rfl) (SkE.pmk_own1 PySem.F.excBase_ValueError OInvalidPromise.x OInvalidPromise.g OInvalidPromise.k (raises_own OInvalidPromise.b OInvalidPromise.t) (by rfl) (pv 1)))) pss_nil)
  (pss_cons (ps_if (pt_cmpR op_eq (pv 0) pe_int (nomark _)) (pss_one (ps_raise rfl (takes_of rfl rfl rfl rfl) (SkE.pmk_own1 PySem.F.excBase_ValueError OInvalidBook.x OInvalidBook.g OInvalidBook.k (raises_own OInvalidBook.b OInvalidBook.t) (by rfl) (pv 1)))) pss_nil)
  (pss_cons (ps_if (pt_cmpR op_eq (pv 0) pe_int (nomark _)) (pss_one (ps_raise rfl (takes_of rfl rfl rfl rfl) (Ks.pmk_keep IParseError.T IParseError.i IParseError.t GParseerrorInit (hr.mono (by decide)) IParseError.b passZ (by rfl) IParseError.g (pa_cons (pv 2) pa_nil)))) pss_nil)
  (pss_cons (ps_if (pt_cmpR op_eq (pv 0) pe_int (nomark _)) (pss_one (ps_raise rfl (takes_of rfl rfl rfl rfl) (Ks.pmk_keep IInvalidNumber.T IInvalidNumber.i IInvalidNumber.t GInvalidnumberInit (hr.mono (by decide)) IInvalidNumber.b passZ (by rfl) IInvalidNumber.g (pa_cons (pv 2) pa_nil)))) pss_nil)
  (pss_cons (ps_if (pt_cmpR op_eq (pv 0) pe_int (nomark _)) (pss_one (ps_raise rfl (takes_of rfl rfl rfl rfl) (Ks.pmk_keep IUnknownName.T IUnknownName.i IUnknownName.t GUnknownnameInit (hr.mono (by decide)) IUnknownName.b passZ (by rfl) IUnknownName.g (pa_cons (pv 2) pa_nil)))) pss_nil)
  (pss_cons (ps_if (pt_cmpR op_eq (pv 0) pe_int (nomark _)) (pss_one (ps_raise rfl (takes_of rfl rfl rfl rfl) (Ks.pmk_keep ITooMany.T ITooMany.i ITooMany.t GToomanyInit (hr.mono (by decide)) ITooMany.b passZ (by rfl) ITooMany.g (pa_cons (pv 3) pa_nil)))) pss_nil)
  (pss_cons (ps_if (pt_cmpR op_eq (pv 0) pe_int (nomark _)) (pss_one (ps_raise rfl (takes_of rfl rfl rfl rfl) (Ks.pmk_keep IRefused.T IRefused.i IRefused.t GRefusedInit (hr.mono (by decide)) IRefused.b passZ (by rfl) IRefused.g (pa_cons (pv 4) pa_nil)))) pss_nil)
  (pss_one (ps_raise rfl (takes_of rfl rfl rfl rfl) (Ks.pmk_keep INothingToUndo.T INothingToUndo.i INothingToUndo.t GNothingtoundoInit (hr.mono (by decide)) INothingToUndo.b passZ (by rfl) INothingToUndo.g (pa_cons (pv 3) pa_nil)))))))))))))))))), ?_⟩
    rcases (show n = 0 ∨ n = 1 ∨ n = 2 ∨ n = 3 ∨ n = 4 ∨ n = 5 ∨ n = 6 ∨ n = 7 ∨ n = 8 ∨ n = 9 ∨ n = 10 ∨ n = 11 ∨ n = 12 ∨ n = 13 by omega) with rfl | rfl | rfl | rfl | rfl | rfl | rfl | rfl | rfl | rfl | rfl | rfl | rfl | rfl
    all_goals repeat refine ⟨_, rfl, rfl, _, rfl, ite2 (fun e => absurd e (by decide)) (fun _ => ?_)⟩
    all_goals try refine ⟨_, rfl, rfl, _, rfl, ite2 (fun _ => ?_) (fun e => absurd (by decide) e)⟩
    · exact ⟨_, rfl, q1 (by decide)⟩
    · exact ⟨_, rfl, q1 (by decide)⟩
    · exact ⟨_, rfl, q1 (by decide)⟩
    · exact ⟨_, rfl, q1 (by decide)⟩
    · exact ⟨_, rfl, q1 (by decide)⟩
    · exact ⟨_, rfl, q1 (by decide)⟩
    · exact ⟨_, rfl, q1 (by decide)⟩
    · exact ⟨_, rfl, q1 (by decide)⟩
    · exact ⟨_, rfl, _, rfl, fun d hd => q2 (by decide) d hd⟩
    · exact ⟨_, rfl, _, rfl, fun d hd => q2 (by decide) d hd⟩
    · exact ⟨_, rfl, _, rfl, fun d hd => q2 (by decide) d hd⟩
    · exact ⟨_, rfl, _, rfl, fun d hd => q2 (by decide) d hd⟩
    · exact ⟨_, rfl, _, rfl, fun d hd => q2 (by decide) d hd⟩
    · exact ⟨_, rfl, _, rfl, fun d hd => q2 (by decide) d hd⟩
/-! ### _law_kept -/
def spKept : Sp := fun vs H Q _ => ∃ (n : Nat) (v m r : V), vs = [.int n, v, m, r] ∧ n < 14 ∧ Q (kept n v m r) H
theorem okLkept {f : Addr} {fd : FuncData} (D : Dn K mg "_law_kept" sLkept ["_law_which", "_law_value", "_law_number", "_law_reason"] f fd) : FnOk P w K mg base CX0 1 f fd ["_law_which", "_law_value", "_law_number", "_law_reason"] spKept := by
  refine D.F.ok scLkept (fun vs H Q E h => ?_) (fun cdv A outer s H vs Q E hr h => ?_)
  · obtain ⟨n, v, m, r, rfl, _⟩ := h
    rfl
  · obtain ⟨n, v, m, r, rfl, hn, q⟩ := h
    refine ⟨_, ((pss_cons (ps_if (pt_cmpR op_lt (pv 0) pe_int (nomark _)) (pss_one (ps_ret pe_non)) pss_nil)
  (pss_cons (ps_if (pt_cmpR op_lt (pv 0) pe_int (nomark _)) (pss_one (ps_ret (pv 1))) pss_nil)
  (pss_one (ps_ret (pe_ifExp (pt_cmpR op_eq (pv 0) pe_int (nomark _)) (pv 3) (pv 2))))))), ?_⟩
    unfold kept at q
    refine ⟨_, rfl, _, _, rfl, rfl, _, rfl, ite2 (fun e => ?_) (fun e => ?_)⟩
    · have h : (n : Int) < 8 := of_decide_eq_true e
      rw [if_pos (by omega)] at q
      exact q
    · have h : ¬ (n : Int) < 8 := fun z => e (decide_eq_true z)
      rw [if_neg (by omega)] at q
      refine ⟨_, rfl, _, _, rfl, rfl, _, rfl, ite2 (fun e => ?_) (fun e => ?_)⟩
      · have h : (n : Int) < 11 := of_decide_eq_true e
        rw [if_pos (by omega)] at q
        exact ⟨_, rfl, q⟩
      · have h : ¬ (n : Int) < 11 := fun z => e (decide_eq_true z)
        rw [if_neg (by omega)] at q
        refine ⟨_, rfl, rfl, _, rfl, ite2 (fun e => ?_) (fun e => ?_)⟩
        · have h : (n : Int) = 12 := V.int.inj (of_decide_eq_true e)
          rw [if_pos (by omega)] at q
          exact ⟨_, rfl, q⟩
        · have h : ¬ (n : Int) = 12 := fun z => e (decide_eq_true (by rw [z]))
          rw [if_neg (by omega)] at q
          exact ⟨_, rfl, q⟩
end
end K00

namespace K00
open PySem PySem.Spec L2 Ks
open PyProof.Rows hiding St
theorem Cs.xf {K : PySem.W.Frag} {C : Nat → Addr} (c : Cs K C) {i : Nat} (hi : i < 14) : XfC K (C i) := ⟨(c.ex i hi).hg, (c.ex i hi).hk, (c.ex i hi).hs, (c.ex i hi).hd⟩
def spCaught : Sp := fun vs H Q _ => ∃ (n : Nat) (t v m r : V), vs = [.int n, t, v, m, r] ∧ 1 ≤ n ∧ n < 14 ∧ ∀ p H', Same H H' → H p = none → H' p = some (.tup [.int n, kept n v m r]) → Q (.ref p) H'
section
variable {P : Program} {w : World} {K : PySem.W.Frag} {mg : Str → Option Value} {base : Heap} {C fI : Nat → Addr} {fdI : Nat → FuncData}
theorem okLcaught {f f1 : Addr} {fd fd1 : FuncData} (D : Dn K mg "_law_caught" sLcaught ["_law_which", "_law_text", "_law_value", "_law_number", "_law_reason"] f fd) (D1 : Dn K mg "_law_raised" sLraised ["_law_which", "_law_text", "_law_value", "_law_number", "_law_reason"] f1 fd1) (T : Bx mg) (O : Ow K mg C) (I : Kp K mg C fI fdI) (c : Cs K C) :
    FnOk P w K mg base CX0 4 f fd ["_law_which", "_law_text", "_law_value", "_law_number", "_law_reason"] spCaught := by
  have G1 : FnOk P w K mg base (L2.CX P w) 3 _ _ _ _ := okLraised D1 T O I
  refine D.F.ok scLcaught (fun vs H Q E h => ?_) (fun cdv A outer s H vs Q E hr h => ?_)
  · obtain ⟨n, t, v, m, r, rfl, _⟩ := h
    rfl
  · obtain ⟨n, t, v, m, r, rfl, h1, h2, q⟩ := h
    refine ⟨_, pss_cons (ps_claws (l := [⟨askOne (.ref (C 1)), none, fun a cls d => _⟩, ⟨askOne (.ref (C 2)), none, fun a cls d => _⟩, ⟨askOne (.ref (C 3)), none, fun a cls d => _⟩, ⟨askOne (.ref (C 4)), none, fun a cls d => _⟩, ⟨askOne (.ref (C 5)), none, fun a cls d => _⟩, ⟨askOne (.ref (C 6)), none, fun a cls d => _⟩, ⟨askOne (.ref (C 7)), none, fun a cls d => _⟩, ⟨askOne (.ref (C 8)), some 5, fun a cls d => _⟩, ⟨askOne (.ref (C 9)), some 5, fun a cls d => _⟩, ⟨askOne (.ref (C 10)), some 5, fun a cls d => _⟩, ⟨askOne (.ref (C 11)), some 5, fun a cls d => _⟩, ⟨askOne (.ref (C 12)), some 5, fun a cls d => _⟩, ⟨askOne (.ref (C 13)), some 5, fun a cls d => _⟩])
        rfl rfl scLcaught.nd takes0
        (fun W pn xe tk po => pss_one (ps_expr (pe_callS G1 (hr.mono (by decide)) (by rfl) D1.g D1.F.kp D1.b (fun σ => passAt tk σ) (pa_cons (pv 0) (pa_cons (pv 1) (pa_cons (pv 2) (pa_cons (pv 3) (pa_cons (pv 4) pa_nil))))))))
        (ClawsOk.bare ⟨by rfl, by decide, .inl O.o1.g⟩ (fun a oe cls d pn hz hf => pss_one (ps_ret (pe_tup (pa_cons pe_int (pa_cons pe_non pa_nil)))))
        (ClawsOk.bare ⟨by rfl, by decide, .inl O.o2.g⟩ (fun a oe cls d pn hz hf => pss_one (ps_ret (pe_tup (pa_cons pe_int (pa_cons pe_non pa_nil)))))
        (ClawsOk.bare ⟨by rfl, by decide, .inl O.o3.g⟩ (fun a oe cls d pn hz hf => pss_one (ps_ret (pe_tup (pa_cons pe_int (pa_cons pe_non pa_nil)))))
        (ClawsOk.bare ⟨by rfl, by decide, .inl O.o4.g⟩ (fun a oe cls d pn hz hf => pss_one (ps_ret (pe_tup (pa_cons pe_int (pa_cons pe_non pa_nil)))))
        (ClawsOk.bare ⟨by rfl, by decide, .inl O.o5.g⟩ (fun a oe cls d pn hz hf => pss_one (ps_ret (pe_tup (pa_cons pe_int (pa_cons pe_non pa_nil)))))
        (ClawsOk.bare ⟨by rfl, by decide, .inl O.o6.g⟩ (fun a oe cls d pn hz hf => pss_one (ps_ret (pe_tup (pa_cons pe_int (pa_cons pe_non pa_nil)))))
        (ClawsOk.bare ⟨by rfl, by decide, .inl O.o7.g⟩ (fun a oe cls d pn hz hf => pss_one (ps_ret (pe_tup (pa_cons pe_int (pa_cons pe_non pa_nil)))))
        (ClawsOk.named ⟨by rfl, by decide, .inl I.k8.g⟩ rfl rfl (fun a oe cls d pn hz hf => pss_one (ps_ret (pe_tup (pa_cons pe_int (pa_cons (pe_xf (c.xf (show 8 < 14 by decide)) I.k8.n hz hf (pv 5)) pa_nil)))))
        (ClawsOk.named ⟨by rfl, by decide, .inl I.k9.g⟩ rfl rfl (fun a oe cls d pn hz hf => pss_one (ps_ret (pe_tup (pa_cons pe_int (pa_cons (pe_xf (c.xf (show 9 < 14 by decide)) I.k9.n hz hf (pv 5)) pa_nil)))))
        (ClawsOk.named ⟨by rfl, by decide, .inl I.k10.g⟩ rfl rfl (fun a oe cls d pn hz hf => pss_one (ps_ret (pe_tup (pa_cons pe_int (pa_cons (pe_xf (c.xf (show 10 < 14 by decide)) I.k10.n hz hf (pv 5)) pa_nil)))))
        (ClawsOk.named ⟨by rfl, by decide, .inl I.k11.g⟩ rfl rfl (fun a oe cls d pn hz hf => pss_one (ps_ret (pe_tup (pa_cons pe_int (pa_cons (pe_xf (c.xf (show 11 < 14 by decide)) I.k11.n hz hf (pv 5)) pa_nil)))))
        (ClawsOk.named ⟨by rfl, by decide, .inl I.k12.g⟩ rfl rfl (fun a oe cls d pn hz hf => pss_one (ps_ret (pe_tup (pa_cons pe_int (pa_cons (pe_xf (c.xf (show 12 < 14 by decide)) I.k12.n hz hf (pv 5)) pa_nil)))))
        (ClawsOk.named ⟨by rfl, by decide, .inl I.k13.g⟩ rfl rfl (fun a oe cls d pn hz hf => pss_one (ps_ret (pe_tup (pa_cons pe_int (pa_cons (pe_xf (c.xf (show 13 < 14 by decide)) I.k13.n hz hf (pv 5)) pa_nil)))))
        ClawsOk.nil))))))))))))))
      (pss_one (ps_ret pe_non)), ?_⟩
    refine ⟨_, rfl, _, rfl, _, rfl, _, rfl, _, rfl, n, t, v, m, r, rfl, h2, ?_⟩
    rcases (show n = 1 ∨ n = 2 ∨ n = 3 ∨ n = 4 ∨ n = 5 ∨ n = 6 ∨ n = 7 ∨ n = 8 ∨ n = 9 ∨ n = 10 ∨ n = 11 ∨ n = 12 ∨ n = 13 by omega) with rfl | rfl | rfl | rfl | rfl | rfl | rfl | rfl | rfl | rfl | rfl | rfl | rfl
    all_goals refine ⟨fun le => ?_, fun ge => ?_⟩
    all_goals first
      | exact absurd le (by decide)
      | exact absurd ge (by decide)
      | intro d nd
      | skip
    · refine ⟨_, c.exm (show 1 < 14 by decide) (show 1 < 14 by decide), (fun _ a na => ?_), (fun e => absurd e (by decide))⟩
      exact ⟨(show 2 ≤ sizeLine by decide), fun p np => q p _ (same_new np) np upd_same⟩
    · refine ⟨_, c.exm (show 2 < 14 by decide) (show 1 < 14 by decide), (fun e => absurd e (by decide)), fun _ => ?_⟩
      refine ⟨_, c.exm (show 2 < 14 by decide) (show 2 < 14 by decide), (fun _ a na => ?_), (fun e => absurd e (by decide))⟩
      exact ⟨(show 2 ≤ sizeLine by decide), fun p np => q p _ (same_new np) np upd_same⟩
    · refine ⟨_, c.exm (show 3 < 14 by decide) (show 1 < 14 by decide), (fun e => absurd e (by decide)), fun _ => ?_⟩
      refine ⟨_, c.exm (show 3 < 14 by decide) (show 2 < 14 by decide), (fun e => absurd e (by decide)), fun _ => ?_⟩
      refine ⟨_, c.exm (show 3 < 14 by decide) (show 3 < 14 by decide), (fun _ a na => ?_), (fun e => absurd e (by decide))⟩
      exact ⟨(show 2 ≤ sizeLine by decide), fun p np => q p _ (same_new np) np upd_same⟩
    · refine ⟨_, c.exm (show 4 < 14 by decide) (show 1 < 14 by decide), (fun e => absurd e (by decide)), fun _ => ?_⟩
      refine ⟨_, c.exm (show 4 < 14 by decide) (show 2 < 14 by decide), (fun e => absurd e (by decide)), fun _ => ?_⟩
      refine ⟨_, c.exm (show 4 < 14 by decide) (show 3 < 14 by decide), (fun e => absurd e (by decide)), fun _ => ?_⟩
      refine ⟨_, c.exm (show 4 < 14 by decide) (show 4 < 14 by decide), (fun _ a na => ?_), (fun e => absurd e (by decide))⟩
      exact ⟨(show 2 ≤ sizeLine by decide), fun p np => q p _ (same_new np) np upd_same⟩
    · refine ⟨_, c.exm (show 5 < 14 by decide) (show 1 < 14 by decide), (fun e => absurd e (by decide)), fun _ => ?_⟩
      refine ⟨_, c.exm (show 5 < 14 by decide) (show 2 < 14 by decide), (fun e => absurd e (by decide)), fun _ => ?_⟩
      refine ⟨_, c.exm (show 5 < 14 by decide) (show 3 < 14 by decide), (fun e => absurd e (by decide)), fun _ => ?_⟩
      refine ⟨_, c.exm (show 5 < 14 by decide) (show 4 < 14 by decide), (fun e => absurd e (by decide)), fun _ => ?_⟩
      refine ⟨_, c.exm (show 5 < 14 by decide) (show 5 < 14 by decide), (fun _ a na => ?_), (fun e => absurd e (by decide))⟩
      exact ⟨(show 2 ≤ sizeLine by decide), fun p np => q p _ (same_new np) np upd_same⟩
    · refine ⟨_, c.exm (show 6 < 14 by decide) (show 1 < 14 by decide), (fun e => absurd e (by decide)), fun _ => ?_⟩
      refine ⟨_, c.exm (show 6 < 14 by decide) (show 2 < 14 by decide), (fun e => absurd e (by decide)), fun _ => ?_⟩
      refine ⟨_, c.exm (show 6 < 14 by decide) (show 3 < 14 by decide), (fun e => absurd e (by decide)), fun _ => ?_⟩
      refine ⟨_, c.exm (show 6 < 14 by decide) (show 4 < 14 by decide), (fun e => absurd e (by decide)), fun _ => ?_⟩
      refine ⟨_, c.exm (show 6 < 14 by decide) (show 5 < 14 by decide), (fun e => absurd e (by decide)), fun _ => ?_⟩
      refine ⟨_, c.exm (show 6 < 14 by decide) (show 6 < 14 by decide), (fun _ a na => ?_), (fun e => absurd e (by decide))⟩
      exact ⟨(show 2 ≤ sizeLine by decide), fun p np => q p _ (same_new np) np upd_same⟩
    · refine ⟨_, c.exm (show 7 < 14 by decide) (show 1 < 14 by decide), (fun e => absurd e (by decide)), fun _ => ?_⟩
      refine ⟨_, c.exm (show 7 < 14 by decide) (show 2 < 14 by decide), (fun e => absurd e (by decide)), fun _ => ?_⟩
      refine ⟨_, c.exm (show 7 < 14 by decide) (show 3 < 14 by decide), (fun e => absurd e (by decide)), fun _ => ?_⟩
      refine ⟨_, c.exm (show 7 < 14 by decide) (show 4 < 14 by decide), (fun e => absurd e (by decide)), fun _ => ?_⟩
      refine ⟨_, c.exm (show 7 < 14 by decide) (show 5 < 14 by decide), (fun e => absurd e (by decide)), fun _ => ?_⟩
      refine ⟨_, c.exm (show 7 < 14 by decide) (show 6 < 14 by decide), (fun e => absurd e (by decide)), fun _ => ?_⟩
      refine ⟨_, c.exm (show 7 < 14 by decide) (show 7 < 14 by decide), (fun _ a na => ?_), (fun e => absurd e (by decide))⟩
      exact ⟨(show 2 ≤ sizeLine by decide), fun p np => q p _ (same_new np) np upd_same⟩
    · refine ⟨_, c.exm (show 8 < 14 by decide) (show 1 < 14 by decide), (fun e => absurd e (by decide)), fun _ => ?_⟩
      refine ⟨_, c.exm (show 8 < 14 by decide) (show 2 < 14 by decide), (fun e => absurd e (by decide)), fun _ => ?_⟩
      refine ⟨_, c.exm (show 8 < 14 by decide) (show 3 < 14 by decide), (fun e => absurd e (by decide)), fun _ => ?_⟩
      refine ⟨_, c.exm (show 8 < 14 by decide) (show 4 < 14 by decide), (fun e => absurd e (by decide)), fun _ => ?_⟩
      refine ⟨_, c.exm (show 8 < 14 by decide) (show 5 < 14 by decide), (fun e => absurd e (by decide)), fun _ => ?_⟩
      refine ⟨_, c.exm (show 8 < 14 by decide) (show 6 < 14 by decide), (fun e => absurd e (by decide)), fun _ => ?_⟩
      refine ⟨_, c.exm (show 8 < 14 by decide) (show 7 < 14 by decide), (fun e => absurd e (by decide)), fun _ => ?_⟩
      refine ⟨_, c.exm (show 8 < 14 by decide) (show 8 < 14 by decide), (fun _ a na => ?_), (fun e => absurd e (by decide))⟩
      exact ⟨_, rfl, rfl, rfl, d, _, _, rfl, upd_same, rfl, (show 2 ≤ sizeLine by decide), fun p np => q p _ ((same_new nd).trans (same_new np)) ((same_new nd).free np) upd_same⟩
    · refine ⟨_, c.exm (show 9 < 14 by decide) (show 1 < 14 by decide), (fun e => absurd e (by decide)), fun _ => ?_⟩
      refine ⟨_, c.exm (show 9 < 14 by decide) (show 2 < 14 by decide), (fun e => absurd e (by decide)), fun _ => ?_⟩
      refine ⟨_, c.exm (show 9 < 14 by decide) (show 3 < 14 by decide), (fun e => absurd e (by decide)), fun _ => ?_⟩
      refine ⟨_, c.exm (show 9 < 14 by decide) (show 4 < 14 by decide), (fun e => absurd e (by decide)), fun _ => ?_⟩
      refine ⟨_, c.exm (show 9 < 14 by decide) (show 5 < 14 by decide), (fun e => absurd e (by decide)), fun _ => ?_⟩
      refine ⟨_, c.exm (show 9 < 14 by decide) (show 6 < 14 by decide), (fun e => absurd e (by decide)), fun _ => ?_⟩
      refine ⟨_, c.exm (show 9 < 14 by decide) (show 7 < 14 by decide), (fun e => absurd e (by decide)), fun _ => ?_⟩
      refine ⟨_, c.exm (show 9 < 14 by decide) (show 8 < 14 by decide), (fun e => absurd e (by decide)), fun _ => ?_⟩
      refine ⟨_, c.exm (show 9 < 14 by decide) (show 9 < 14 by decide), (fun _ a na => ?_), (fun e => absurd e (by decide))⟩
      exact ⟨_, rfl, rfl, rfl, d, _, _, rfl, upd_same, rfl, (show 2 ≤ sizeLine by decide), fun p np => q p _ ((same_new nd).trans (same_new np)) ((same_new nd).free np) upd_same⟩
    · refine ⟨_, c.exm (show 10 < 14 by decide) (show 1 < 14 by decide), (fun e => absurd e (by decide)), fun _ => ?_⟩
      refine ⟨_, c.exm (show 10 < 14 by decide) (show 2 < 14 by decide), (fun e => absurd e (by decide)), fun _ => ?_⟩
      refine ⟨_, c.exm (show 10 < 14 by decide) (show 3 < 14 by decide), (fun e => absurd e (by decide)), fun _ => ?_⟩
      refine ⟨_, c.exm (show 10 < 14 by decide) (show 4 < 14 by decide), (fun e => absurd e (by decide)), fun _ => ?_⟩
      refine ⟨_, c.exm (show 10 < 14 by decide) (show 5 < 14 by decide), (fun e => absurd e (by decide)), fun _ => ?_⟩
      refine ⟨_, c.exm (show 10 < 14 by decide) (show 6 < 14 by decide), (fun e => absurd e (by decide)), fun _ => ?_⟩
      refine ⟨_, c.exm (show 10 < 14 by decide) (show 7 < 14 by decide), (fun e => absurd e (by decide)), fun _ => ?_⟩
      refine ⟨_, c.exm (show 10 < 14 by decide) (show 8 < 14 by decide), (fun e => absurd e (by decide)), fun _ => ?_⟩
      refine ⟨_, c.exm (show 10 < 14 by decide) (show 9 < 14 by decide), (fun e => absurd e (by decide)), fun _ => ?_⟩
      refine ⟨_, c.exm (show 10 < 14 by decide) (show 10 < 14 by decide), (fun _ a na => ?_), (fun e => absurd e (by decide))⟩
      exact ⟨_, rfl, rfl, rfl, d, _, _, rfl, upd_same, rfl, (show 2 ≤ sizeLine by decide), fun p np => q p _ ((same_new nd).trans (same_new np)) ((same_new nd).free np) upd_same⟩
    · refine ⟨_, c.exm (show 11 < 14 by decide) (show 1 < 14 by decide), (fun e => absurd e (by decide)), fun _ => ?_⟩
      refine ⟨_, c.exm (show 11 < 14 by decide) (show 2 < 14 by decide), (fun e => absurd e (by decide)), fun _ => ?_⟩
      refine ⟨_, c.exm (show 11 < 14 by decide) (show 3 < 14 by decide), (fun e => absurd e (by decide)), fun _ => ?_⟩
      refine ⟨_, c.exm (show 11 < 14 by decide) (show 4 < 14 by decide), (fun e => absurd e (by decide)), fun _ => ?_⟩
      refine ⟨_, c.exm (show 11 < 14 by decide) (show 5 < 14 by decide), (fun e => absurd e (by decide)), fun _ => ?_⟩
      refine ⟨_, c.exm (show 11 < 14 by decide) (show 6 < 14 by decide), (fun e => absurd e (by decide)), fun _ => ?_⟩
      refine ⟨_, c.exm (show 11 < 14 by decide) (show 7 < 14 by decide), (fun e => absurd e (by decide)), fun _ => ?_⟩
      refine ⟨_, c.exm (show 11 < 14 by decide) (show 8 < 14 by decide), (fun e => absurd e (by decide)), fun _ => ?_⟩
      refine ⟨_, c.exm (show 11 < 14 by decide) (show 9 < 14 by decide), (fun e => absurd e (by decide)), fun _ => ?_⟩
      refine ⟨_, c.exm (show 11 < 14 by decide) (show 10 < 14 by decide), (fun e => absurd e (by decide)), fun _ => ?_⟩
      refine ⟨_, c.exm (show 11 < 14 by decide) (show 11 < 14 by decide), (fun _ a na => ?_), (fun e => absurd e (by decide))⟩
      exact ⟨_, rfl, rfl, rfl, d, _, _, rfl, upd_same, rfl, (show 2 ≤ sizeLine by decide), fun p np => q p _ ((same_new nd).trans (same_new np)) ((same_new nd).free np) upd_same⟩
    · refine ⟨_, c.exm (show 12 < 14 by decide) (show 1 < 14 by decide), (fun e => absurd e (by decide)), fun _ => ?_⟩
      refine ⟨_, c.exm (show 12 < 14 by decide) (show 2 < 14 by decide), (fun e => absurd e (by decide)), fun _ => ?_⟩
      refine ⟨_, c.exm (show 12 < 14 by decide) (show 3 < 14 by decide), (fun e => absurd e (by decide)), fun _ => ?_⟩
      refine ⟨_, c.exm (show 12 < 14 by decide) (show 4 < 14 by decide), (fun e => absurd e (by decide)), fun _ => ?_⟩
      refine ⟨_, c.exm (show 12 < 14 by decide) (show 5 < 14 by decide), (fun e => absurd e (by decide)), fun _ => ?_⟩
      refine ⟨_, c.exm (show 12 < 14 by decide) (show 6 < 14 by decide), (fun e => absurd e (by decide)), fun _ => ?_⟩
      refine ⟨_, c.exm (show 12 < 14 by decide) (show 7 < 14 by decide), (fun e => absurd e (by decide)), fun _ => ?_⟩
      refine ⟨_, c.exm (show 12 < 14 by decide) (show 8 < 14 by decide), (fun e => absurd e (by decide)), fun _ => ?_⟩
      refine ⟨_, c.exm (show 12 < 14 by decide) (show 9 < 14 by decide), (fun e => absurd e (by decide)), fun _ => ?_⟩
      refine ⟨_, c.exm (show 12 < 14 by decide) (show 10 < 14 by decide), (fun e => absurd e (by decide)), fun _ => ?_⟩
      refine ⟨_, c.exm (show 12 < 14 by decide) (show 11 < 14 by decide), (fun e => absurd e (by decide)), fun _ => ?_⟩
      refine ⟨_, c.exm (show 12 < 14 by decide) (show 12 < 14 by decide), (fun _ a na => ?_), (fun e => absurd e (by decide))⟩
      exact ⟨_, rfl, rfl, rfl, d, _, _, rfl, upd_same, rfl, (show 2 ≤ sizeLine by decide), fun p np => q p _ ((same_new nd).trans (same_new np)) ((same_new nd).free np) upd_same⟩
    · refine ⟨_, c.exm (show 13 < 14 by decide) (show 1 < 14 by decide), (fun e => absurd e (by decide)), fun _ => ?_⟩
      refine ⟨_, c.exm (show 13 < 14 by decide) (show 2 < 14 by decide), (fun e => absurd e (by decide)), fun _ => ?_⟩
      refine ⟨_, c.exm (show 13 < 14 by decide) (show 3 < 14 by decide), (fun e => absurd e (by decide)), fun _ => ?_⟩
      refine ⟨_, c.exm (show 13 < 14 by decide) (show 4 < 14 by decide), (fun e => absurd e (by decide)), fun _ => ?_⟩
      refine ⟨_, c.exm (show 13 < 14 by decide) (show 5 < 14 by decide), (fun e => absurd e (by decide)), fun _ => ?_⟩
      refine ⟨_, c.exm (show 13 < 14 by decide) (show 6 < 14 by decide), (fun e => absurd e (by decide)), fun _ => ?_⟩
      refine ⟨_, c.exm (show 13 < 14 by decide) (show 7 < 14 by decide), (fun e => absurd e (by decide)), fun _ => ?_⟩
      refine ⟨_, c.exm (show 13 < 14 by decide) (show 8 < 14 by decide), (fun e => absurd e (by decide)), fun _ => ?_⟩
      refine ⟨_, c.exm (show 13 < 14 by decide) (show 9 < 14 by decide), (fun e => absurd e (by decide)), fun _ => ?_⟩
      refine ⟨_, c.exm (show 13 < 14 by decide) (show 10 < 14 by decide), (fun e => absurd e (by decide)), fun _ => ?_⟩
      refine ⟨_, c.exm (show 13 < 14 by decide) (show 11 < 14 by decide), (fun e => absurd e (by decide)), fun _ => ?_⟩
      refine ⟨_, c.exm (show 13 < 14 by decide) (show 12 < 14 by decide), (fun e => absurd e (by decide)), fun _ => ?_⟩
      refine ⟨_, c.exm (show 13 < 14 by decide) (show 13 < 14 by decide), (fun _ a na => ?_), (fun e => absurd e (by decide))⟩
      exact ⟨_, rfl, rfl, rfl, d, _, _, rfl, upd_same, rfl, (show 2 ≤ sizeLine by decide), fun p np => q p _ ((same_new nd).trans (same_new np)) ((same_new nd).free np) upd_same⟩
end
end K00

namespace K00
open PySem PySem.Spec L2 Ks
open PyProof.Rows hiding St
structure Bv (mg : Str → Option Value) : Prop where
  v0 : mg "ValueError" = none
  v1 : mg "IndexError" = none
  v2 : mg "KeyError" = none
  v3 : mg "LookupError" = none
  v4 : mg "OverflowError" = none
  v5 : mg "ArithmeticError" = none
  tp : mg "tuple" = none
def bools (n : Nat) : List V := [.bl (isSub n 0), .bl (isSub n 1), .bl (isSub n 2)] ++ [.bl (isSub n 3), .bl (isSub n 4)] ++ [.bl (isSub n 5), .bl (isSub n 6)] ++ [.bl (isSub n 7), .bl (isSub n 8), .bl (isSub n 9)] ++ [.bl (isSub n 10), .bl (isSub n 11), .bl (isSub n 12)] ++ [.bl (isSub n 13), .bl (bltSub n 0), .bl (bltSub n 1)] ++ [.bl (bltSub n 2), .bl (bltSub n 3), .bl (bltSub n 4)] ++ [.bl (bltSub n 5)]
def spClasses (C : Nat → Addr) : SpX := fun _ cls d H Q => ∃ n, n < 14 ∧ cls = .ref (C n) ∧ (∀ dd, d = some dd → ∃ fs, H dd = some (.xd fs)) ∧ ∀ p H', Same H H' → H p = none → H' p = some (.lst (bools n)) → Q (.ref p) H'
section
variable {P : Program} {w : World} {K : PySem.W.Frag} {mg : Str → Option Value} {base : Heap} {C fI : Nat → Addr} {fdI : Nat → FuncData}
theorem okLclasses {f : Addr} {fd : FuncData} (D : Dn K mg "_law_classes" sLclasses ["_law_error"] f fd) (T : Bx mg) (B : Bv mg) (O : Ow K mg C) (I : Kp K mg C fI fdI) (c : Cs K C) : FnX P w K mg base 1 f fd "_law_error" (spClasses C) := by
  refine fnx_of D.F scLclasses (fun cdv A outer s H p cls d Q hr hz hf h => ?_)
  obtain ⟨n, hn, rfl, hd, q⟩ := h
  refine ⟨_, (pss_cons (ps_set (i := 1) scLclasses.nd rfl (Or.inl rfl) (pe_lst (pa_cons (pe_callB (id := "isinstance") (r := rIsX K (C n) p.1 d) (call_isX (c.ex n hn) hz hf (List.mem_singleton.mpr rfl)) (by rfl) T.m_isinstance (by decide +kernel) (pa_cons (pv 0) (pa_cons (pe_glob (v := .ref (C 0)) rfl O.o0.g rfl) pa_nil))) (pa_cons (pe_callB (id := "isinstance") (r := rIsX K (C n) p.1 d) (call_isX (c.ex n hn) hz hf (List.mem_singleton.mpr rfl)) (by rfl) T.m_isinstance (by decide +kernel) (pa_cons (pv 0) (pa_cons (pe_glob (v := .ref (C 1)) rfl O.o1.g rfl) pa_nil))) (pa_cons (pe_callB (id := "isinstance") (r := rIsX K (C n) p.1 d) (call_isX (c.ex n hn) hz hf (List.mem_singleton.mpr rfl)) (by rfl) T.m_isinstance (by decide +kernel) (pa_cons (pv 0) (pa_cons (pe_glob (v := .ref (C 2)) rfl O.o2.g rfl) pa_nil))) pa_nil)))))
  (pss_cons (ps_set (i := 1) scLclasses.nd rfl (Or.inl rfl) (pe_op op_cat (pv 1) (pe_lst (pa_cons (pe_callB (id := "isinstance") (r := rIsX K (C n) p.1 d) (call_isX (c.ex n hn) hz hf (List.mem_singleton.mpr rfl)) (by rfl) T.m_isinstance (by decide +kernel) (pa_cons (pv 0) (pa_cons (pe_glob (v := .ref (C 3)) rfl O.o3.g rfl) pa_nil))) (pa_cons (pe_callB (id := "isinstance") (r := rIsX K (C n) p.1 d) (call_isX (c.ex n hn) hz hf (List.mem_singleton.mpr rfl)) (by rfl) T.m_isinstance (by decide +kernel) (pa_cons (pv 0) (pa_cons (pe_glob (v := .ref (C 4)) rfl O.o4.g rfl) pa_nil))) pa_nil)))))
  (pss_cons (ps_set (i := 1) scLclasses.nd rfl (Or.inl rfl) (pe_op op_cat (pv 1) (pe_lst (pa_cons (pe_callB (id := "isinstance") (r := rIsX K (C n) p.1 d) (call_isX (c.ex n hn) hz hf (List.mem_singleton.mpr rfl)) (by rfl) T.m_isinstance (by decide +kernel) (pa_cons (pv 0) (pa_cons (pe_glob (v := .ref (C 5)) rfl O.o5.g rfl) pa_nil))) (pa_cons (pe_callB (id := "isinstance") (r := rIsX K (C n) p.1 d) (call_isX (c.ex n hn) hz hf (List.mem_singleton.mpr rfl)) (by rfl) T.m_isinstance (by decide +kernel) (pa_cons (pv 0) (pa_cons (pe_glob (v := .ref (C 6)) rfl O.o6.g rfl) pa_nil))) pa_nil)))))
  (pss_cons (ps_set (i := 1) scLclasses.nd rfl (Or.inl rfl) (pe_op op_cat (pv 1) (pe_lst (pa_cons (pe_callB (id := "isinstance") (r := rIsX K (C n) p.1 d) (call_isX (c.ex n hn) hz hf (List.mem_singleton.mpr rfl)) (by rfl) T.m_isinstance (by decide +kernel) (pa_cons (pv 0) (pa_cons (pe_glob (v := .ref (C 7)) rfl O.o7.g rfl) pa_nil))) (pa_cons (pe_callB (id := "isinstance") (r := rIsX K (C n) p.1 d) (call_isX (c.ex n hn) hz hf (List.mem_singleton.mpr rfl)) (by rfl) T.m_isinstance (by decide +kernel) (pa_cons (pv 0) (pa_cons (pe_glob (v := .ref (C 8)) rfl I.k8.g rfl) pa_nil))) (pa_cons (pe_callB (id := "isinstance") (r := rIsX K (C n) p.1 d) (call_isX (c.ex n hn) hz hf (List.mem_singleton.mpr rfl)) (by rfl) T.m_isinstance (by decide +kernel) (pa_cons (pv 0) (pa_cons (pe_glob (v := .ref (C 9)) rfl I.k9.g rfl) pa_nil))) pa_nil))))))
  (pss_cons (ps_set (i := 1) scLclasses.nd rfl (Or.inl rfl) (pe_op op_cat (pv 1) (pe_lst (pa_cons (pe_callB (id := "isinstance") (r := rIsX K (C n) p.1 d) (call_isX (c.ex n hn) hz hf (List.mem_singleton.mpr rfl)) (by rfl) T.m_isinstance (by decide +kernel) (pa_cons (pv 0) (pa_cons (pe_glob (v := .ref (C 10)) rfl I.k10.g rfl) pa_nil))) (pa_cons (pe_callB (id := "isinstance") (r := rIsX K (C n) p.1 d) (call_isX (c.ex n hn) hz hf (List.mem_singleton.mpr rfl)) (by rfl) T.m_isinstance (by decide +kernel) (pa_cons (pv 0) (pa_cons (pe_glob (v := .ref (C 11)) rfl I.k11.g rfl) pa_nil))) (pa_cons (pe_callB (id := "isinstance") (r := rIsX K (C n) p.1 d) (call_isX (c.ex n hn) hz hf (List.mem_singleton.mpr rfl)) (by rfl) T.m_isinstance (by decide +kernel) (pa_cons (pv 0) (pa_cons (pe_glob (v := .ref (C 12)) rfl I.k12.g rfl) pa_nil))) pa_nil))))))
  (pss_cons (ps_set (i := 1) scLclasses.nd rfl (Or.inl rfl) (pe_op op_cat (pv 1) (pe_lst (pa_cons (pe_callB (id := "isinstance") (r := rIsX K (C n) p.1 d) (call_isX (c.ex n hn) hz hf (List.mem_singleton.mpr rfl)) (by rfl) T.m_isinstance (by decide +kernel) (pa_cons (pv 0) (pa_cons (pe_glob (v := .ref (C 13)) rfl I.k13.g rfl) pa_nil))) (pa_cons (pe_callB (id := "isinstance") (r := rIsX K (C n) p.1 d) (call_isX (c.ex n hn) hz hf (List.mem_singleton.mpr rfl)) (by rfl) T.m_isinstance (by decide +kernel) (pa_cons (pv 0) (pa_cons (pe_bltn (v := .ty "ValueError") (by rfl) B.v0 (by decide +kernel) rfl) pa_nil))) (pa_cons (pe_callB (id := "isinstance") (r := rIsX K (C n) p.1 d) (call_isX (c.ex n hn) hz hf (List.mem_singleton.mpr rfl)) (by rfl) T.m_isinstance (by decide +kernel) (pa_cons (pv 0) (pa_cons (pe_bltn (v := .ty "IndexError") (by rfl) B.v1 (by decide +kernel) rfl) pa_nil))) pa_nil))))))
  (pss_cons (ps_set (i := 1) scLclasses.nd rfl (Or.inl rfl) (pe_op op_cat (pv 1) (pe_lst (pa_cons (pe_callB (id := "isinstance") (r := rIsX K (C n) p.1 d) (call_isX (c.ex n hn) hz hf (List.mem_singleton.mpr rfl)) (by rfl) T.m_isinstance (by decide +kernel) (pa_cons (pv 0) (pa_cons (pe_bltn (v := .ty "KeyError") (by rfl) B.v2 (by decide +kernel) rfl) pa_nil))) (pa_cons (pe_callB (id := "isinstance") (r := rIsX K (C n) p.1 d) (call_isX (c.ex n hn) hz hf (List.mem_singleton.mpr rfl)) (by rfl) T.m_isinstance (by decide +kernel) (pa_cons (pv 0) (pa_cons (pe_bltn (v := .ty "LookupError") (by rfl) B.v3 (by decide +kernel) rfl) pa_nil))) (pa_cons (pe_callB (id := "isinstance") (r := rIsX K (C n) p.1 d) (call_isX (c.ex n hn) hz hf (List.mem_singleton.mpr rfl)) (by rfl) T.m_isinstance (by decide +kernel) (pa_cons (pv 0) (pa_cons (pe_bltn (v := .ty "OverflowError") (by rfl) B.v4 (by decide +kernel) rfl) pa_nil))) pa_nil))))))
  (pss_one (ps_ret (pe_op op_cat (pv 1) (pe_lst (pa_cons (pe_callB (id := "isinstance") (r := rIsX K (C n) p.1 d) (call_isX (c.ex n hn) hz hf (List.mem_singleton.mpr rfl)) (by rfl) T.m_isinstance (by decide +kernel) (pa_cons (pv 0) (pa_cons (pe_bltn (v := .ty "ArithmeticError") (by rfl) B.v5 (by decide +kernel) rfl) pa_nil))) pa_nil)))))))))))), ?_⟩
  have keep : ∀ {H' : Hp}, Same H H' → ∀ dd, d = some dd → ∃ fs, H' dd = some (.xd fs) := fun sm dd e => by
    obtain ⟨fs, e1⟩ := hd dd e
    exact ⟨fs, sm _ _ e1⟩
  refine ⟨_, rfl, _, _, _, rfl, (fun u h => h), c.kit hn (show 0 < 14 by decide), hd, _, rfl, _, _, _, rfl, (fun u h => h), c.kit hn (show 1 < 14 by decide), hd, _, rfl, _, _, _, rfl, (fun u h => h), c.kit hn (show 2 < 14 by decide), hd, (show 3 ≤ sizeLine by decide), fun p0 n0 => ?_⟩
  have s0 : Same H (upd H p0 (.lst [.bl (isSub n 0), .bl (isSub n 1), .bl (isSub n 2)])) := same_new n0
  refine ⟨.ref p0, rfl, _, rfl, _, _, _, rfl, (fun u h => h), c.kit hn (show 3 < 14 by decide), keep s0, _, rfl, _, _, _, rfl, (fun u h => h), c.kit hn (show 4 < 14 by decide), keep s0, (show 2 ≤ sizeLine by decide), fun a1 na1 => ?_⟩
  have t1 := s0.trans (same_new (o := .lst [.bl (isSub n 3), .bl (isSub n 4)]) na1)
  refine ⟨p0, a1, _, _, rfl, rfl, (by rw [upd_ne (ne_of_none upd_same na1)]; exact upd_same), upd_same, (by show 5 ≤ sizeLine; decide), fun p1 np1 => ?_⟩
  have s1 := t1.trans (same_new (o := .lst ([.bl (isSub n 0), .bl (isSub n 1), .bl (isSub n 2)] ++ [.bl (isSub n 3), .bl (isSub n 4)])) np1)
  refine ⟨.ref p1, rfl, _, rfl, _, _, _, rfl, (fun u h => h), c.kit hn (show 5 < 14 by decide), keep s1, _, rfl, _, _, _, rfl, (fun u h => h), c.kit hn (show 6 < 14 by decide), keep s1, (show 2 ≤ sizeLine by decide), fun a2 na2 => ?_⟩
  have t2 := s1.trans (same_new (o := .lst [.bl (isSub n 5), .bl (isSub n 6)]) na2)
  refine ⟨p1, a2, _, _, rfl, rfl, (by rw [upd_ne (ne_of_none upd_same na2)]; exact upd_same), upd_same, (by show 7 ≤ sizeLine; decide), fun p2 np2 => ?_⟩
  have s2 := t2.trans (same_new (o := .lst ([.bl (isSub n 0), .bl (isSub n 1), .bl (isSub n 2)] ++ [.bl (isSub n 3), .bl (isSub n 4)] ++ [.bl (isSub n 5), .bl (isSub n 6)])) np2)
  refine ⟨.ref p2, rfl, _, rfl, _, _, _, rfl, (fun u h => h), c.kit hn (show 7 < 14 by decide), keep s2, _, rfl, _, _, _, rfl, (fun u h => h), c.kit hn (show 8 < 14 by decide), keep s2, _, rfl, _, _, _, rfl, (fun u h => h), c.kit hn (show 9 < 14 by decide), keep s2, (show 3 ≤ sizeLine by decide), fun a3 na3 => ?_⟩
  have t3 := s2.trans (same_new (o := .lst [.bl (isSub n 7), .bl (isSub n 8), .bl (isSub n 9)]) na3)
  refine ⟨p2, a3, _, _, rfl, rfl, (by rw [upd_ne (ne_of_none upd_same na3)]; exact upd_same), upd_same, (by show 10 ≤ sizeLine; decide), fun p3 np3 => ?_⟩
  have s3 := t3.trans (same_new (o := .lst ([.bl (isSub n 0), .bl (isSub n 1), .bl (isSub n 2)] ++ [.bl (isSub n 3), .bl (isSub n 4)] ++ [.bl (isSub n 5), .bl (isSub n 6)] ++ [.bl (isSub n 7), .bl (isSub n 8), .bl (isSub n 9)])) np3)
  refine ⟨.ref p3, rfl, _, rfl, _, _, _, rfl, (fun u h => h), c.kit hn (show 10 < 14 by decide), keep s3, _, rfl, _, _, _, rfl, (fun u h => h), c.kit hn (show 11 < 14 by decide), keep s3, _, rfl, _, _, _, rfl, (fun u h => h), c.kit hn (show 12 < 14 by decide), keep s3, (show 3 ≤ sizeLine by decide), fun a4 na4 => ?_⟩
  have t4 := s3.trans (same_new (o := .lst [.bl (isSub n 10), .bl (isSub n 11), .bl (isSub n 12)]) na4)
  refine ⟨p3, a4, _, _, rfl, rfl, (by rw [upd_ne (ne_of_none upd_same na4)]; exact upd_same), upd_same, (by show 13 ≤ sizeLine; decide), fun p4 np4 => ?_⟩
  have s4 := t4.trans (same_new (o := .lst ([.bl (isSub n 0), .bl (isSub n 1), .bl (isSub n 2)] ++ [.bl (isSub n 3), .bl (isSub n 4)] ++ [.bl (isSub n 5), .bl (isSub n 6)] ++ [.bl (isSub n 7), .bl (isSub n 8), .bl (isSub n 9)] ++ [.bl (isSub n 10), .bl (isSub n 11), .bl (isSub n 12)])) np4)
  refine ⟨.ref p4, rfl, _, rfl, _, _, _, rfl, (fun u h => h), c.kit hn (show 13 < 14 by decide), keep s4, _, rfl, _, _, _, rfl, (fun u h => h), c.kitB (k := 0) hn rfl, keep s4, _, rfl, _, _, _, rfl, (fun u h => h), c.kitB (k := 1) hn rfl, keep s4, (show 3 ≤ sizeLine by decide), fun a5 na5 => ?_⟩
  have t5 := s4.trans (same_new (o := .lst [.bl (isSub n 13), .bl (bltSub n 0), .bl (bltSub n 1)]) na5)
  refine ⟨p4, a5, _, _, rfl, rfl, (by rw [upd_ne (ne_of_none upd_same na5)]; exact upd_same), upd_same, (by show 16 ≤ sizeLine; decide), fun p5 np5 => ?_⟩
  have s5 := t5.trans (same_new (o := .lst ([.bl (isSub n 0), .bl (isSub n 1), .bl (isSub n 2)] ++ [.bl (isSub n 3), .bl (isSub n 4)] ++ [.bl (isSub n 5), .bl (isSub n 6)] ++ [.bl (isSub n 7), .bl (isSub n 8), .bl (isSub n 9)] ++ [.bl (isSub n 10), .bl (isSub n 11), .bl (isSub n 12)] ++ [.bl (isSub n 13), .bl (bltSub n 0), .bl (bltSub n 1)])) np5)
  refine ⟨.ref p5, rfl, _, rfl, _, _, _, rfl, (fun u h => h), c.kitB (k := 2) hn rfl, keep s5, _, rfl, _, _, _, rfl, (fun u h => h), c.kitB (k := 3) hn rfl, keep s5, _, rfl, _, _, _, rfl, (fun u h => h), c.kitB (k := 4) hn rfl, keep s5, (show 3 ≤ sizeLine by decide), fun a6 na6 => ?_⟩
  have t6 := s5.trans (same_new (o := .lst [.bl (bltSub n 2), .bl (bltSub n 3), .bl (bltSub n 4)]) na6)
  refine ⟨p5, a6, _, _, rfl, rfl, (by rw [upd_ne (ne_of_none upd_same na6)]; exact upd_same), upd_same, (by show 19 ≤ sizeLine; decide), fun p6 np6 => ?_⟩
  have s6 := t6.trans (same_new (o := .lst ([.bl (isSub n 0), .bl (isSub n 1), .bl (isSub n 2)] ++ [.bl (isSub n 3), .bl (isSub n 4)] ++ [.bl (isSub n 5), .bl (isSub n 6)] ++ [.bl (isSub n 7), .bl (isSub n 8), .bl (isSub n 9)] ++ [.bl (isSub n 10), .bl (isSub n 11), .bl (isSub n 12)] ++ [.bl (isSub n 13), .bl (bltSub n 0), .bl (bltSub n 1)] ++ [.bl (bltSub n 2), .bl (bltSub n 3), .bl (bltSub n 4)])) np6)
  refine ⟨.ref p6, rfl, _, rfl, _, _, _, rfl, (fun u h => h), c.kitB (k := 5) hn rfl, keep s6, (show 1 ≤ sizeLine by decide), fun a7 na7 => ?_⟩
  have t7 := s6.trans (same_new (o := .lst [.bl (bltSub n 5)]) na7)
  refine ⟨p6, a7, _, _, rfl, rfl, (by rw [upd_ne (ne_of_none upd_same na7)]; exact upd_same), upd_same, (by show 20 ≤ sizeLine; decide), fun p7 np7 => ?_⟩
  have s7 := t7.trans (same_new (o := .lst ([.bl (isSub n 0), .bl (isSub n 1), .bl (isSub n 2)] ++ [.bl (isSub n 3), .bl (isSub n 4)] ++ [.bl (isSub n 5), .bl (isSub n 6)] ++ [.bl (isSub n 7), .bl (isSub n 8), .bl (isSub n 9)] ++ [.bl (isSub n 10), .bl (isSub n 11), .bl (isSub n 12)] ++ [.bl (isSub n 13), .bl (bltSub n 0), .bl (bltSub n 1)] ++ [.bl (bltSub n 2), .bl (bltSub n 3), .bl (bltSub n 4)] ++ [.bl (bltSub n 5)])) np7)
  exact q p7 _ s7 (t7.free np7) upd_same
end
end K00

namespace K00
open PySem PySem.Spec L2 Ks
open PyProof.Rows hiding St
def due (n : Nat) : List Int := if 9 ≤ n then (n : Int) :: ([[15, 17], [16, 17], [18, 19], [19], [17]] : List (List Int)).getD (n - 9) [] else [0, (n : Int), 14]
def inDue (n j : Nat) : V := .bl (inV (.int (j : Int)) ((due n).map V.int))
def dues (n : Nat) : List V := (List.range 20).map (inDue n)
theorem bools_dues : ∀ n, n < 14 → bools n = dues n := by decide +kernel
theorem one_class : ∀ n, n < 14 → isSub n 0 = false → (isSub n 9 || (isSub n 10 || (isSub n 11 || (isSub n 12 || (isSub n 13 || false))))) = true := by decide +kernel
def spClassesOf : Sp := fun vs H Q _ => ∃ (n : Nat) (t v m r : V), vs = [.int n, t, v, m, r] ∧ n < 14 ∧ ∀ p H', Same H H' → H p = none → H' p = some (.lst (bools n)) → Q (.ref p) H'
def spDue : Sp := fun vs H Q _ => ∃ (n : Nat), vs = [.int n] ∧ n < 14 ∧ ∀ p H', Same H H' → H p = none → H' p = some (.lst (dues n)) → Q (.ref p) H'
section
variable {P : Program} {w : World} {K : PySem.W.Frag} {mg : Str → Option Value} {base : Heap} {C fI : Nat → Addr} {fdI : Nat → FuncData}
theorem okLclassesOf {f f1 f2 : Addr} {fd fd1 fd2 : FuncData} (D : Dn K mg "_law_classes_of" sLclassesOf ["_law_which", "_law_text", "_law_value", "_law_number", "_law_reason"] f fd) (D1 : Dn K mg "_law_raised" sLraised ["_law_which", "_law_text", "_law_value", "_law_number", "_law_reason"] f1 fd1)
    (D2 : Dn K mg "_law_classes" sLclasses ["_law_error"] f2 fd2) (T : Bx mg) (B : Bv mg) (O : Ow K mg C) (I : Kp K mg C fI fdI) (c : Cs K C) :
    FnOk P w K mg base CX0 4 f fd ["_law_which", "_law_text", "_law_value", "_law_number", "_law_reason"] spClassesOf := by
  have G1 : FnOk P w K mg base (L2.CX P w) 3 _ _ _ _ := okLraised D1 T O I
  have G2 : FnX P w K mg base 1 _ _ _ _ := okLclasses D2 T B O I c
  refine D.F.ok scLclassesOf (fun vs H Q E h => ?_) (fun cdv A outer s H vs Q E hr h => ?_)
  · obtain ⟨n, t, v, m, r, rfl, _⟩ := h
    rfl
  · obtain ⟨n, t, v, m, r, rfl, hn, q⟩ := h
    refine ⟨_, pss_cons (ps_claws (l := [⟨askOne (.ref (C 0)), some 5, fun a cls d => _⟩, ⟨askFive [.ref (C 9), .ref (C 10), .ref (C 11), .ref (C 12), .ref (C 13)], some 5, fun a cls d => _⟩])
        rfl rfl scLclassesOf.nd takes0
        (fun W pn xe tk po => pss_one (ps_expr (pe_callS G1 (hr.mono (by decide)) (by rfl) D1.g D1.F.kp D1.b (fun σ => passAt tk σ) (pa_cons (pv 0) (pa_cons (pv 1) (pa_cons (pv 2) (pa_cons (pv 3) (pa_cons (pv 4) pa_nil))))))))
        (ClawsOk.named ⟨by rfl, by decide, .inl O.o0.g⟩ rfl rfl (fun a oe cls d pn hz hf => pss_one (ps_ret (pe_callX G2 (L2H.roomH_of (hr.mono (by decide))) hz hf (by rfl) D2.g D2.F.kp D2.b (pa_cons (pv 5) pa_nil))))
        (ClawsOk.five ⟨by rfl, by decide, .inl I.k9.g⟩ ⟨by rfl, by decide, .inl I.k10.g⟩ ⟨by rfl, by decide, .inl I.k11.g⟩ ⟨by rfl, by decide, .inl I.k12.g⟩ ⟨by rfl, by decide, .inl I.k13.g⟩ rfl rfl
          (fun a oe cls d pn hz hf => pss_one (ps_ret (pe_callX G2 (L2H.roomH_of (hr.mono (by decide))) hz hf (by rfl) D2.g D2.F.kp D2.b (pa_cons (pv 5) pa_nil)))) ClawsOk.nil)))
      (pss_one (ps_ret pe_non)), ?_⟩
    refine ⟨_, rfl, _, rfl, _, rfl, _, rfl, _, rfl, n, t, v, m, r, rfl, hn, fun _ => ?_, fun _ d nd => ?_⟩
    · refine ⟨_, c.exm hn (show 0 < 14 by decide), fun _ a na => ⟨_, rfl, rfl, n, hn, rfl, (fun dd e => nomatch e), fun p H' sm np e => q p H' sm np e⟩, fun e0 => ⟨_, c.five hn, fun _ a na => ⟨_, rfl, rfl, n, hn, rfl, (fun dd e => nomatch e), fun p H' sm np e => q p H' sm np e⟩, fun e1 => ?_⟩⟩
      rw [one_class n hn e0] at e1
      cases e1
    · have sd : Same H (upd H d (.xd [(fld n, kept n v m r)])) := same_new nd
      have hd : ∀ dd, some d = some dd → ∃ fs, (upd H d (.xd [(fld n, kept n v m r)])) dd = some (.xd fs) := fun dd e => by
        cases e
        exact ⟨_, upd_same⟩
      refine ⟨_, c.exm hn (show 0 < 14 by decide), fun _ a na => ⟨_, rfl, rfl, n, hn, rfl, hd, fun p H' sm np e => q p H' (sd.trans sm) (sd.free np) e⟩, fun e0 => ⟨_, c.five hn, fun _ a na => ⟨_, rfl, rfl, n, hn, rfl, hd, fun p H' sm np e => q p H' (sd.trans sm) (sd.free np) e⟩, fun e1 => ?_⟩⟩
      rw [one_class n hn e0] at e1
      cases e1
theorem okLdue {f : Addr} {fd : FuncData} (D : Dn K mg "_law_due_classes" sLdueClasses ["_law_which"] f fd) (T : Bx mg) : FnOk P w K mg base CX0 1 f fd ["_law_which"] spDue := by
  refine D.F.ok scLdueClasses (fun vs H Q E h => ?_) (fun cdv A outer s H vs Q E hr h => ?_)
  · obtain ⟨n, rfl, _⟩ := h
    rfl
  · obtain ⟨n, rfl, hn, q⟩ := h
    refine ⟨_, ((pss_cons (ps_set (i := 1) scLdueClasses.nd rfl (Or.inr rfl) (pe_lst (pa_cons pe_int (pa_cons (pv 0) (pa_cons pe_int pa_nil)))))
  (pss_cons (ps_if (pt_cmpR op_ge (pv 0) pe_int (nomark _)) (pss_one (ps_set (i := 1) scLdueClasses.nd rfl (Or.inr rfl) (pe_op op_cat (pe_lst (pa_cons (pv 0) pa_nil)) (pe_ix ix_list (pe_lst (pa_cons (pe_lst (pa_cons pe_int (pa_cons pe_int pa_nil))) (pa_cons (pe_lst (pa_cons pe_int (pa_cons pe_int pa_nil))) (pa_cons (pe_lst (pa_cons pe_int (pa_cons pe_int pa_nil))) (pa_cons (pe_lst (pa_cons pe_int pa_nil)) (pa_cons (pe_lst (pa_cons pe_int pa_nil)) pa_nil)))))) (pe_op op_sub (pv 0) pe_int) (fun _ _ => rfl))))) pss_nil)
  (pss_one (ps_ret (pe_lc (own := [("_law_at", 2)]) (g := gName 2) rfl scLdueClasses.nd (pi_range1 (by rfl) T.m_range (pa_cons pe_int pa_nil)) (blkOk_by (own := [("_law_at", 2)]) (N := ["_law_which", "_law_due", "_law_at"]) (sc := defScope sLdueClasses) (by decide +kernel)) (fun _ _ _ _ _ => (pg_name (i := 2) scLdueClasses.nd rfl (Or.inl rfl))) (fun _ _ _ _ _ => pts_nil) (fun _ _ _ _ _ => (pe_cmpR (r := rIn K false) (by exact op_in_seq) (pv 2) (pv 1) (by with_unfolding_all rfl))))))))), ?_⟩
    refine ⟨_, rfl, (show 3 ≤ sizeLine by decide), fun p np => ?_⟩
    have s0 : Same H (upd H p (.lst [.int 0, .int n, .int 14])) := same_new np
    refine ⟨_, rfl, _, _, rfl, rfl, _, rfl, ite2 (fun e => ?_) (fun e => ?_)⟩
    · have h9 : (9 : Int) ≤ n := of_decide_eq_true e
      refine ⟨_, rfl, (show 1 ≤ sizeLine by decide), fun a na => ⟨(show 2 ≤ sizeLine by decide), fun l1 n1 => ⟨(show 2 ≤ sizeLine by decide), fun l2 n2 => ⟨(show 2 ≤ sizeLine by decide), fun l3 n3 => ⟨(show 1 ≤ sizeLine by decide), fun l4 n4 => ⟨(show 1 ≤ sizeLine by decide), fun l5 n5 => ⟨(show 5 ≤ sizeLine by decide), fun lo no => ?_⟩⟩⟩⟩⟩⟩⟩
      have sA := s0.trans (same_new (o := .lst [.int n]) na)
      have t1 := same_new (o := .lst [.int 15, .int 17]) n1
      have t2 := same_new (o := .lst [.int 16, .int 17]) n2
      have t3 := same_new (o := .lst [.int 18, .int 19]) n3
      have t4 := same_new (o := .lst [.int 19]) n4
      have t5 := same_new (o := .lst [.int 17]) n5
      have to := same_new (o := .lst [.ref l1, .ref l2, .ref l3, .ref l4, .ref l5]) no
      have e5 := to _ _ (upd_same (H := _) (a := l5) (o := .lst [.int 17]))
      have e4 := to _ _ (t5 _ _ (upd_same (a := l4) (o := .lst [.int 19])))
      have e3 := to _ _ (t5 _ _ (t4 _ _ (upd_same (a := l3) (o := .lst [.int 18, .int 19]))))
      have e2 := to _ _ (t5 _ _ (t4 _ _ (t3 _ _ (upd_same (a := l2) (o := .lst [.int 16, .int 17])))))
      have e1 := to _ _ (t5 _ _ (t4 _ _ (t3 _ _ (t2 _ _ (upd_same (a := l1) (o := .lst [.int 15, .int 17]))))))
      have eA := to _ _ (t5 _ _ (t4 _ _ (t3 _ _ (t2 _ _ (t1 _ _ (upd_same (a := a) (o := .lst [.int n])))))))
      have sO := sA.trans (t1.trans (t2.trans (t3.trans (t4.trans (t5.trans to)))))
      rcases (show n = 9 ∨ n = 10 ∨ n = 11 ∨ n = 12 ∨ n = 13 by omega) with rfl | rfl | rfl | rfl | rfl
      · refine ⟨_, rfl, _, _, rfl, rfl, lo, _, (0 : Int), .ref l1, rfl, rfl, .inl (.inl upd_same), rfl, a, l1, [.int 9], [.int 15, .int 17], rfl, rfl, eA, e1, (show 3 ≤ sizeLine by decide), fun pd npd => ?_⟩
        have sm := sO.trans (same_new (o := .lst ([.int 9] ++ [.int 15, .int 17])) npd)
        have hpd : ∀ G : Hp, (upd G pd (.lst ([.int 9] ++ [.int 15, .int 17]))) pd = some (.lst ((due 9).map V.int)) := fun G => upd_same
        refine ⟨20, rfl, by decide, by decide, fun D nD => ?_⟩
        have dne : pd ≠ D := ne_of_none (hpd _) nD
        refine lc_it (walk_range (lo := 0) (n := 20)) (fun i H' => Same _ H' ∧ H' D = some (.lst ((List.range i).map (inDue 9)))) ⟨same_new nD, upd_same⟩ (fun _ _ _ _ => trivial) (fun i x H1 H2 hi h hy => ?_) (fun H1 h => q D H1 (sm.trans h.1) (sm.free nD) h.2)
        obtain ⟨s1, eD⟩ := h
        obtain ⟨rfl, rfl⟩ := hy
        refine ⟨rfl, _, rfl, _, rfl, pd, (due 9).map V.int, rfl, .inl (.inl (.inl (s1 _ _ (hpd _)))), rfl, ?_, ?_⟩
        · rw [List.all_map, List.all_eq_true]
          exact fun _ _ => rfl
        refine ⟨_, eD, ?_, fun b o e => ?_, ?_⟩
        · rw [List.length_map, List.length_range]
          exact Nat.lt_of_lt_of_le hi (by decide)
        · rw [upd_ne (ne_of_none e nD)]
          exact s1 b o e
        · rw [upd_same, List.range_succ, List.map_append]
          show some (HO.lst (_ ++ [V.bl (inV (.int (0 + (i : Int))) _)])) = some (HO.lst (_ ++ [inDue 9 i]))
          rw [Int.zero_add]
          rfl
      · refine ⟨_, rfl, _, _, rfl, rfl, lo, _, (1 : Int), .ref l2, rfl, rfl, .inl (.inl upd_same), rfl, a, l2, [.int 10], [.int 16, .int 17], rfl, rfl, eA, e2, (show 3 ≤ sizeLine by decide), fun pd npd => ?_⟩
        have sm := sO.trans (same_new (o := .lst ([.int 10] ++ [.int 16, .int 17])) npd)
        have hpd : ∀ G : Hp, (upd G pd (.lst ([.int 10] ++ [.int 16, .int 17]))) pd = some (.lst ((due 10).map V.int)) := fun G => upd_same
        refine ⟨20, rfl, by decide, by decide, fun D nD => ?_⟩
        have dne : pd ≠ D := ne_of_none (hpd _) nD
        refine lc_it (walk_range (lo := 0) (n := 20)) (fun i H' => Same _ H' ∧ H' D = some (.lst ((List.range i).map (inDue 10)))) ⟨same_new nD, upd_same⟩ (fun _ _ _ _ => trivial) (fun i x H1 H2 hi h hy => ?_) (fun H1 h => q D H1 (sm.trans h.1) (sm.free nD) h.2)
        obtain ⟨s1, eD⟩ := h
        obtain ⟨rfl, rfl⟩ := hy
        refine ⟨rfl, _, rfl, _, rfl, pd, (due 10).map V.int, rfl, .inl (.inl (.inl (s1 _ _ (hpd _)))), rfl, ?_, ?_⟩
        · rw [List.all_map, List.all_eq_true]
          exact fun _ _ => rfl
        refine ⟨_, eD, ?_, fun b o e => ?_, ?_⟩
        · rw [List.length_map, List.length_range]
          exact Nat.lt_of_lt_of_le hi (by decide)
        · rw [upd_ne (ne_of_none e nD)]
          exact s1 b o e
        · rw [upd_same, List.range_succ, List.map_append]
          show some (HO.lst (_ ++ [V.bl (inV (.int (0 + (i : Int))) _)])) = some (HO.lst (_ ++ [inDue 10 i]))
          rw [Int.zero_add]
          rfl
      · refine ⟨_, rfl, _, _, rfl, rfl, lo, _, (2 : Int), .ref l3, rfl, rfl, .inl (.inl upd_same), rfl, a, l3, [.int 11], [.int 18, .int 19], rfl, rfl, eA, e3, (show 3 ≤ sizeLine by decide), fun pd npd => ?_⟩
        have sm := sO.trans (same_new (o := .lst ([.int 11] ++ [.int 18, .int 19])) npd)
        have hpd : ∀ G : Hp, (upd G pd (.lst ([.int 11] ++ [.int 18, .int 19]))) pd = some (.lst ((due 11).map V.int)) := fun G => upd_same
        refine ⟨20, rfl, by decide, by decide, fun D nD => ?_⟩
        have dne : pd ≠ D := ne_of_none (hpd _) nD
        refine lc_it (walk_range (lo := 0) (n := 20)) (fun i H' => Same _ H' ∧ H' D = some (.lst ((List.range i).map (inDue 11)))) ⟨same_new nD, upd_same⟩ (fun _ _ _ _ => trivial) (fun i x H1 H2 hi h hy => ?_) (fun H1 h => q D H1 (sm.trans h.1) (sm.free nD) h.2)
        obtain ⟨s1, eD⟩ := h
        obtain ⟨rfl, rfl⟩ := hy
        refine ⟨rfl, _, rfl, _, rfl, pd, (due 11).map V.int, rfl, .inl (.inl (.inl (s1 _ _ (hpd _)))), rfl, ?_, ?_⟩
        · rw [List.all_map, List.all_eq_true]
          exact fun _ _ => rfl
        refine ⟨_, eD, ?_, fun b o e => ?_, ?_⟩
        · rw [List.length_map, List.length_range]
          exact Nat.lt_of_lt_of_le hi (by decide)
        · rw [upd_ne (ne_of_none e nD)]
          exact s1 b o e
        · rw [upd_same, List.range_succ, List.map_append]
          show some (HO.lst (_ ++ [V.bl (inV (.int (0 + (i : Int))) _)])) = some (HO.lst (_ ++ [inDue 11 i]))
          rw [Int.zero_add]
          rfl
      · refine ⟨_, rfl, _, _, rfl, rfl, lo, _, (3 : Int), .ref l4, rfl, rfl, .inl (.inl upd_same), rfl, a, l4, [.int 12], [.int 19], rfl, rfl, eA, e4, (show 2 ≤ sizeLine by decide), fun pd npd => ?_⟩
        have sm := sO.trans (same_new (o := .lst ([.int 12] ++ [.int 19])) npd)
        have hpd : ∀ G : Hp, (upd G pd (.lst ([.int 12] ++ [.int 19]))) pd = some (.lst ((due 12).map V.int)) := fun G => upd_same
        refine ⟨20, rfl, by decide, by decide, fun D nD => ?_⟩
        have dne : pd ≠ D := ne_of_none (hpd _) nD
        refine lc_it (walk_range (lo := 0) (n := 20)) (fun i H' => Same _ H' ∧ H' D = some (.lst ((List.range i).map (inDue 12)))) ⟨same_new nD, upd_same⟩ (fun _ _ _ _ => trivial) (fun i x H1 H2 hi h hy => ?_) (fun H1 h => q D H1 (sm.trans h.1) (sm.free nD) h.2)
        obtain ⟨s1, eD⟩ := h
        obtain ⟨rfl, rfl⟩ := hy
        refine ⟨rfl, _, rfl, _, rfl, pd, (due 12).map V.int, rfl, .inl (.inl (.inl (s1 _ _ (hpd _)))), rfl, ?_, ?_⟩
        · rw [List.all_map, List.all_eq_true]
          exact fun _ _ => rfl
        refine ⟨_, eD, ?_, fun b o e => ?_, ?_⟩
        · rw [List.length_map, List.length_range]
          exact Nat.lt_of_lt_of_le hi (by decide)
        · rw [upd_ne (ne_of_none e nD)]
          exact s1 b o e
        · rw [upd_same, List.range_succ, List.map_append]
          show some (HO.lst (_ ++ [V.bl (inV (.int (0 + (i : Int))) _)])) = some (HO.lst (_ ++ [inDue 12 i]))
          rw [Int.zero_add]
          rfl
      · refine ⟨_, rfl, _, _, rfl, rfl, lo, _, (4 : Int), .ref l5, rfl, rfl, .inl (.inl upd_same), rfl, a, l5, [.int 13], [.int 17], rfl, rfl, eA, e5, (show 2 ≤ sizeLine by decide), fun pd npd => ?_⟩
        have sm := sO.trans (same_new (o := .lst ([.int 13] ++ [.int 17])) npd)
        have hpd : ∀ G : Hp, (upd G pd (.lst ([.int 13] ++ [.int 17]))) pd = some (.lst ((due 13).map V.int)) := fun G => upd_same
        refine ⟨20, rfl, by decide, by decide, fun D nD => ?_⟩
        have dne : pd ≠ D := ne_of_none (hpd _) nD
        refine lc_it (walk_range (lo := 0) (n := 20)) (fun i H' => Same _ H' ∧ H' D = some (.lst ((List.range i).map (inDue 13)))) ⟨same_new nD, upd_same⟩ (fun _ _ _ _ => trivial) (fun i x H1 H2 hi h hy => ?_) (fun H1 h => q D H1 (sm.trans h.1) (sm.free nD) h.2)
        obtain ⟨s1, eD⟩ := h
        obtain ⟨rfl, rfl⟩ := hy
        refine ⟨rfl, _, rfl, _, rfl, pd, (due 13).map V.int, rfl, .inl (.inl (.inl (s1 _ _ (hpd _)))), rfl, ?_, ?_⟩
        · rw [List.all_map, List.all_eq_true]
          exact fun _ _ => rfl
        refine ⟨_, eD, ?_, fun b o e => ?_, ?_⟩
        · rw [List.length_map, List.length_range]
          exact Nat.lt_of_lt_of_le hi (by decide)
        · rw [upd_ne (ne_of_none e nD)]
          exact s1 b o e
        · rw [upd_same, List.range_succ, List.map_append]
          show some (HO.lst (_ ++ [V.bl (inV (.int (0 + (i : Int))) _)])) = some (HO.lst (_ ++ [inDue 13 i]))
          rw [Int.zero_add]
          rfl
    · have hd : due n = [0, (n : Int), 14] := if_neg (fun z => e (decide_eq_true (show (9 : Int) ≤ n by omega)))
      have sm := s0
      have hpd : ∀ G : Hp, (upd G p (.lst [.int 0, .int n, .int 14])) p = some (.lst ((due n).map V.int)) := fun G => by
        rw [upd_same, hd]
        rfl
      refine ⟨20, rfl, by decide, by decide, fun D nD => ?_⟩
      have dne : p ≠ D := ne_of_none (hpd _) nD
      refine lc_it (walk_range (lo := 0) (n := 20)) (fun i H' => Same _ H' ∧ H' D = some (.lst ((List.range i).map (inDue n)))) ⟨same_new nD, upd_same⟩ (fun _ _ _ _ => trivial) (fun i x H1 H2 hi h hy => ?_) (fun H1 h => q D H1 (sm.trans h.1) (sm.free nD) h.2)
      obtain ⟨s1, eD⟩ := h
      obtain ⟨rfl, rfl⟩ := hy
      refine ⟨rfl, _, rfl, _, rfl, p, (due n).map V.int, rfl, .inl (.inl (.inl (s1 _ _ (hpd _)))), rfl, ?_, ?_⟩
      · rw [List.all_map, List.all_eq_true]
        exact fun _ _ => rfl
      refine ⟨_, eD, ?_, fun b o e => ?_, ?_⟩
      · rw [List.length_map, List.length_range]
        exact Nat.lt_of_lt_of_le hi (by decide)
      · rw [upd_ne (ne_of_none e nD)]
        exact s1 b o e
      · rw [upd_same, List.range_succ, List.map_append]
        show some (HO.lst (_ ++ [V.bl (inV (.int (0 + (i : Int))) _)])) = some (HO.lst (_ ++ [inDue n i]))
        rw [Int.zero_add]
        rfl
end
end K00

namespace K00
open PySem PySem.Spec L2 Ks
open PyProof.Rows hiding St
def rLenQ (K : PySem.W.Frag) : List V → Hp → VK → Prop := fun xs H Q => ∃ p ys, xs = [.ref p] ∧ (SqL K H p ys ∨ SqT K H p ys) ∧ Q (.int ys.length) H
/-- some of the items, in some order -/
def spShuffled : Sp := fun vs H Q _ => ∃ b p xs, vs = [.ref b, .ref p] ∧ Bag b H ∧ H p = some (.lst xs) ∧ p ≠ b ∧ xs.length ≤ 1000 ∧ ∀ l ys H', Go b H H' → H l = none → l ≠ b → H' l = some (.lst ys) → (∀ y ∈ ys, y ∈ xs) → Q (.ref l) H'
section
variable {P : Program} {w : World} {K : PySem.W.Frag} {mg : Str → Option Value} {base : Heap}
theorem okLshuffled {f f1 : Addr} {fd fd1 : FuncData} (D : Dn K mg "_law_shuffled" sLshuffled ["_law_bag_here", "_law_items"] f fd) (DLdraw : Dn K mg "_law_draw" sLdraw ["_law_bag_here", "_law_total"] f1 fd1) (T : Bx mg) : FnOk P w K mg base CX0 2 f fd ["_law_bag_here", "_law_items"] spShuffled := by
  have GLdraw : FnOk P w K mg base CX0 1 _ _ _ _ := okLdraw DLdraw T
  refine D.F.ok scLshuffled (fun vs H Q E h => ?_) (fun cdv A outer s H vs Q E hr h => ?_)
  · obtain ⟨b, p, xs, rfl, _⟩ := h
    rfl
  · obtain ⟨b, p, xs, rfl, hb, hp, hne, hl, q⟩ := h
    refine ⟨_, ((pss_cons (ps_set (i := 2) scLshuffled.nd rfl (Or.inr rfl) (pe_callTy call_list_of (by rfl) T.m_list (by decide +kernel) (pa_cons (pv 1) pa_nil)))
  (pss_one (ps_ret (pe_lc (own := [("_law_turn", 3)]) (g := gName 3) (te := tBM K "list" rPopAt (tVar 2) (tCons (tCall spDraw [] E0 (tCons (tVar 0) (tCons (tCB (rLenQ K) (tCons (tVar 2) tNil)) tNil))) tNil)) rfl scLshuffled.nd (pi_range1 (by rfl) T.m_range (pa_cons (pe_callB call_len_seq (by rfl) T.m_len (by decide +kernel) (pa_cons (pv 1) pa_nil)) pa_nil)) (blkOk_by (own := [("_law_turn", 3)]) (N := ["_law_bag_here", "_law_items", "_law_waits", "_law_turn"]) (sc := defScope sLshuffled) (by decide +kernel)) (fun _ _ _ _ _ => (pg_name (i := 3) scLshuffled.nd rfl (Or.inl rfl))) (fun _ _ _ _ _ => pts_nil) (fun _ _ _ _ _ => (pe_bm PySem.F.plainAttrs_list PySem.F.slot_list_pop PySem.F.type_list_pop mt_popAt (pv 2) (pa_cons (pe_call GLdraw (hr.mono (by decide)) (by rfl) DLdraw.g DLdraw.F.kp DLdraw.b .nil pass0 (pa_cons (pv 0) (pa_cons (pe_callB (id := "len") (r := rLenQ K) (by exact call_len_seq) (by rfl) T.m_len (by decide +kernel) (pa_cons (pv 2) pa_nil)) pa_nil))) pa_nil)))))))), ?_⟩
    refine ⟨.ref p, rfl, p, xs, rfl, .inl (.inl (.inl hp)), fun wt nw => ?_⟩
    have wb := hb.ne nw
    have g1 := (Go.refl hb).new (o := .lst xs) nw
    have hp1 := g1.at hne hp
    refine ⟨.ref p, rfl, p, xs, rfl, .inl (.inl (.inl hp1)), _, rfl, ?_, ?_, fun D nD => ?_⟩
    · omega
    · omega
    have db := g1.1.ne nD
    have dw : D ≠ wt := fun z => by
      rw [z, upd_same] at nD
      cases nD
    have hl0 : ((xs.length : Int)).toNat = xs.length := Int.toNat_natCast _
    refine lc_it (walk_range (lo := 0) (n := ((xs.length : Int)).toNat)) (fun i H' => Go b H H' ∧ ∃ zs acc, H' wt = some (.lst zs) ∧ zs.length + i = xs.length ∧ H' D = some (.lst acc) ∧ acc.length = i ∧ (∀ z ∈ zs, z ∈ xs) ∧ ∀ z ∈ acc, z ∈ xs)
      ⟨g1.new nD, xs, [], by rw [upd_ne dw.symm, upd_same], rfl, upd_same, rfl, fun z hz => hz, fun z hz => nomatch hz⟩ (fun _ _ _ _ => trivial) (fun i x H1 H2 hi h hy => ?_) (fun H1 h => ?_)
    · obtain ⟨go, zs, acc, ew, lz, eD, la, hz, ha⟩ := h
      obtain ⟨rfl, rfl⟩ := hy
      refine ⟨rfl, ?_⟩
      have sw : SqL K H2 wt zs := .inl (.inl ew)
      have lz0 : 0 < zs.length := by omega
      refine ⟨.ref wt, rfl, .inl ⟨rfl, _, sw⟩, .ref b, rfl, .ref wt, rfl, wt, zs, rfl, .inl sw, b, (zs.length : Int), rfl, by omega, ?_, go.1, fun r hr H3 g3 => ?_⟩
      · have h1 := Nat.log2_le_self (zs.length : Int).natAbs
        omega
      have hr' : r < zs.length := by omega
      have ew3 := g3.at wb ew
      have eD3 := g3.at db eD
      refine ⟨wt, zs, (r : Int), r, zs[r], rfl, rfl, ew3, by omega, by omega, ?_, List.getElem?_eq_getElem hr', ?_⟩
      · rw [seqIndex_of (by omega) (by omega)]
        rfl
      · refine ⟨acc, ?_, ?_, ((go.trans g3).set nw hb).set (H' := upd H3 wt (.lst (zs.eraseIdx r))) ?_ hb, zs.eraseIdx r, acc ++ [zs[r]], ?_, ?_, upd_same, ?_, ?_, ?_⟩
        · rw [upd_ne dw]
          exact eD3
        · exact Nat.lt_of_lt_of_le (show acc.length < 1001 by omega) (by decide)
        · rw [upd_ne dw] at nD
          exact nD
        · rw [upd_ne dw.symm, upd_same]
        · rw [List.length_eraseIdx_of_lt hr']
          omega
        · rw [List.length_append, la]
          rfl
        · exact fun z hz2 => hz z (List.mem_of_mem_eraseIdx hz2)
        · intro z hz2
          rw [List.mem_append] at hz2
          rcases hz2 with hz2 | hz2
          · exact ha z hz2
          · have e : z = zs[r] := by simpa using hz2
            rw [e]
            exact hz _ (List.getElem_mem hr')
    · obtain ⟨go, zs, acc, ew, lz, eD, la, hz, ha⟩ := h
      refine q D acc H1 go ?_ db eD ha
      rw [upd_ne dw] at nD
      exact nD
end
end K00

namespace K00
open PySem PySem.Spec L2 Ks
open PyProof.Rows hiding St
mutual
theorem dpUp {K : PySem.W.Frag} {H H' : Hp} (s : Same H H') : ∀ {x : V} {d : PyData}, Dp K H x d → Dp K H' x d
  | _, _, .non => .non
  | _, _, .bl b => .bl b
  | _, _, .int i => .int i
  | _, _, .str z => .str z
  | _, _, .lst h r => .lst (s.seq h) (dpUpAll s r)
  | _, _, .tup h r => .tup (by
      rcases h with (h | ⟨o, h⟩) | h
      · exact .inl (.inl (s _ _ h))
      · exact .inl (.inr ⟨o, s _ _ h⟩)
      · exact .inr h) (dpUpAll s r)
theorem dpUpAll {K : PySem.W.Frag} {H H' : Hp} (s : Same H H') : ∀ {xs : List V} {ds : List PyData}, DpAll K H xs ds → DpAll K H' xs ds
  | _, _, .nil => .nil
  | _, _, .cons a r => .cons (dpUp s a) (dpUpAll s r)
end
end K00

namespace K00
open PySem PySem.Spec L2 Ks
open PyProof.Rows hiding St
def Shv (K : PySem.W.Frag) (H : Hp) (x : V) (d : PyData) : Prop := Shows K H x d ∧ d.showable = true ∧ d.depth ≤ 10 ∧ d.shown.length ≤ 900
theorem len_int {i : Int} (h : i.natAbs.log2 < 100) : (PyData.int i).shown.length ≤ 101 := by
  have := int_text_length_le (k := 100) (by decide) h
  show (Str.ofString (toString i)).length ≤ 101
  rw [PySem.ofString_length]
  exact this
theorem len_str {z : Str} (h : ∀ c ∈ z.cps.toList, c < 16 ^ 8) (h2 : z.length ≤ 20) : (PyData.str z).shown.length ≤ 202 := by
  have := PySem.StrLaws.reprText_len z h
  show (reprText z).length ≤ 202
  omega
theorem len_tuple {ds : List PyData} {n : Nat} (h : piled (PyData.shownAll ds) ≤ n) : (PyData.tuple ds).shown.length ≤ n + 3 := by
  show (tupleText (PyData.shownAll ds)).length ≤ n + 3
  generalize PyData.shownAll ds = ts at h
  unfold tupleText
  rw [strLen_append, strLen_append]
  by_cases e : ts = []
  · subst e
    show 1 + 0 + 1 ≤ n + 3
    omega
  · have := join_length_add ts e
    have e1 : ("(" : Str).length = 1 := rfl
    split
    · have : (",)" : Str).length = 2 := rfl
      omega
    · have : (")" : Str).length = 1 := rfl
      omega
/-- the kept values: flat ones, pairs, short lists and dicts -/
theorem shv_flat {K : PySem.W.Frag} {H : Hp} {v : V} {d : PyData} (e : flatD v = some d) (h : d.showable = true) (h2 : d.shown.length ≤ 202) : Shv K H v d := by
  have h3 : Dp K H v d ∧ d.hasDict = false ∧ d.depth = 0 := by
    cases v with
    | non => cases e; exact ⟨.non, rfl, rfl⟩
    | bl b => cases e; exact ⟨.bl b, rfl, rfl⟩
    | int i => cases e; exact ⟨.int i, rfl, rfl⟩
    | str x => cases e; exact ⟨.str x, rfl, rfl⟩
    | byt b => cases e
    | flt b => cases e
    | ref a => cases e
    | ty n => cases e
  exact ⟨.inl ⟨h3.1, h3.2.1⟩, h, by omega, by omega⟩
/-- flat items, empty tuples -/
inductive Items (K : PySem.W.Frag) (H : Hp) : List V → List PyData → Prop
  | nil : Items K H [] []
  | cons {v : V} {vs : List V} {d : PyData} {ds : List PyData} : flatD v = some d → d.showable = true → d.shown.length ≤ 202 → Items K H vs ds → Items K H (v :: vs) (d :: ds)
  | unit {e : Addr} {vs : List V} {ds : List PyData} : SqT K H e [] → Items K H vs ds → Items K H (.ref e :: vs) (.tuple [] :: ds)
theorem sqT_up {K : PySem.W.Frag} {H H' : Hp} {a : Addr} {xs : List V} (s : Same H H') (h : SqT K H a xs) : SqT K H' a xs := by
  rcases h with (h | ⟨o, h⟩) | h
  · exact .inl (.inl (s _ _ h))
  · exact .inl (.inr ⟨o, s _ _ h⟩)
  · exact .inr h
theorem Items.up {K : PySem.W.Frag} {H H' : Hp} (s : Same H H') : ∀ {vs : List V} {ds : List PyData}, Items K H vs ds → Items K H' vs ds
  | _, _, .nil => .nil
  | _, _, .cons a b c r => .cons a b c (r.up s)
  | _, _, .unit a r => .unit (sqT_up s a) (r.up s)
theorem Items.snoc {K : PySem.W.Frag} {H : Hp} : ∀ {vs us : List V} {ds es : List PyData}, Items K H vs ds → Items K H us es → Items K H (vs ++ us) (ds ++ es)
  | _, _, _, _, .nil, r => r
  | _, _, _, _, .cons a b c r, r2 => .cons a b c (r.snoc r2)
  | _, _, _, _, .unit a r, r2 => .unit a (r.snoc r2)
theorem flat_facts {K : PySem.W.Frag} {H : Hp} {v : V} {d : PyData} (e : flatD v = some d) : Dp K H v d ∧ d.hasDict = false ∧ d.depth = 0 := by
  cases v with
  | non => cases e; exact ⟨.non, rfl, rfl⟩
  | bl b => cases e; exact ⟨.bl b, rfl, rfl⟩
  | int i => cases e; exact ⟨.int i, rfl, rfl⟩
  | str x => cases e; exact ⟨.str x, rfl, rfl⟩
  | byt b => cases e
  | flt b => cases e
  | ref a => cases e
  | ty n => cases e
theorem Items.all {K : PySem.W.Frag} {H : Hp} : ∀ {vs : List V} {ds : List PyData}, Items K H vs ds → DpAll K H vs ds ∧ PyData.hasDictAll ds = false ∧ PyData.showableAll ds = true ∧ PyData.depthAll ds ≤ 1 ∧ piled (PyData.shownAll ds) ≤ 204 * vs.length
  | _, _, .nil => ⟨.nil, rfl, rfl, Nat.zero_le _, Nat.le_refl _⟩
  | _, _, .cons (v := v) (vs := vs) (d := d) (ds := ds) e h h2 r => by
    obtain ⟨a, b, c, f, g⟩ := r.all
    have h3 := flat_facts (K := K) (H := H) e
    refine ⟨.cons h3.1 a, ?_, ?_, ?_, ?_⟩
    · show (d.hasDict || PyData.hasDictAll ds) = false
      rw [h3.2.1, b]
      rfl
    · show (d.showable && PyData.showableAll ds) = true
      rw [h, c]
      rfl
    · show max d.depth (PyData.depthAll ds) ≤ 1
      omega
    · show piled (d.shown :: PyData.shownAll ds) ≤ _
      rw [piled_cons, List.length_cons]
      omega
  | _, _, .unit (vs := vs) (ds := ds) e r => by
    obtain ⟨a, b, c, f, g⟩ := r.all
    refine ⟨.cons (.tup e .nil) a, ?_, ?_, ?_, ?_⟩
    · show (false || PyData.hasDictAll ds) = false
      rw [b]
      rfl
    · show (true && PyData.showableAll ds) = true
      rw [c]
      rfl
    · show max (0 + 1) (PyData.depthAll ds) ≤ 1
      omega
    · show piled ((PyData.tuple []).shown :: PyData.shownAll ds) ≤ _
      rw [piled_cons, List.length_cons]
      have : (PyData.tuple []).shown.length = 2 := by decide
      omega
theorem shv_tup {K : PySem.W.Frag} {H : Hp} {a : Addr} {vs : List V} {ds : List PyData} (h : SqT K H a vs) (f : Items K H vs ds) (hl : vs.length ≤ 4) : Shv K H (.ref a) (.tuple ds) := by
  obtain ⟨r1, r2, r3, r4, r5⟩ := f.all
  refine ⟨.inl ⟨.tup h r1, r2⟩, r3, ?_, ?_⟩
  · show PyData.depthAll ds + 1 ≤ 10
    omega
  · have := len_tuple r5
    omega
theorem shv_one {K : PySem.W.Frag} {H : Hp} {a : Addr} {v : V} {d : PyData} (h : SqL K H a [v]) (f : Items K H [v] [d]) (h2 : d.shown.length ≤ 202) : Shv K H (.ref a) (.list [d]) := by
  obtain ⟨r1, r2, r3, r4, r5⟩ := f.all
  refine ⟨.inl ⟨.lst h r1, r2⟩, r3, ?_, ?_⟩
  · show PyData.depthAll [d] + 1 ≤ 10
    omega
  · show (listText [d.shown]).length ≤ 900
    have e : (listText [d.shown]).length = 1 + 0 + d.shown.length + 1 := by
      show ((((("[" : Str) ++ ("" : Str)) ++ d.shown) ++ ("]" : Str))).length = _
      rw [strLen_append, strLen_append, strLen_append]
      rfl
    omega
theorem shv_dict {K : PySem.W.Frag} {H : Hp} {a : Addr} {z : Str} {v : V} {d : PyData} (h : H a = some (.dK [(.inr z, v)])) (e : flatD v = some d) (h1 : d.showable = true) (h2 : d.shown.length ≤ 202) (hz : (PyData.str z).shown.length ≤ 202) : Shv K H (.ref a) (.dict [(.str z, d)]) := by
  refine ⟨.inr ⟨a, _, _, rfl, h, .cons e .nil, rfl⟩, ?_, ?_, ?_⟩
  · show (true && d.showable && true) = true
    rw [h1]
    rfl
  · have h3 : d.depth = 0 := by
      cases v with
      | non => cases e; rfl
      | bl b => cases e; rfl
      | int i => cases e; rfl
      | str x => cases e; rfl
      | byt b => cases e
      | flt b => cases e
      | ref a => cases e
      | ty n => cases e
    show max (max 0 d.depth) 0 + 1 ≤ 10
    rw [h3]
    decide
  · show (("{" : Str) ++ Str.join ", " [(PyData.str z).shown ++ (": " : Str) ++ d.shown] ++ ("}" : Str)).length ≤ 900
    have e2 := join_length_add [(PyData.str z).shown ++ (": " : Str) ++ d.shown] (fun z => nomatch z)
    rw [piled_cons, piled_nil, strLen_append, strLen_append] at e2
    rw [strLen_append, strLen_append]
    have e3 : (": " : Str).length = 2 := rfl
    have e4 : ("{" : Str).length = 1 := rfl
    have e5 : ("}" : Str).length = 1 := rfl
    omega
/-- a number beside such a value -/
theorem shv_pair {K : PySem.W.Frag} {H : Hp} {a : Addr} {n : Nat} {x : V} {d : PyData} (hn : n < 14) (h : SqT K H a [.int n, x]) (s : Shv K H x d) :
    Shows2 K H (.ref a) (.tuple [.int n, d]) ∧ (PyData.tuple [.int n, d]).showable = true ∧ (PyData.tuple [.int n, d]).depth ≤ 50 ∧ (PyData.tuple [.int n, d]).shown.length ≤ sizeLine := by
  obtain ⟨s1, s2, s3, s4⟩ := s
  have ni : (PyData.int n).showable = true ∧ (PyData.int n).shown.length ≤ 101 := by
    have hl : ((n : Int)).natAbs.log2 < 100 := by
      have := Nat.log2_le_self ((n : Int)).natAbs
      omega
    exact ⟨decide_eq_true (by omega), len_int hl⟩
  refine ⟨?_, ?_, ?_, ?_⟩
  · rcases s1 with ⟨hd, nd⟩ | ⟨b, kvs, ds, rfl, e, fl, rfl⟩
    · refine .inl ⟨.tup h (.cons (.int _) (.cons hd .nil)), ?_⟩
      show (false || (d.hasDict || false)) = false
      rw [nd]
      rfl
    · exact .inr (.tup h (.cons (.flat rfl) (.cons (.dct e fl) .nil)))
  · show (_ && (d.showable && true)) = true
    rw [ni.1, s2]
    rfl
  · show max 0 (max d.depth 0) + 1 ≤ 50
    omega
  · have h1 : piled (PyData.shownAll [.int (n : Int), d]) ≤ 1100 := by
      show piled [(PyData.int n).shown, d.shown] ≤ 1100
      rw [piled_cons, piled_cons, piled_nil]
      omega
    exact Nat.le_trans (len_tuple h1) (by decide)
theorem Shv.up {K : PySem.W.Frag} {H H' : Hp} (s : Same H H') {x : V} {d : PyData} (h : Shv K H x d) : Shv K H' x d := by
  obtain ⟨h1, h2⟩ := h
  refine ⟨?_, h2⟩
  rcases h1 with ⟨a, b⟩ | ⟨a, kvs, ds, e, ea, r⟩
  · exact .inl ⟨dpUp s a, b⟩
  · exact .inr ⟨a, kvs, ds, e, s _ _ ea, r⟩
theorem text_of {zs : List Str} (h : ∀ z ∈ zs, z.length = 1 ∧ ∀ c ∈ cl z, c < 16 ^ 8) : (Txt.join "" zs).length = zs.length ∧ ∀ c ∈ (Txt.join "" zs).cps.toList, c < 16 ^ 8 := by
  have e := join_empty zs
  constructor
  · rw [← cl_len, e]
    induction zs with
    | nil => rfl
    | cons a r ih =>
      rw [List.map_cons, List.flatten_cons, List.length_append, ih (fun z hz => h z (by simp [hz])) (join_empty r), cl_len, (h a (by simp)).1, List.length_cons]
      omega
  · intro c hc
    have hc' : c ∈ cl (Txt.join "" zs) := hc
    rw [e, List.mem_flatten] at hc'
    obtain ⟨l, hl, hcl⟩ := hc'
    obtain ⟨z, hz, rfl⟩ := List.mem_map.mp hl
    exact (h z hz).2 c hcl
def boolsD (n : Nat) : PyData := .list ((List.range 20).map fun (j : Nat) => .bool (inV (.int (j : Int)) ((due n).map V.int)))
theorem boolsD_ok : ∀ n, n < 14 → SeqAt.shaped (boolsD n) = true ∧ PyData.eqv (boolsD n) (boolsD n) = true := by decide +kernel
theorem dues_dp {K : PySem.W.Frag} {H : Hp} {p : Addr} {n : Nat} (h : H p = some (.lst (dues n))) : Dp K H (.ref p) (boolsD n) := by
  refine .lst (.inl (.inl h)) ?_
  unfold dues
  generalize List.range 20 = js
  induction js with
  | nil => exact .nil
  | cons j r ih => exact .cons (.bl _) ih
end K00

namespace K00
open PySem PySem.Spec L2 Ks
open PyProof.Rows hiding St
def spLaw (K : PySem.W.Frag) : Sp := fun vs H Q _ => ∃ (a : Addr) (ns : List Int), vs = [.ref a] ∧ SqL K H a (ns.map V.int) ∧ ∀ H', Q (.bl true) H'
theorem same_new2 {H : Hp} {p : Addr} {o o' : HO} (np : H p = none) : Same H (upd (upd H p o) p o') := fun b x e => by
  rw [upd_ne (ne_of_none e np), upd_ne (ne_of_none e np)]
  exact e
theorem go_new2 {b : Addr} {H H' : Hp} {p : Addr} {o o' : HO} (g : Go b H H') (np : H' p = none) : Go b H (upd (upd H' p o) p o') := g.trans (Go.same g.1 (same_new2 np))
theorem wo_upd {b D : Addr} {H : Hp} {o : HO} : wo D (wo b (upd H D o)) = wo D (wo b H) := by
  funext a
  unfold wo
  by_cases h : a = D
  · rw [if_pos h, if_pos h]
  · rw [if_neg h, if_neg h]
    by_cases h2 : a = b
    · rw [if_pos h2, if_pos h2]
    · rw [if_neg h2, if_neg h2, upd_ne h]
theorem mem_rg {y : V} (h : y ∈ rgV 0 14) : ∃ n : Nat, n < 14 ∧ y = .int n := by
  unfold rgV at h
  obtain ⟨i, hi, rfl⟩ := List.mem_map.mp h
  rw [List.mem_range] at hi
  exact ⟨i, by omega, by rw [Int.zero_add]⟩
section
variable {P : Program} {w : World} {K : PySem.W.Frag} {mg : Str → Option Value} {base : Heap} {C fI : Nat → Addr} {fdI : Nat → FuncData}
theorem okLaw {f f1 f2 f3 f4 f5 f6 f7 f8 f9 f10 : Addr} {fd fd1 fd2 fd3 fd4 fd5 fd6 fd7 fd8 fd9 fd10 : FuncData} (D : Dn K mg "law" sLaw ["_law_script"] f fd) (DLbag : Dn K mg "_law_bag" sLbag ["_law_script", "_law_at"] f1 fd1)
    (DLdraw : Dn K mg "_law_draw" sLdraw ["_law_bag_here", "_law_total"] f2 fd2) (DLoneOf : Dn K mg "_law_one_of" sLoneOf ["_law_bag_here", "_law_items"] f3 fd3) (DLshuffled : Dn K mg "_law_shuffled" sLshuffled ["_law_bag_here", "_law_items"] f4 fd4)
    (DLraised : Dn K mg "_law_raised" sLraised ["_law_which", "_law_text", "_law_value", "_law_number", "_law_reason"] f5 fd5) (DLcaught : Dn K mg "_law_caught" sLcaught ["_law_which", "_law_text", "_law_value", "_law_number", "_law_reason"] f6 fd6)
    (DLclasses : Dn K mg "_law_classes" sLclasses ["_law_error"] f7 fd7) (DLclassesOf : Dn K mg "_law_classes_of" sLclassesOf ["_law_which", "_law_text", "_law_value", "_law_number", "_law_reason"] f8 fd8)
    (DLdue : Dn K mg "_law_due_classes" sLdueClasses ["_law_which"] f9 fd9) (DLkept : Dn K mg "_law_kept" sLkept ["_law_which", "_law_value", "_law_number", "_law_reason"] f10 fd10)
    (T : Bx mg) (B : Bv mg) (O : Ow K mg C) (I : Kp K mg C fI fdI) (c : Cs K C) : FnG P w K mg base CX0 6 f fd ["_law_script"] (spLaw K) := by
  have GLbag : FnOk P w K mg base CX0 1 _ _ _ _ := okLbag DLbag T
  have GLdraw : FnOk P w K mg base CX0 1 _ _ _ _ := okLdraw DLdraw T
  have GLoneOf : FnOk P w K mg base CX0 2 _ _ _ _ := okLoneOf DLoneOf DLdraw T
  have GLshuffled : FnOk P w K mg base CX0 2 _ _ _ _ := okLshuffled DLshuffled DLdraw T
  have GLcaught : FnOk P w K mg base CX0 4 _ _ _ _ := okLcaught DLcaught DLraised T O I c
  have GLclassesOf : FnOk P w K mg base CX0 4 _ _ _ _ := okLclassesOf DLclassesOf DLraised DLclasses T B O I c
  have GLdue : FnOk P w K mg base CX0 1 _ _ _ _ := okLdue DLdue T
  have GLkept : FnOk P w K mg base CX0 1 _ _ _ _ := okLkept DLkept
  refine fng_of D.F scLaw (fun vs H Q E h => ?_) (fun cdv A outer s H vs Q E hr hG h => ?_)
  · obtain ⟨a, ns, rfl, _⟩ := h
    rfl
  · obtain ⟨a, ns, rfl, hS, q⟩ := h
    refine ⟨_, pss_cons (ps_for PassesOwn.leaving rfl (pi_range1 (by rfl) T.m_range (pa_cons (pe_callB (call_max2 rfl) (by rfl) T.m_max (by decide +kernel) (pa_cons pe_int (pa_cons (pe_callB (call_min2 rfl) (by rfl) T.m_min (by decide +kernel) (pa_cons pe_int (pa_cons (pe_callB call_len_seq (by rfl) T.m_len (by decide +kernel) (pa_cons (pv 0) pa_nil)) pa_nil))) pa_nil))) pa_nil)) (pg_name (i := 1) scLaw.nd rfl (Or.inl rfl))
        (pss_cons (ps_set (i := 2) scLaw.nd rfl (Or.inr rfl) (pe_call GLbag (hr.mono (by decide)) (by rfl) DLbag.g DLbag.F.kp DLbag.b .nil pass0 (pa_cons (pv 0) (pa_cons (pv 1) pa_nil))))
        (pss_cons (ps_set (i := 3) scLaw.nd rfl (Or.inr rfl) (pe_join pe_str (pe_lc (own := [("_law_turn", 9)]) (g := gName 9) rfl scLaw.nd
            (pi_range1 (by rfl) T.m_range (pa_cons (pe_op op_add pe_int (pe_call GLdraw (hr.mono (by decide)) (by rfl) DLdraw.g DLdraw.F.kp DLdraw.b .nil pass0 (pa_cons (pv 2) (pa_cons pe_int pa_nil)))) pa_nil))
            (blkOk_by (own := [("_law_turn", 9)]) (N := ["_law_script", "_law_at", "_law_bag_here", "_law_text", "_law_number", "_law_value", "_law_reason", "_law_which", "_law_kept_here", "_law_turn"]) (sc := defScope sLaw) (by decide +kernel))
            (fun _ _ _ _ _ => (pg_name (i := 9) scLaw.nd rfl (Or.inl rfl))) (fun _ _ _ _ _ => pts_nil)
            (fun _ _ _ _ _ => (pe_call GLoneOf (hr.mono (by decide)) (by rfl) DLoneOf.g DLoneOf.F.kp DLoneOf.b .nil pass0 (pa_cons (pv 2) (pa_cons (pe_lst (pa_cons pe_str (pa_cons pe_str (pa_cons pe_str (pa_cons pe_str (pa_cons pe_str (pa_cons pe_str pa_nil))))))) pa_nil)))))))
        (pss_cons (ps_set (i := 4) scLaw.nd rfl (Or.inr rfl) (pe_op op_sub (pe_call GLdraw (hr.mono (by decide)) (by rfl) DLdraw.g DLdraw.F.kp DLdraw.b .nil pass0 (pa_cons (pv 2) (pa_cons (pe_op Ks.op_powW pe_int pe_int) pa_nil))) (pe_call GLdraw (hr.mono (by decide)) (by rfl) DLdraw.g DLdraw.F.kp DLdraw.b .nil pass0 (pa_cons (pv 2) (pa_cons (pe_op Ks.op_powW pe_int pe_int) pa_nil)))))
        (pss_cons (ps_set (i := 5) scLaw.nd rfl (Or.inl rfl) (pe_call GLoneOf (hr.mono (by decide)) (by rfl) DLoneOf.g DLoneOf.F.kp DLoneOf.b .nil pass0 (pa_cons (pv 2) (pa_cons (pe_lst (pa_cons pe_non (pa_cons pe_str (pa_cons (pv 3) (pa_cons (pv 4) (pa_cons pe_bl (pa_cons (pe_tup pa_nil) (pa_cons (pe_tup (pa_cons (pv 4) (pa_cons (pv 3) pa_nil))) (pa_cons (pe_lst (pa_cons (pv 4) pa_nil)) (pa_cons (pe_disp (pps_cons (pv 3) (pv 4) pps_nil) (by rfl) (by rfl) (fun z => by cases z) (by decide)) (pa_cons (pe_tup (pa_cons pe_non pa_nil)) pa_nil))))))))))) pa_nil))))
        (pss_cons (ps_set (i := 6) scLaw.nd rfl (Or.inl rfl) (pe_op op_catA (pe_tup (pa_cons (pv 3) pa_nil)) (pe_callTy call_tuple_of (by rfl) B.tp (by decide +kernel) (pa_cons (pe_lc (own := [("_law_turn", 9)]) (g := gName 9) rfl scLaw.nd
            (pi_range1 (by rfl) T.m_range (pa_cons (pe_call GLdraw (hr.mono (by decide)) (by rfl) DLdraw.g DLdraw.F.kp DLdraw.b .nil pass0 (pa_cons (pv 2) (pa_cons pe_int pa_nil))) pa_nil))
            (blkOk_by (own := [("_law_turn", 9)]) (N := ["_law_script", "_law_at", "_law_bag_here", "_law_text", "_law_number", "_law_value", "_law_reason", "_law_which", "_law_kept_here", "_law_turn"]) (sc := defScope sLaw) (by decide +kernel))
            (fun _ _ _ _ _ => (pg_name (i := 9) scLaw.nd rfl (Or.inl rfl))) (fun _ _ _ _ _ => pts_nil)
            (fun _ _ _ _ _ => (pe_call GLoneOf (hr.mono (by decide)) (by rfl) DLoneOf.g DLoneOf.F.kp DLoneOf.b .nil pass0 (pa_cons (pv 2) (pa_cons (pe_lst (pa_cons (pv 4) (pa_cons (pv 3) (pa_cons (pe_tup pa_nil) (pa_cons pe_non pa_nil))))) pa_nil))))) pa_nil))))
        (pss_one (ps_for PassesOwn.leaving rfl (pi_list (pe_call GLshuffled (hr.mono (by decide)) (by rfl) DLshuffled.g DLshuffled.F.kp DLshuffled.b .nil pass0 (pa_cons (pv 2) (pa_cons (pe_listRg rfl (by rfl) T.m_list (prg_1 (by rfl) T.m_range pe_int)) pa_nil)))) (pg_name (i := 7) scLaw.nd rfl (Or.inl rfl))
          (pss_cons (ps_set (i := 8) scLaw.nd rfl (Or.inl rfl) (pe_call GLkept (hr.mono (by decide)) (by rfl) DLkept.g DLkept.F.kp DLkept.b .nil pass0 (pa_cons (pv 7) (pa_cons (pv 5) (pa_cons (pv 4) (pa_cons (pv 6) pa_nil))))))
          (pss_cons (ps_if (PW.pt (pw_and (pt_cmpR op_ge (pv 7) pe_int (nomark _)) (pw_and1 (pt_cmpR op_ne
              (pe_callB (id := "repr") (r := rShow2 K) (Ks.call_show2 hG ((show ∀ a b c : Nat, b + c + 200 < a → b + 100 < a from fun _ _ _ h => by omega) _ _ _ hr.un)) (by rfl) T.m_repr (by decide +kernel) (pa_cons (pe_call GLcaught (hr.mono (by decide)) (by rfl) DLcaught.g DLcaught.F.kp DLcaught.b .nil pass0 (pa_cons (pv 7) (pa_cons (pv 3) (pa_cons (pv 5) (pa_cons (pv 4) (pa_cons (pv 6) pa_nil)))))) pa_nil))
              (pe_callB (id := "repr") (r := rShow2 K) (Ks.call_show2 hG ((show ∀ a b c : Nat, b + c + 200 < a → b + 100 < a from fun _ _ _ h => by omega) _ _ _ hr.un)) (by rfl) T.m_repr (by decide +kernel) (pa_cons (pe_tup (pa_cons (pv 7) (pa_cons (pv 8) pa_nil))) pa_nil)) (nomark _))))) (pss_one (ps_ret pe_bl)) pss_nil)
          (pss_one (ps_if (pt_cmpR (op_neD hr.units) (pe_call GLclassesOf (hr.mono (by decide)) (by rfl) DLclassesOf.g DLclassesOf.F.kp DLclassesOf.b .nil pass0 (pa_cons (pv 7) (pa_cons (pv 3) (pa_cons (pv 5) (pa_cons (pv 4) (pa_cons (pv 6) pa_nil)))))) (pe_call GLdue (hr.mono (by decide)) (by rfl) DLdue.g DLdue.F.kp DLdue.b .nil pass0 (pa_cons (pv 7) pa_nil)) (nomark _)) (pss_one (ps_ret pe_bl)) pss_nil))))))))))))
      (pss_one (ps_ret pe_bl)), ?_⟩
    refine ⟨.ref a, rfl, a, _, rfl, .inl hS, 2, _, rfl, 1, _, rfl, _, rfl, ?_, ?_, ?_⟩
    · split <;> split <;> omega
    · split <;> split <;> omega
    · refine for_it (walk_range (lo := 0)) (fun i σ H' => SqL K H' a (ns.map V.int) ∧ ∃ y1 y2 y3 y4 y5 y6 y7 y8 y9, σ = [some (.ref a), y1, y2, y3, y4, y5, y6, y7, y8, y9]) ⟨hS, none, none, none, none, none, none, none, none, none, rfl⟩ (fun _ _ _ _ _ => trivial) (fun i x σ H1 H2 hi h hy => ?_) (fun σ H1 h => q _)
      obtain ⟨h1, y1, y2, y3, y4, y5, y6, y7, y8, y9, rfl⟩ := h
      obtain ⟨rfl, rfl⟩ := hy
      refine ⟨.ref a, rfl, .int (0 + (i : Int)), rfl, a, ns, 0 + (i : Int), rfl, h1, by omega, fun b H3 nb sm hb => ?_⟩
      have sq : SqL K (wo b H3) a (ns.map V.int) := (wo_free nb sm).seq h1
      have pw : ∀ i : Int, (i = 30 ∨ i = 12) → CPowW 10 i := by
        rintro i (rfl | rfl) <;> exact ⟨by decide, by decide +kernel⟩
      -- a text
      refine ⟨⟨_, rfl⟩, .ref b, rfl, b, 20, rfl, by decide, by decide, hb, fun r r20 H4 g4 => ⟨1, (r : Int), rfl, rfl, _, rfl, by omega, by omega, fun D1 nD1 => ?_⟩⟩
      refine lc_it (walk_range (lo := 0) (n := ((1 : Int) + (r : Int)).toNat)) (fun i H' => Go b H3 H' ∧ ∃ zs : List Str, H' D1 = some (.lst (zs.map V.str)) ∧ zs.length = i ∧ ∀ z ∈ zs, z.length = 1 ∧ ∀ c ∈ cl z, c < 16 ^ 8)
        ⟨g4.new nD1, [], upd_same, rfl, fun z hz => nomatch hz⟩ (fun _ _ _ _ => trivial) (fun i x H1 H2 hi h hy => ?_) (fun H5 h => ?_)
      · obtain ⟨go, zs, eD, lz, ones⟩ := h
        obtain ⟨rfl, rfl⟩ := hy
        have db := g4.1.ne nD1
        refine ⟨rfl, .ref b, rfl, (show 6 ≤ sizeLine by decide), fun p np => ?_⟩
        have gp := go.new (o := .lst [.str "a", .str "e", .str "k", .str " ", .str "w", .str "z"]) np
        refine ⟨b, p, _, rfl, gp.1, upd_same, go.1.ne np, (fun z => nomatch z), (show 6 ≤ 1000 by decide), fun u hu H6 g6 => ?_⟩
        have hz : ∃ z, u = .str z ∧ z.length = 1 ∧ ∀ c ∈ cl z, c < 16 ^ 8 := by
          simp only [List.mem_cons, List.not_mem_nil, or_false] at hu
          rcases hu with rfl | rfl | rfl | rfl | rfl | rfl
          · exact ⟨_, rfl, by decide, by decide⟩
          · exact ⟨_, rfl, by decide, by decide⟩
          · exact ⟨_, rfl, by decide, by decide⟩
          · exact ⟨_, rfl, by decide, by decide⟩
          · exact ⟨_, rfl, by decide, by decide⟩
          · exact ⟨_, rfl, by decide, by decide⟩
        obtain ⟨z, rfl, z1, z2⟩ := hz
        have pD : D1 ≠ p := ne_of_none eD np
        have eD6 : H6 D1 = some (.lst (zs.map V.str)) := g6.at db (by rw [upd_ne pD]; exact eD)
        have nb1 : b ≠ D1 := Ne.symm db
        refine ⟨zs.map V.str, eD6, ?_, ?_, zs ++ [z], ?_, ?_, fun t ht => ?_⟩
        · rw [List.length_map]
          exact Nat.lt_of_lt_of_le (show zs.length < 22 by omega) (by decide)
        · exact (gp.trans g6).set (g4.free hb nD1) hb
        · rw [upd_same, List.map_append]
          rfl
        · rw [List.length_append, lz]
          rfl
        · rw [List.mem_append] at ht
          rcases ht with ht | ht
          · exact ones t ht
          · have e : t = z := by simpa using ht
            rw [e]
            exact ⟨z1, z2⟩
      obtain ⟨g5, zs, eD, lz, ones⟩ := h
      obtain ⟨tl, tc⟩ := text_of ones
      have hz20 : zs.length ≤ 20 := by omega
      refine ⟨"", D1, zs, rfl, rfl, .inl (.inl (.inl eD)), ?_, ?_⟩
      · have hs : ∀ l : List Str, (∀ t ∈ l, t.length = 1 ∧ ∀ c ∈ cl t, c < 16 ^ 8) → (l.map (·.length)).sum = l.length := by
          intro l
          induction l with
          | nil => intro _; rfl
          | cons a r ih =>
            intro hh
            rw [List.map_cons, List.sum_cons, (hh a (by simp)).1, ih (fun t ht => hh t (by simp [ht])), List.length_cons]
            omega
        rw [hs zs ones]
        show zs.length + zs.length * 0 ≤ 16777216
        omega
      have tl20 : (Txt.join "" zs).length ≤ 20 := by omega
      have ts := len_str tc tl20
      generalize Txt.join "" zs = t at tl tc tl20 ts
      -- a number
      refine ⟨.ref b, rfl, 10, 30, rfl, rfl, pw _ (.inl rfl), b, _, rfl, by decide +kernel, by decide +kernel, g5.1, fun r1 l1 H6 g6 => ?_⟩
      refine ⟨.ref b, rfl, 10, 12, rfl, rfl, pw _ (.inr rfl), b, _, rfl, by decide +kernel, by decide +kernel, g6.1, fun r2 l2 H7 g7 => ⟨_, _, rfl, rfl, ?_⟩⟩
      have G7 := (g5.trans g6).trans g7
      have hk : ((r1 : Int) - (r2 : Int)).natAbs.log2 < 100 := by
        have l1' : (r1 : Int) < 10 ^ 30 := l1
        have l2' : (r2 : Int) < 10 ^ 12 := l2
        have h1 : ((r1 : Int) - (r2 : Int)).natAbs < 2 ^ 100 := by
          have e1 : (10 : Int) ^ 30 < 2 ^ 100 := by decide +kernel
          have e2 : (10 : Int) ^ 12 < 2 ^ 100 := by decide +kernel
          omega
        by_cases h0 : ((r1 : Int) - (r2 : Int)).natAbs = 0
        · rw [h0]
          decide
        · exact (Nat.log2_lt h0).mpr h1
      have ks : (PyData.int ((r1 : Int) - (r2 : Int))).showable = true ∧ (PyData.int ((r1 : Int) - (r2 : Int))).shown.length ≤ 202 := ⟨decide_eq_true (by omega), Nat.le_trans (len_int hk) (by decide)⟩
      -- a value
      refine ⟨.ref b, rfl, .str t, rfl, .int ((r1 : Int) - (r2 : Int)), rfl, (show 0 ≤ sizeLine by decide), fun e1 n1 => ⟨.int ((r1 : Int) - (r2 : Int)), rfl, .str t, rfl, (show 2 ≤ sizeLine by decide), fun e2 n2 => ⟨.int ((r1 : Int) - (r2 : Int)), rfl, (show 1 ≤ sizeLine by decide), fun e3 n3 => fun e4 n4 => ⟨.str t, rfl, .int ((r1 : Int) - (r2 : Int)), rfl, upd_same, [(.inr t, .int ((r1 : Int) - (r2 : Int)))], rfl, (by show 1 ≤ 15; decide), (show 1 ≤ sizeLine by decide), fun e5 n5 => ⟨(show 10 ≤ sizeLine by decide), fun p np => ?_⟩⟩⟩⟩⟩
      have s1 := same_new (o := .tup []) n1
      have s2 := same_new (o := .tup [.int ((r1 : Int) - (r2 : Int)), .str t]) n2
      have s3 := same_new (o := .lst [.int ((r1 : Int) - (r2 : Int))]) n3
      have s4 := same_new2 (o := .dK []) (o' := .dK (mergeK [] [(.inr t, .int ((r1 : Int) - (r2 : Int)))])) n4
      have s5 := same_new (o := .tup [.non]) n5
      have g1_ := G7.new (o := .tup []) n1
      have g2_ := g1_.new (o := .tup [.int ((r1 : Int) - (r2 : Int)), .str t]) n2
      have g3_ := g2_.new (o := .lst [.int ((r1 : Int) - (r2 : Int))]) n3
      have g4_ := go_new2 (o := .dK []) (o' := .dK (mergeK [] [(.inr t, .int ((r1 : Int) - (r2 : Int)))])) g3_ n4
      have g5_ := g4_.new (o := .tup [.non]) n5
      have sp := same_new (o := .lst [V.non, .str "", .str t, .int ((r1 : Int) - (r2 : Int)), .bl true, .ref e1, .ref e2, .ref e3, .ref e4, .ref e5]) np
      have gp := g5_.new (o := .lst [V.non, .str "", .str t, .int ((r1 : Int) - (r2 : Int)), .bl true, .ref e1, .ref e2, .ref e3, .ref e4, .ref e5]) np
      refine ⟨b, p, _, rfl, gp.1, upd_same, g5_.1.ne np, (fun z => nomatch z), (show 10 ≤ 1000 by decide), fun v hv Hv gv => ?_⟩
      have at_ : ∀ {e : Addr} {o : HO}, e ≠ b → upd (upd (upd (upd (upd (upd (upd H7 e1 (.tup [])) e2 (.tup [.int ((r1 : Int) - (r2 : Int)), .str t])) e3 (.lst [.int ((r1 : Int) - (r2 : Int))])) e4 (.dK [])) e4 (.dK (mergeK [] [(.inr t, .int ((r1 : Int) - (r2 : Int)))]))) e5 (.tup [.non])) p (.lst [V.non, .str "", .str t, .int ((r1 : Int) - (r2 : Int)), .bl true, .ref e1, .ref e2, .ref e3, .ref e4, .ref e5]) e = some o → wo b Hv e = some o := fun {e o} ne h => gv.2 e o (by rw [wo_ne ne]; exact h)
      have a1 := at_ (G7.1.ne n1) (sp _ _ (s5 _ _ (s4 _ _ (s3 _ _ (s2 _ _ upd_same)))))
      have a2 := at_ (g1_.1.ne n2) (sp _ _ (s5 _ _ (s4 _ _ (s3 _ _ upd_same))))
      have a3 := at_ (g2_.1.ne n3) (sp _ _ (s5 _ _ (s4 _ _ upd_same)))
      have a4 := at_ (g3_.1.ne n4) (sp _ _ (s5 _ _ upd_same))
      have a5 := at_ (g4_.1.ne n5) (sp _ _ upd_same)
      have hdv : ∃ dv, Shv K (wo b Hv) v dv := by
        simp only [List.mem_cons, List.not_mem_nil, or_false] at hv
        rcases hv with rfl | rfl | rfl | rfl | rfl | rfl | rfl | rfl | rfl | rfl
        · exact ⟨_, shv_flat (d := .none) rfl rfl (by decide)⟩
        · exact ⟨_, shv_flat (d := .str "") rfl rfl (by decide +kernel)⟩
        · exact ⟨_, shv_flat (d := .str t) rfl rfl ts⟩
        · exact ⟨_, shv_flat rfl ks.1 ks.2⟩
        · exact ⟨_, shv_flat (d := .bool true) rfl rfl (by decide)⟩
        · exact ⟨_, shv_tup (.inl (.inl a1)) .nil (by decide)⟩
        · exact ⟨_, shv_tup (.inl (.inl a2)) (.cons rfl ks.1 ks.2 (.cons (d := .str t) rfl rfl ts .nil)) (by show 2 ≤ 4; decide)⟩
        · exact ⟨_, shv_one (.inl (.inl a3)) (.cons rfl ks.1 ks.2 .nil) ks.2⟩
        · exact ⟨_, shv_dict a4 rfl ks.1 ks.2 ts⟩
        · exact ⟨_, shv_tup (.inl (.inl a5)) (.cons (d := .none) rfl rfl (by decide) .nil) (by show 1 ≤ 4; decide)⟩
      obtain ⟨dv, dvs⟩ := hdv
      have Gv := gp.trans gv
      -- a reason
      refine ⟨.str t, rfl, (show 1 ≤ sizeLine by decide), fun x1 nx1 => ?_⟩
      have gx := (Go.refl gv.1).new (o := .tup [.str t]) nx1
      have x1b := gv.1.ne nx1
      refine ⟨.ref b, rfl, b, 4, rfl, by decide, by decide, gx.1, fun r3 l3 H9 g9 => ⟨_, rfl, by omega, by omega, fun D2 nD2 => ?_⟩⟩
      have g9x := gx.trans g9
      have d2b := g9.1.ne nD2
      refine lc_it (walk_range (lo := 0) (n := ((r3 : Int)).toNat)) (fun i H' => Go b H9 H' ∧ ∃ us ds, H' D2 = some (.lst us) ∧ us.length = i ∧ Items K (wo D2 (wo b H')) us ds)
        ⟨(Go.refl g9.1).new nD2, [], [], upd_same, rfl, .nil⟩ (fun _ _ _ _ => trivial) (fun i x H1 H2 hi h hy => ?_) (fun H10 h => ?_)
      · obtain ⟨go, us, ds, eD, lu, its⟩ := h
        obtain ⟨rfl, rfl⟩ := hy
        refine ⟨rfl, .ref b, rfl, .int ((r1 : Int) - (r2 : Int)), rfl, .str t, rfl, (show 0 ≤ sizeLine by decide), fun e6 n6 => ⟨(show 4 ≤ sizeLine by decide), fun p7 n7 => ?_⟩⟩
        have h6 := (Go.refl go.1).new (o := .tup []) n6
        have h7 := h6.new (o := .lst [.int ((r1 : Int) - (r2 : Int)), .str t, .ref e6, .non]) n7
        have e6b := go.1.ne n6
        have e6D : e6 ≠ D2 := Ne.symm (ne_of_none eD n6)
        have p7D : D2 ≠ p7 := fun z => by rw [← z, upd_ne (Ne.symm e6D), eD] at n7; cases n7
        refine ⟨b, p7, _, rfl, h7.1, upd_same, h6.1.ne n7, (fun z => nomatch z), (show 4 ≤ 1000 by decide), fun u hu H11 g11 => ?_⟩
        have g12 := h7.trans g11
        have eD11 := g12.at d2b eD
        have e6at : wo D2 (wo b H11) e6 = some (.tup []) := by
          rw [wo_ne e6D]
          refine g11.2 e6 _ ?_
          rw [wo_ne e6b]
          exact same_new (o := .lst [.int ((r1 : Int) - (r2 : Int)), .str t, .ref e6, .non]) n7 _ _ upd_same
        have one : ∃ d, Items K (wo D2 (wo b H11)) [u] [d] := by
          simp only [List.mem_cons, List.not_mem_nil, or_false] at hu
          rcases hu with rfl | rfl | rfl | rfl
          · exact ⟨_, .cons rfl ks.1 ks.2 .nil⟩
          · exact ⟨_, .cons (d := .str t) rfl rfl ts .nil⟩
          · exact ⟨_, .unit (.inl (.inl e6at)) .nil⟩
          · exact ⟨_, .cons (d := .none) rfl rfl (by decide) .nil⟩
        obtain ⟨d, one⟩ := one
        refine ⟨us, eD11, ?_, (go.trans g12).set nD2 g9.1, us ++ [u], ds ++ [d], upd_same, ?_, ?_⟩
        · exact Nat.lt_of_lt_of_le (show us.length < 4 by omega) (by decide)
        · rw [List.length_append, lu]
          rfl
        · rw [wo_upd]
          exact (its.up (wo_up g12.2)).snoc one
      obtain ⟨g10, us, ds, eD, lu, its⟩ := h
      replace its := its.up (wo_same D2 _)
      have ex1 : H10 x1 = some (.tup [.str t]) := (g9.trans g10).at x1b upd_same
      refine ⟨D2, us, rfl, .inl ⟨.inl (.inl eD), fun lt nlt => ?_⟩⟩
      have glt := (Go.refl g10.1).new (o := .tup us) nlt
      have ex2 := same_new (o := .tup us) nlt _ _ ex1
      refine ⟨x1, lt, [.str t], us, rfl, rfl, .inl (.inl ex2), .inl (.inl upd_same), ?_, (fun z => nomatch z), fun _ ue => ?_, fun _ un xr nxr => ?_⟩
      · show 1 + us.length ≤ sizeLine
        exact Nat.le_trans (show 1 + us.length ≤ 5 by omega) (by decide)
      · have gR := g9x.trans (g10.trans glt)
        have gvv := (Gv.trans gR)
        have sR : Shv K (wo b (upd H10 lt (.tup us))) (.ref x1) (.tuple [.str t]) := shv_tup (.inl (.inl (by rw [wo_ne x1b]; exact ex2))) (.cons (d := .str t) rfl rfl ts .nil) (by show 1 ≤ 4; decide)
        refine ⟨.ref b, rfl, 14, rfl, ⟨by decide, by decide, by decide, by decide, by decide⟩, fun q1 nq1 => ?_⟩
        have gq := gR.new (o := .lst (rgV 0 14)) nq1
        refine ⟨b, q1, _, rfl, gq.1, upd_same, gR.1.ne nq1, (by rw [rgV_length]; decide), fun l ys H8 g8 nl lb el sub => ?_⟩
        have g38 := gq.trans g8
        refine ⟨l, rfl, ⟨_, .inl (.inl el)⟩, for_it (walk_list (xs := ys)) (fun j σ H' => Go b H8 H' ∧ ∃ z7 z8 z9, σ = [some (.ref a), some (.int (0 + (i : Int))), some (.ref b), some (.str t), some (.int ((r1 : Int) - (r2 : Int))), some v, some (.ref x1), z7, z8, z9]) ⟨Go.refl g8.1, y7, y8, y9, rfl⟩ (fun j σ H' _ h => .inl (.inl (h.1.at lb el))) (fun j y σ H' H'' hj h hy => ?_) (fun σ H' h => ?_)⟩
        · obtain ⟨go, z7, z8, z9, rfl⟩ := h
          obtain ⟨rfl, hy⟩ := hy
          obtain ⟨n, hn, rfl⟩ := mem_rg (sub y (List.mem_of_getElem? hy))
          have gall := (gq.trans g8).trans go
          have sv := (Shv.up (gq.trans g8).2 dvs).up go.2
          have sr := ((sR.up ((Go.refl gR.1).new (o := .lst (rgV 0 14)) nq1).2).up g8.2).up go.2
          have hkept : ∃ dk, Shv K (wo b H'') (kept n v (.int ((r1 : Int) - (r2 : Int))) (.ref x1)) dk := by
            unfold kept
            split
            · exact ⟨_, shv_flat (d := .none) rfl rfl (by decide)⟩
            · split
              · exact ⟨_, sv⟩
              · split
                · exact ⟨_, sr⟩
                · exact ⟨_, shv_flat rfl ks.1 ks.2⟩
          obtain ⟨dk, sk⟩ := hkept
          refine ⟨_, rfl, _, rfl, _, rfl, _, rfl, n, v, .int ((r1 : Int) - (r2 : Int)), .ref x1, rfl, hn, ?_⟩
          have CLS : ∀ G, Go b H'' G → True := fun _ _ => trivial
          refine ⟨_, rfl, _, _, rfl, rfl, _, rfl, ite2 (fun e => ?_) (fun e => ?_)⟩
          · have h1 : (1 : Int) ≤ n := of_decide_eq_true e
            refine ⟨_, rfl, _, rfl, _, rfl, _, rfl, _, rfl, n, .str t, v, .int ((r1 : Int) - (r2 : Int)), .ref x1, rfl, by omega, hn, fun p1 H9 s9 np1 ep1 => ?_⟩
            have sk9 := (sk.up (wo_same b H'')).up s9
            obtain ⟨a1, a2, a3, a4⟩ := shv_pair hn (.inl (.inl ep1)) sk9
            refine ⟨.ref p1, _, rfl, a1, ⟨p1, rfl⟩, a2, a3, a4, _, rfl, _, rfl, (show 2 ≤ sizeLine by decide), fun p2 np2 => ?_⟩
            have s10 := same_new (o := .tup [.int n, kept n v (.int ((r1 : Int) - (r2 : Int))) (.ref x1)]) np2
            obtain ⟨b1, b2, b3, b4⟩ := shv_pair hn (.inl (.inl upd_same)) (sk9.up s10)
            refine ⟨.ref p2, _, rfl, b1, ⟨p2, rfl⟩, b2, b3, b4, rfl, _, rfl, ite2 (fun e => by simp at e) (fun _ => ?_)⟩
            have gn : Go b H'' _ := Go.same go.1 (s9.trans s10)
            refine ⟨_, rfl, _, rfl, _, rfl, _, rfl, _, rfl, n, .str t, v, .int ((r1 : Int) - (r2 : Int)), .ref x1, rfl, hn, fun pc Hc sc npc epc => ?_⟩
            refine ⟨_, rfl, n, rfl, hn, fun pd Hd sd npd epd => ?_⟩
            rw [bools_dues n hn] at epc
            refine ⟨boolsD n, boolsD n, dues_dp (sd _ _ epc), dues_dp epd, (boolsD_ok n hn).1, (boolsD_ok n hn).1, _, rfl, ite2 (fun e => by rw [(boolsD_ok n hn).2] at e; cases e) (fun _ => ?_)⟩
            exact ⟨(go.trans gn).trans (Go.same gn.1 (sc.trans sd)), _, _, _, rfl⟩
          · have gn : Go b H'' H'' := Go.refl go.1
            refine ⟨_, rfl, _, rfl, _, rfl, _, rfl, _, rfl, n, .str t, v, .int ((r1 : Int) - (r2 : Int)), .ref x1, rfl, hn, fun pc Hc sc npc epc => ?_⟩
            refine ⟨_, rfl, n, rfl, hn, fun pd Hd sd npd epd => ?_⟩
            rw [bools_dues n hn] at epc
            refine ⟨boolsD n, boolsD n, dues_dp (sd _ _ epc), dues_dp epd, (boolsD_ok n hn).1, (boolsD_ok n hn).1, _, rfl, ite2 (fun e => by rw [(boolsD_ok n hn).2] at e; cases e) (fun _ => ?_)⟩
            exact ⟨(go.trans gn).trans (Go.same gn.1 (sc.trans sd)), _, _, _, rfl⟩
        · obtain ⟨go, z7, z8, z9, rfl⟩ := h
          exact ⟨(wo_same b _).seq (go.2.seq (g8.2.seq (gq.2.seq (Gv.2.seq sq)))), _, _, _, _, _, _, _, _, _, rfl⟩
      · have gz := (Go.refl glt.1).new (o := .tup ([.str t] ++ us)) nxr
        have gR := g9x.trans ((g10.trans glt).trans gz)
        have gvv := (Gv.trans gR)
        have xb := glt.1.ne nxr
        have sR : Shv K (wo b (upd (upd H10 lt (.tup us)) xr (.tup ([.str t] ++ us)))) (.ref xr) (.tuple (.str t :: ds)) :=
          shv_tup (.inl (.inl (by rw [wo_ne xb]; exact upd_same))) (.cons (d := .str t) rfl rfl ts ((its.up glt.2).up gz.2)) (by show us.length + 1 ≤ 4; omega)
        refine ⟨.ref b, rfl, 14, rfl, ⟨by decide, by decide, by decide, by decide, by decide⟩, fun q1 nq1 => ?_⟩
        have gq := gR.new (o := .lst (rgV 0 14)) nq1
        refine ⟨b, q1, _, rfl, gq.1, upd_same, gR.1.ne nq1, (by rw [rgV_length]; decide), fun l ys H8 g8 nl lb el sub => ?_⟩
        have g38 := gq.trans g8
        refine ⟨l, rfl, ⟨_, .inl (.inl el)⟩, for_it (walk_list (xs := ys)) (fun j σ H' => Go b H8 H' ∧ ∃ z7 z8 z9, σ = [some (.ref a), some (.int (0 + (i : Int))), some (.ref b), some (.str t), some (.int ((r1 : Int) - (r2 : Int))), some v, some (.ref xr), z7, z8, z9]) ⟨Go.refl g8.1, y7, y8, y9, rfl⟩ (fun j σ H' _ h => .inl (.inl (h.1.at lb el))) (fun j y σ H' H'' hj h hy => ?_) (fun σ H' h => ?_)⟩
        · obtain ⟨go, z7, z8, z9, rfl⟩ := h
          obtain ⟨rfl, hy⟩ := hy
          obtain ⟨n, hn, rfl⟩ := mem_rg (sub y (List.mem_of_getElem? hy))
          have gall := (gq.trans g8).trans go
          have sv := (Shv.up (gq.trans g8).2 dvs).up go.2
          have sr := ((sR.up ((Go.refl gR.1).new (o := .lst (rgV 0 14)) nq1).2).up g8.2).up go.2
          have hkept : ∃ dk, Shv K (wo b H'') (kept n v (.int ((r1 : Int) - (r2 : Int))) (.ref xr)) dk := by
            unfold kept
            split
            · exact ⟨_, shv_flat (d := .none) rfl rfl (by decide)⟩
            · split
              · exact ⟨_, sv⟩
              · split
                · exact ⟨_, sr⟩
                · exact ⟨_, shv_flat rfl ks.1 ks.2⟩
          obtain ⟨dk, sk⟩ := hkept
          refine ⟨_, rfl, _, rfl, _, rfl, _, rfl, n, v, .int ((r1 : Int) - (r2 : Int)), .ref xr, rfl, hn, ?_⟩
          have CLS : ∀ G, Go b H'' G → True := fun _ _ => trivial
          refine ⟨_, rfl, _, _, rfl, rfl, _, rfl, ite2 (fun e => ?_) (fun e => ?_)⟩
          · have h1 : (1 : Int) ≤ n := of_decide_eq_true e
            refine ⟨_, rfl, _, rfl, _, rfl, _, rfl, _, rfl, n, .str t, v, .int ((r1 : Int) - (r2 : Int)), .ref xr, rfl, by omega, hn, fun p1 H9 s9 np1 ep1 => ?_⟩
            have sk9 := (sk.up (wo_same b H'')).up s9
            obtain ⟨a1, a2, a3, a4⟩ := shv_pair hn (.inl (.inl ep1)) sk9
            refine ⟨.ref p1, _, rfl, a1, ⟨p1, rfl⟩, a2, a3, a4, _, rfl, _, rfl, (show 2 ≤ sizeLine by decide), fun p2 np2 => ?_⟩
            have s10 := same_new (o := .tup [.int n, kept n v (.int ((r1 : Int) - (r2 : Int))) (.ref xr)]) np2
            obtain ⟨b1, b2, b3, b4⟩ := shv_pair hn (.inl (.inl upd_same)) (sk9.up s10)
            refine ⟨.ref p2, _, rfl, b1, ⟨p2, rfl⟩, b2, b3, b4, rfl, _, rfl, ite2 (fun e => by simp at e) (fun _ => ?_)⟩
            have gn : Go b H'' _ := Go.same go.1 (s9.trans s10)
            refine ⟨_, rfl, _, rfl, _, rfl, _, rfl, _, rfl, n, .str t, v, .int ((r1 : Int) - (r2 : Int)), .ref xr, rfl, hn, fun pc Hc sc npc epc => ?_⟩
            refine ⟨_, rfl, n, rfl, hn, fun pd Hd sd npd epd => ?_⟩
            rw [bools_dues n hn] at epc
            refine ⟨boolsD n, boolsD n, dues_dp (sd _ _ epc), dues_dp epd, (boolsD_ok n hn).1, (boolsD_ok n hn).1, _, rfl, ite2 (fun e => by rw [(boolsD_ok n hn).2] at e; cases e) (fun _ => ?_)⟩
            exact ⟨(go.trans gn).trans (Go.same gn.1 (sc.trans sd)), _, _, _, rfl⟩
          · have gn : Go b H'' H'' := Go.refl go.1
            refine ⟨_, rfl, _, rfl, _, rfl, _, rfl, _, rfl, n, .str t, v, .int ((r1 : Int) - (r2 : Int)), .ref xr, rfl, hn, fun pc Hc sc npc epc => ?_⟩
            refine ⟨_, rfl, n, rfl, hn, fun pd Hd sd npd epd => ?_⟩
            rw [bools_dues n hn] at epc
            refine ⟨boolsD n, boolsD n, dues_dp (sd _ _ epc), dues_dp epd, (boolsD_ok n hn).1, (boolsD_ok n hn).1, _, rfl, ite2 (fun e => by rw [(boolsD_ok n hn).2] at e; cases e) (fun _ => ?_)⟩
            exact ⟨(go.trans gn).trans (Go.same gn.1 (sc.trans sd)), _, _, _, rfl⟩
        · obtain ⟨go, z7, z8, z9, rfl⟩ := h
          exact ⟨(wo_same b _).seq (go.2.seq (g8.2.seq (gq.2.seq (Gv.2.seq sq)))), _, _, _, _, _, _, _, _, _, rfl⟩
end
end K00

namespace K00
open PySem PySem.Spec L2 Ks
open PyProof.Rows hiding St
def okSub (K : PySem.W.Frag) (cs : List Addr) : Bool := (List.range 14).all fun i => (List.range 14).all fun j => PySem.W.subIn K (.ref (cs.getD i 0)) (.ref (cs.getD j 0)) == some (isSub i j)
def okBlt (K : PySem.W.Frag) (cs : List Addr) : Bool := (List.range 14).all fun i => (List.range 6).all fun k => PySem.W.subIn K (.ref (cs.getD i 0)) (.type (blts.getD k "")) == some (bltSub i k)
def okTy (K : PySem.W.Frag) (cs : List Addr) : Bool := (List.range 14).all fun i => decide (PySem.W.typeIn K (.ref (cs.getD i 0)) = some (.type "type")) && PySem.W.isClsIn K (cs.getD i 0)
def exOk (K : PySem.W.Frag) (D : Addr) : Bool := decide (PySem.W.findIn K (.ref D) "__getattribute__" = some (some (.builtin "BaseException.__getattribute__"))) && decide (PySem.W.findIn K (.ref D) "__getattr__" = some none) && decide (PySem.W.subIn K (.ref D) (.type "BaseException") = some true) &&
  PySem.W.hasDictIn K D && decide (PySem.W.findIn K (.ref D) "__class__" = some (some (.builtin "object.__class__"))) && decide (PySem.W.specialIn K (.builtin "object.__class__") "__get__" = some (some (.builtin "getset_descriptor.__get__"))) &&
  decide (PySem.W.takesIn K (.builtin "object.__class__") = some true) && decide (PySem.W.mroIn K D (.type "object") = some true)
def okEx (K : PySem.W.Frag) (cs : List Addr) : Bool := (List.range 14).all fun i => exOk K (cs.getD i 0)
theorem exOk_ok {K : PySem.W.Frag} {D : Addr} (h : exOk K D = true) : ExcC K D := by
  unfold exOk at h
  simp only [Bool.and_eq_true, decide_eq_true_eq] at h
  obtain ⟨⟨⟨⟨⟨⟨⟨h1, h2⟩, h3⟩, h4⟩, h5⟩, h6⟩, h7⟩, h8⟩ := h
  exact ⟨h1, h2, h3, h4, h5, h6, h7, h8⟩
theorem blts_get {k : Nat} {T : String} (h : blts[k]? = some T) : k < 6 ∧ blts.getD k "" = T := by
  have hl : k < blts.length := (List.getElem?_eq_some_iff.mp h).1
  refine ⟨hl, ?_⟩
  rw [List.getD_eq_getElem?_getD, h]
  rfl
theorem cs_mk {K : PySem.W.Frag} {cs : List Addr} (h1 : okSub K cs = true) (h2 : okBlt K cs = true) (h3 : okTy K cs = true) (h4 : okEx K cs = true) : Cs K (fun i => cs.getD i 0) where
  sub := fun i j hi hj => beq_iff_eq.mp (List.all_eq_true.mp (List.all_eq_true.mp h1 i (List.mem_range.mpr hi)) j (List.mem_range.mpr hj))
  blt := fun i k T hi hk => by
    obtain ⟨a, b⟩ := blts_get hk
    rw [← b]
    exact beq_iff_eq.mp (List.all_eq_true.mp (List.all_eq_true.mp h2 i (List.mem_range.mpr hi)) k (List.mem_range.mpr a))
  ex := fun i hi => exOk_ok (List.all_eq_true.mp h4 i (List.mem_range.mpr hi))
  ty := fun i hi => of_decide_eq_true (Bool.and_eq_true_iff.mp (List.all_eq_true.mp h3 i (List.mem_range.mpr hi))).1
  cl := fun i hi => (Bool.and_eq_true_iff.mp (List.all_eq_true.mp h3 i (List.mem_range.mpr hi))).2
theorem all_mk {P : Program} {w : World} {K : PySem.W.Frag} {h : Heap} {mg : Str → Option Value} {fa C0 C1 C2 C3 C4 C5 C6 C7 C8 C9 C10 C11 C12 C13 f0 f1 f2 f3 f4 f5 f6 f7 f8 f9 f10 fI8 fI9 fI10 fI11 fI12 fI13 : Addr} (X : K.In h) (G : h.Ns mainGlobals mg) (hfa : mg "law" = some (.ref fa))
    {nm8 q8 : Str} {N8 : Addr} {bs8 bmm8 : List Value} {sn8 : List Str} {sub8 : List Value} {ab8 : Bool} {col8 : Option Bool} {dd8 : Option Addr} {mA8 mB8 mC8 mD8 mF8 : Option Value}
    {nm9 q9 : Str} {N9 : Addr} {bs9 bmm9 : List Value} {sn9 : List Str} {sub9 : List Value} {ab9 : Bool} {col9 : Option Bool} {dd9 : Option Addr} {mA9 mB9 mC9 mD9 mF9 : Option Value}
    {nm10 q10 : Str} {N10 : Addr} {bs10 bmm10 : List Value} {sn10 : List Str} {sub10 : List Value} {ab10 : Bool} {col10 : Option Bool} {dd10 : Option Addr} {mA10 mB10 mC10 mD10 mF10 : Option Value}
    {nm11 q11 : Str} {N11 : Addr} {bs11 bmm11 : List Value} {sn11 : List Str} {sub11 : List Value} {ab11 : Bool} {col11 : Option Bool} {dd11 : Option Addr} {mA11 mB11 mC11 mD11 mF11 : Option Value}
    {nm12 q12 : Str} {N12 : Addr} {bs12 bmm12 : List Value} {sn12 : List Str} {sub12 : List Value} {ab12 : Bool} {col12 : Option Bool} {dd12 : Option Addr} {mA12 mB12 mC12 mD12 mF12 : Option Value}
    {nm13 q13 : Str} {N13 : Addr} {bs13 bmm13 : List Value} {sn13 : List Str} {sub13 : List Value} {ab13 : Bool} {col13 : Option Bool} {dd13 : Option Addr} {mA13 mB13 mC13 mD13 mF13 : Option Value}
    {od0 an0 od1 an1 od2 an2 od3 an3 od4 an4 od5 an5 od6 an6 od7 an7 od8 an8 od9 an9 od10 an10 odI8 anI8 odI9 anI9 odI10 anI10 odI11 anI11 odI12 anI12 odI13 anI13 : Option Addr} {sl0 sl1 sl2 sl3 sl4 sl5 sl6 sl7 sl8 sl9 sl10 slI8 slI9 slI10 slI11 slI12 slI13 : Array (Option Value)}
    {oc0 kV0 dc0 pm0 cd0 ct0 oc1 kV1 dc1 pm1 cd1 ct1 oc2 kV2 dc2 pm2 cd2 ct2 oc3 kV3 dc3 pm3 cd3 ct3 oc4 kV4 dc4 pm4 cd4 ct4 oc5 kV5 dc5 pm5 cd5 ct5 oc6 kV6 dc6 pm6 cd6 ct6 oc7 kV7 dc7 pm7 cd7 ct7 oc8 kV8 dc8 pm8 cd8 ct8 oc9 kV9 dc9 pm9 cd9 ct9 oc10 kV10 dc10 pm10 cd10 ct10 ocI8 kVI8 dcI8 pmI8 cdI8 ctI8 ocI9 kVI9 dcI9 pmI9 cdI9 ctI9 ocI10 kVI10 dcI10 pmI10 cdI10 ctI10 ocI11 kVI11 dcI11 pmI11 cdI11 ctI11 ocI12 kVI12 dcI12 pmI12 cdI12 ctI12 ocI13 kVI13 dcI13 pmI13 cdI13 ctI13 : Value}
    (aC0 : PySem.W.nsIn K mainGlobals "MayrowError" = some (some (.ref C0)))
    (xC0 : PySem.W.excIn K C0 [.type "ValueError", .type "Exception", .type "BaseException", .type "object"] "ValueError.__new__" = true)
    (kC0 : PySem.W.keepIn K (.ref C0) = true)
    (aC1 : PySem.W.nsIn K mainGlobals "InvalidText" = some (some (.ref C1)))
    (xC1 : PySem.W.excIn K C1 [.type "ValueError", .type "Exception", .type "BaseException", .type "object"] "ValueError.__new__" = true)
    (kC1 : PySem.W.keepIn K (.ref C1) = true)
    (aC2 : PySem.W.nsIn K mainGlobals "InvalidRow" = some (some (.ref C2)))
    (xC2 : PySem.W.excIn K C2 [.type "ValueError", .type "Exception", .type "BaseException", .type "object"] "ValueError.__new__" = true)
    (kC2 : PySem.W.keepIn K (.ref C2) = true)
    (aC3 : PySem.W.nsIn K mainGlobals "InvalidTable" = some (some (.ref C3)))
    (xC3 : PySem.W.excIn K C3 [.type "ValueError", .type "Exception", .type "BaseException", .type "object"] "ValueError.__new__" = true)
    (kC3 : PySem.W.keepIn K (.ref C3) = true)
    (aC4 : PySem.W.nsIn K mainGlobals "InvalidPasses" = some (some (.ref C4)))
    (xC4 : PySem.W.excIn K C4 [.type "ValueError", .type "Exception", .type "BaseException", .type "object"] "ValueError.__new__" = true)
    (kC4 : PySem.W.keepIn K (.ref C4) = true)
    (aC5 : PySem.W.nsIn K mainGlobals "InvalidOperation" = some (some (.ref C5)))
    (xC5 : PySem.W.excIn K C5 [.type "ValueError", .type "Exception", .type "BaseException", .type "object"] "ValueError.__new__" = true)
    (kC5 : PySem.W.keepIn K (.ref C5) = true)
    (aC6 : PySem.W.nsIn K mainGlobals "InvalidPromise" = some (some (.ref C6)))
    (xC6 : PySem.W.excIn K C6 [.type "ValueError", .type "Exception", .type "BaseException", .type "object"] "ValueError.__new__" = true)
    (kC6 : PySem.W.keepIn K (.ref C6) = true)
    (aC7 : PySem.W.nsIn K mainGlobals "InvalidBook" = some (some (.ref C7)))
    (xC7 : PySem.W.excIn K C7 [.type "ValueError", .type "Exception", .type "BaseException", .type "object"] "ValueError.__new__" = true)
    (kC7 : PySem.W.keepIn K (.ref C7) = true)
    (aC8 : PySem.W.nsIn K mainGlobals "ParseError" = some (some (.ref C8)))
    (xL8 : K.lookup C8 = some (excClassObj nm8 q8 C8 N8 bs8 bmm8 true sn8 sub8 ab8 col8 dd8 mA8 mB8 mC8 mD8 mF8 "ValueError.__new__"))
    (xM8 : PySem.W.excTail [.type "ValueError", .type "Exception", .type "BaseException", .type "object"] bmm8 = true)
    (sa8 : PySem.W.findIn K (.ref C8) "__setattr__" = some (some (.builtin "object.__setattr__")))
    (nf8 : PySem.W.findIn K (.ref C8) "spot" = some none)
    (iN8 : PySem.W.findIn K (.ref C8) "__init__" = some (some (.ref fI8)))
    (tI8 : PySem.W.typeIn K (.ref fI8) = some (.type "function"))
    (lI8 : K.lookup fI8 = some ⟨ocI8, odI8, .func (PySem.W.fnOf "__init__" "ParseError.__init__" (defArgs sParseerrorInit) (defBody sParseerrorInit) (defScope sParseerrorInit) .none kVI8 dcI8 pmI8 anI8 cdI8 ctI8), slI8⟩)
    (cI8 : PySem.W.codeIn K cdI8 "ParseError.__init__" = true)
    (kI8 : PySem.W.keepIn K (.ref fI8) = true)
    (kC8 : PySem.W.keepIn K (.ref C8) = true)
    (aC9 : PySem.W.nsIn K mainGlobals "InvalidNumber" = some (some (.ref C9)))
    (xL9 : K.lookup C9 = some (excClassObj nm9 q9 C9 N9 bs9 bmm9 true sn9 sub9 ab9 col9 dd9 mA9 mB9 mC9 mD9 mF9 "IndexError.__new__"))
    (xM9 : PySem.W.excTail [.type "IndexError", .type "LookupError", .type "Exception", .type "BaseException", .type "object"] bmm9 = true)
    (sa9 : PySem.W.findIn K (.ref C9) "__setattr__" = some (some (.builtin "object.__setattr__")))
    (nf9 : PySem.W.findIn K (.ref C9) "given" = some none)
    (iN9 : PySem.W.findIn K (.ref C9) "__init__" = some (some (.ref fI9)))
    (tI9 : PySem.W.typeIn K (.ref fI9) = some (.type "function"))
    (lI9 : K.lookup fI9 = some ⟨ocI9, odI9, .func (PySem.W.fnOf "__init__" "InvalidNumber.__init__" (defArgs sInvalidnumberInit) (defBody sInvalidnumberInit) (defScope sInvalidnumberInit) .none kVI9 dcI9 pmI9 anI9 cdI9 ctI9), slI9⟩)
    (cI9 : PySem.W.codeIn K cdI9 "InvalidNumber.__init__" = true)
    (kI9 : PySem.W.keepIn K (.ref fI9) = true)
    (kC9 : PySem.W.keepIn K (.ref C9) = true)
    (aC10 : PySem.W.nsIn K mainGlobals "UnknownName" = some (some (.ref C10)))
    (xL10 : K.lookup C10 = some (excClassObj nm10 q10 C10 N10 bs10 bmm10 true sn10 sub10 ab10 col10 dd10 mA10 mB10 mC10 mD10 mF10 "LookupError.__new__"))
    (xM10 : PySem.W.excTail [.type "KeyError", .type "LookupError", .type "Exception", .type "BaseException", .type "object"] bmm10 = true)
    (sa10 : PySem.W.findIn K (.ref C10) "__setattr__" = some (some (.builtin "object.__setattr__")))
    (nf10 : PySem.W.findIn K (.ref C10) "wanted" = some none)
    (iN10 : PySem.W.findIn K (.ref C10) "__init__" = some (some (.ref fI10)))
    (tI10 : PySem.W.typeIn K (.ref fI10) = some (.type "function"))
    (lI10 : K.lookup fI10 = some ⟨ocI10, odI10, .func (PySem.W.fnOf "__init__" "UnknownName.__init__" (defArgs sUnknownnameInit) (defBody sUnknownnameInit) (defScope sUnknownnameInit) .none kVI10 dcI10 pmI10 anI10 cdI10 ctI10), slI10⟩)
    (cI10 : PySem.W.codeIn K cdI10 "UnknownName.__init__" = true)
    (kI10 : PySem.W.keepIn K (.ref fI10) = true)
    (kC10 : PySem.W.keepIn K (.ref C10) = true)
    (aC11 : PySem.W.nsIn K mainGlobals "TooMany" = some (some (.ref C11)))
    (xL11 : K.lookup C11 = some (excClassObj nm11 q11 C11 N11 bs11 bmm11 true sn11 sub11 ab11 col11 dd11 mA11 mB11 mC11 mD11 mF11 "OverflowError.__new__"))
    (xM11 : PySem.W.excTail [.type "OverflowError", .type "ArithmeticError", .type "Exception", .type "BaseException", .type "object"] bmm11 = true)
    (sa11 : PySem.W.findIn K (.ref C11) "__setattr__" = some (some (.builtin "object.__setattr__")))
    (nf11 : PySem.W.findIn K (.ref C11) "most" = some none)
    (iN11 : PySem.W.findIn K (.ref C11) "__init__" = some (some (.ref fI11)))
    (tI11 : PySem.W.typeIn K (.ref fI11) = some (.type "function"))
    (lI11 : K.lookup fI11 = some ⟨ocI11, odI11, .func (PySem.W.fnOf "__init__" "TooMany.__init__" (defArgs sToomanyInit) (defBody sToomanyInit) (defScope sToomanyInit) .none kVI11 dcI11 pmI11 anI11 cdI11 ctI11), slI11⟩)
    (cI11 : PySem.W.codeIn K cdI11 "TooMany.__init__" = true)
    (kI11 : PySem.W.keepIn K (.ref fI11) = true)
    (kC11 : PySem.W.keepIn K (.ref C11) = true)
    (aC12 : PySem.W.nsIn K mainGlobals "Refused" = some (some (.ref C12)))
    (xL12 : K.lookup C12 = some (excClassObj nm12 q12 C12 N12 bs12 bmm12 true sn12 sub12 ab12 col12 dd12 mA12 mB12 mC12 mD12 mF12 "ArithmeticError.__new__"))
    (xM12 : PySem.W.excTail [.type "ArithmeticError", .type "Exception", .type "BaseException", .type "object"] bmm12 = true)
    (sa12 : PySem.W.findIn K (.ref C12) "__setattr__" = some (some (.builtin "object.__setattr__")))
    (nf12 : PySem.W.findIn K (.ref C12) "reason" = some none)
    (iN12 : PySem.W.findIn K (.ref C12) "__init__" = some (some (.ref fI12)))
    (tI12 : PySem.W.typeIn K (.ref fI12) = some (.type "function"))
    (lI12 : K.lookup fI12 = some ⟨ocI12, odI12, .func (PySem.W.fnOf "__init__" "Refused.__init__" (defArgs sRefusedInit) (defBody sRefusedInit) (defScope sRefusedInit) .none kVI12 dcI12 pmI12 anI12 cdI12 ctI12), slI12⟩)
    (cI12 : PySem.W.codeIn K cdI12 "Refused.__init__" = true)
    (kI12 : PySem.W.keepIn K (.ref fI12) = true)
    (kC12 : PySem.W.keepIn K (.ref C12) = true)
    (aC13 : PySem.W.nsIn K mainGlobals "NothingToUndo" = some (some (.ref C13)))
    (xL13 : K.lookup C13 = some (excClassObj nm13 q13 C13 N13 bs13 bmm13 true sn13 sub13 ab13 col13 dd13 mA13 mB13 mC13 mD13 mF13 "LookupError.__new__"))
    (xM13 : PySem.W.excTail [.type "LookupError", .type "Exception", .type "BaseException", .type "object"] bmm13 = true)
    (sa13 : PySem.W.findIn K (.ref C13) "__setattr__" = some (some (.builtin "object.__setattr__")))
    (nf13 : PySem.W.findIn K (.ref C13) "many" = some none)
    (iN13 : PySem.W.findIn K (.ref C13) "__init__" = some (some (.ref fI13)))
    (tI13 : PySem.W.typeIn K (.ref fI13) = some (.type "function"))
    (lI13 : K.lookup fI13 = some ⟨ocI13, odI13, .func (PySem.W.fnOf "__init__" "NothingToUndo.__init__" (defArgs sNothingtoundoInit) (defBody sNothingtoundoInit) (defScope sNothingtoundoInit) .none kVI13 dcI13 pmI13 anI13 cdI13 ctI13), slI13⟩)
    (cI13 : PySem.W.codeIn K cdI13 "NothingToUndo.__init__" = true)
    (kI13 : PySem.W.keepIn K (.ref fI13) = true)
    (kC13 : PySem.W.keepIn K (.ref C13) = true)
    (pokSub : okSub K [C0, C1, C2, C3, C4, C5, C6, C7, C8, C9, C10, C11, C12, C13] = true)
    (pokBlt : okBlt K [C0, C1, C2, C3, C4, C5, C6, C7, C8, C9, C10, C11, C12, C13] = true)
    (pokTy : okTy K [C0, C1, C2, C3, C4, C5, C6, C7, C8, C9, C10, C11, C12, C13] = true)
    (pokEx : okEx K [C0, C1, C2, C3, C4, C5, C6, C7, C8, C9, C10, C11, C12, C13] = true)
    (a0 : PySem.W.nsIn K mainGlobals "_law_bag" = some (some (.ref f0)))
    (l0 : K.lookup f0 = some ⟨oc0, od0, .func (PySem.W.fnOf "_law_bag" "_law_bag" (defArgs sLbag) (defBody sLbag) (defScope sLbag) .none kV0 dc0 pm0 an0 cd0 ct0), sl0⟩)
    (c0 : PySem.W.codeIn K cd0 "_law_bag" = true)
    (k0 : PySem.W.keepIn K (.ref f0) = true)
    (a1 : PySem.W.nsIn K mainGlobals "_law_draw" = some (some (.ref f1)))
    (l1 : K.lookup f1 = some ⟨oc1, od1, .func (PySem.W.fnOf "_law_draw" "_law_draw" (defArgs sLdraw) (defBody sLdraw) (defScope sLdraw) .none kV1 dc1 pm1 an1 cd1 ct1), sl1⟩)
    (c1 : PySem.W.codeIn K cd1 "_law_draw" = true)
    (k1 : PySem.W.keepIn K (.ref f1) = true)
    (a2 : PySem.W.nsIn K mainGlobals "_law_one_of" = some (some (.ref f2)))
    (l2 : K.lookup f2 = some ⟨oc2, od2, .func (PySem.W.fnOf "_law_one_of" "_law_one_of" (defArgs sLoneOf) (defBody sLoneOf) (defScope sLoneOf) .none kV2 dc2 pm2 an2 cd2 ct2), sl2⟩)
    (c2 : PySem.W.codeIn K cd2 "_law_one_of" = true)
    (k2 : PySem.W.keepIn K (.ref f2) = true)
    (a3 : PySem.W.nsIn K mainGlobals "_law_shuffled" = some (some (.ref f3)))
    (l3 : K.lookup f3 = some ⟨oc3, od3, .func (PySem.W.fnOf "_law_shuffled" "_law_shuffled" (defArgs sLshuffled) (defBody sLshuffled) (defScope sLshuffled) .none kV3 dc3 pm3 an3 cd3 ct3), sl3⟩)
    (c3 : PySem.W.codeIn K cd3 "_law_shuffled" = true)
    (k3 : PySem.W.keepIn K (.ref f3) = true)
    (a4 : PySem.W.nsIn K mainGlobals "_law_raised" = some (some (.ref f4)))
    (l4 : K.lookup f4 = some ⟨oc4, od4, .func (PySem.W.fnOf "_law_raised" "_law_raised" (defArgs sLraised) (defBody sLraised) (defScope sLraised) .none kV4 dc4 pm4 an4 cd4 ct4), sl4⟩)
    (c4 : PySem.W.codeIn K cd4 "_law_raised" = true)
    (k4 : PySem.W.keepIn K (.ref f4) = true)
    (a5 : PySem.W.nsIn K mainGlobals "_law_caught" = some (some (.ref f5)))
    (l5 : K.lookup f5 = some ⟨oc5, od5, .func (PySem.W.fnOf "_law_caught" "_law_caught" (defArgs sLcaught) (defBody sLcaught) (defScope sLcaught) .none kV5 dc5 pm5 an5 cd5 ct5), sl5⟩)
    (c5 : PySem.W.codeIn K cd5 "_law_caught" = true)
    (k5 : PySem.W.keepIn K (.ref f5) = true)
    (a6 : PySem.W.nsIn K mainGlobals "_law_classes" = some (some (.ref f6)))
    (l6 : K.lookup f6 = some ⟨oc6, od6, .func (PySem.W.fnOf "_law_classes" "_law_classes" (defArgs sLclasses) (defBody sLclasses) (defScope sLclasses) .none kV6 dc6 pm6 an6 cd6 ct6), sl6⟩)
    (c6 : PySem.W.codeIn K cd6 "_law_classes" = true)
    (k6 : PySem.W.keepIn K (.ref f6) = true)
    (a7 : PySem.W.nsIn K mainGlobals "_law_classes_of" = some (some (.ref f7)))
    (l7 : K.lookup f7 = some ⟨oc7, od7, .func (PySem.W.fnOf "_law_classes_of" "_law_classes_of" (defArgs sLclassesOf) (defBody sLclassesOf) (defScope sLclassesOf) .none kV7 dc7 pm7 an7 cd7 ct7), sl7⟩)
    (c7 : PySem.W.codeIn K cd7 "_law_classes_of" = true)
    (k7 : PySem.W.keepIn K (.ref f7) = true)
    (a8 : PySem.W.nsIn K mainGlobals "_law_due_classes" = some (some (.ref f8)))
    (l8 : K.lookup f8 = some ⟨oc8, od8, .func (PySem.W.fnOf "_law_due_classes" "_law_due_classes" (defArgs sLdueClasses) (defBody sLdueClasses) (defScope sLdueClasses) .none kV8 dc8 pm8 an8 cd8 ct8), sl8⟩)
    (c8 : PySem.W.codeIn K cd8 "_law_due_classes" = true)
    (k8 : PySem.W.keepIn K (.ref f8) = true)
    (a9 : PySem.W.nsIn K mainGlobals "_law_kept" = some (some (.ref f9)))
    (l9 : K.lookup f9 = some ⟨oc9, od9, .func (PySem.W.fnOf "_law_kept" "_law_kept" (defArgs sLkept) (defBody sLkept) (defScope sLkept) .none kV9 dc9 pm9 an9 cd9 ct9), sl9⟩)
    (c9 : PySem.W.codeIn K cd9 "_law_kept" = true)
    (k9 : PySem.W.keepIn K (.ref f9) = true)
    (a10 : PySem.W.nsIn K mainGlobals "law" = some (some (.ref f10)))
    (l10 : K.lookup f10 = some ⟨oc10, od10, .func (PySem.W.fnOf "law" "law" (defArgs sLaw) (defBody sLaw) (defScope sLaw) .none kV10 dc10 pm10 an10 cd10 ct10), sl10⟩)
    (c10 : PySem.W.codeIn K cd10 "law" = true)
    (k10 : PySem.W.keepIn K (.ref f10) = true)
    (z0 : PySem.W.nsIn K mainGlobals "isinstance" = some none)
    (z1 : PySem.W.nsIn K mainGlobals "int" = some none)
    (z2 : PySem.W.nsIn K mainGlobals "bool" = some none)
    (z3 : PySem.W.nsIn K mainGlobals "str" = some none)
    (z4 : PySem.W.nsIn K mainGlobals "len" = some none)
    (z5 : PySem.W.nsIn K mainGlobals "list" = some none)
    (z6 : PySem.W.nsIn K mainGlobals "range" = some none)
    (z7 : PySem.W.nsIn K mainGlobals "sum" = some none)
    (z8 : PySem.W.nsIn K mainGlobals "abs" = some none)
    (z9 : PySem.W.nsIn K mainGlobals "max" = some none)
    (z10 : PySem.W.nsIn K mainGlobals "min" = some none)
    (z11 : PySem.W.nsIn K mainGlobals "repr" = some none)
    (z12 : PySem.W.nsIn K mainGlobals "zip" = some none)
    (z13 : PySem.W.nsIn K mainGlobals "ValueError" = some none)
    (z14 : PySem.W.nsIn K mainGlobals "IndexError" = some none)
    (z15 : PySem.W.nsIn K mainGlobals "KeyError" = some none)
    (z16 : PySem.W.nsIn K mainGlobals "LookupError" = some none)
    (z17 : PySem.W.nsIn K mainGlobals "OverflowError" = some none)
    (z18 : PySem.W.nsIn K mainGlobals "ArithmeticError" = some none)
    (z19 : PySem.W.nsIn K mainGlobals "tuple" = some none)
    : ∃ fd : FuncData, (∀ (s : Shared) (v : Value), BindsTo s fd ⟨[v], []⟩ [("_law_script", v)]) ∧ ∀ base : Heap, K.In base → base.Ns mainGlobals mg → FnG P w K mg base CX0 6 fa fd ["_law_script"] (spLaw K) := by
  have e := hfa.symm.trans (PySem.W.mg_of X G a10)
  cases e
  have c : Cs K (fun i => ([C0, C1, C2, C3, C4, C5, C6, C7, C8, C9, C10, C11, C12, C13] : List Addr).getD i 0) := cs_mk pokSub pokBlt pokTy pokEx
  have F0 := fun_mk (st := sLbag) l0 c0 k0
  have D0 : Dn K mg "_law_bag" sLbag ["_law_script", "_law_at"] f0 _ := ⟨F0, PySem.W.mg_of X G a0, F0.binds (ps := ["_law_script", "_law_at"]) fun _ _ _ _ _ _ us hl => match us, hl with | [_, _], _ => rfl⟩
  have F1 := fun_mk (st := sLdraw) l1 c1 k1
  have D1 : Dn K mg "_law_draw" sLdraw ["_law_bag_here", "_law_total"] f1 _ := ⟨F1, PySem.W.mg_of X G a1, F1.binds (ps := ["_law_bag_here", "_law_total"]) fun _ _ _ _ _ _ us hl => match us, hl with | [_, _], _ => rfl⟩
  have F2 := fun_mk (st := sLoneOf) l2 c2 k2
  have D2 : Dn K mg "_law_one_of" sLoneOf ["_law_bag_here", "_law_items"] f2 _ := ⟨F2, PySem.W.mg_of X G a2, F2.binds (ps := ["_law_bag_here", "_law_items"]) fun _ _ _ _ _ _ us hl => match us, hl with | [_, _], _ => rfl⟩
  have F3 := fun_mk (st := sLshuffled) l3 c3 k3
  have D3 : Dn K mg "_law_shuffled" sLshuffled ["_law_bag_here", "_law_items"] f3 _ := ⟨F3, PySem.W.mg_of X G a3, F3.binds (ps := ["_law_bag_here", "_law_items"]) fun _ _ _ _ _ _ us hl => match us, hl with | [_, _], _ => rfl⟩
  have F4 := fun_mk (st := sLraised) l4 c4 k4
  have D4 : Dn K mg "_law_raised" sLraised ["_law_which", "_law_text", "_law_value", "_law_number", "_law_reason"] f4 _ := ⟨F4, PySem.W.mg_of X G a4, F4.binds (ps := ["_law_which", "_law_text", "_law_value", "_law_number", "_law_reason"]) fun _ _ _ _ _ _ us hl => match us, hl with | [_, _, _, _, _], _ => rfl⟩
  have F5 := fun_mk (st := sLcaught) l5 c5 k5
  have D5 : Dn K mg "_law_caught" sLcaught ["_law_which", "_law_text", "_law_value", "_law_number", "_law_reason"] f5 _ := ⟨F5, PySem.W.mg_of X G a5, F5.binds (ps := ["_law_which", "_law_text", "_law_value", "_law_number", "_law_reason"]) fun _ _ _ _ _ _ us hl => match us, hl with | [_, _, _, _, _], _ => rfl⟩
  have F6 := fun_mk (st := sLclasses) l6 c6 k6
  have D6 : Dn K mg "_law_classes" sLclasses ["_law_error"] f6 _ := ⟨F6, PySem.W.mg_of X G a6, F6.binds (ps := ["_law_error"]) fun _ _ _ _ _ _ us hl => match us, hl with | [_], _ => rfl⟩
  have F7 := fun_mk (st := sLclassesOf) l7 c7 k7
  have D7 : Dn K mg "_law_classes_of" sLclassesOf ["_law_which", "_law_text", "_law_value", "_law_number", "_law_reason"] f7 _ := ⟨F7, PySem.W.mg_of X G a7, F7.binds (ps := ["_law_which", "_law_text", "_law_value", "_law_number", "_law_reason"]) fun _ _ _ _ _ _ us hl => match us, hl with | [_, _, _, _, _], _ => rfl⟩
  have F8 := fun_mk (st := sLdueClasses) l8 c8 k8
  have D8 : Dn K mg "_law_due_classes" sLdueClasses ["_law_which"] f8 _ := ⟨F8, PySem.W.mg_of X G a8, F8.binds (ps := ["_law_which"]) fun _ _ _ _ _ _ us hl => match us, hl with | [_], _ => rfl⟩
  have F9 := fun_mk (st := sLkept) l9 c9 k9
  have D9 : Dn K mg "_law_kept" sLkept ["_law_which", "_law_value", "_law_number", "_law_reason"] f9 _ := ⟨F9, PySem.W.mg_of X G a9, F9.binds (ps := ["_law_which", "_law_value", "_law_number", "_law_reason"]) fun _ _ _ _ _ _ us hl => match us, hl with | [_, _, _, _], _ => rfl⟩
  have F10 := fun_mk (st := sLaw) l10 c10 k10
  have D10 : Dn K mg "law" sLaw ["_law_script"] _ _ := ⟨F10, PySem.W.mg_of X G a10, F10.binds (ps := ["_law_script"]) fun _ _ _ _ _ _ us hl => match us, hl with | [_], _ => rfl⟩
  have O : Ow K mg (fun i => ([C0, C1, C2, C3, C4, C5, C6, C7, C8, C9, C10, C11, C12, C13] : List Addr).getD i 0) := ⟨⟨PySem.W.mg_of X G aC0, xC0, kC0, (c.ex 0 (by decide)).hs, c.ty 0 (by decide)⟩, ⟨PySem.W.mg_of X G aC1, xC1, kC1, (c.ex 1 (by decide)).hs, c.ty 1 (by decide)⟩, ⟨PySem.W.mg_of X G aC2, xC2, kC2, (c.ex 2 (by decide)).hs, c.ty 2 (by decide)⟩, ⟨PySem.W.mg_of X G aC3, xC3, kC3, (c.ex 3 (by decide)).hs, c.ty 3 (by decide)⟩, ⟨PySem.W.mg_of X G aC4, xC4, kC4, (c.ex 4 (by decide)).hs, c.ty 4 (by decide)⟩, ⟨PySem.W.mg_of X G aC5, xC5, kC5, (c.ex 5 (by decide)).hs, c.ty 5 (by decide)⟩, ⟨PySem.W.mg_of X G aC6, xC6, kC6, (c.ex 6 (by decide)).hs, c.ty 6 (by decide)⟩, ⟨PySem.W.mg_of X G aC7, xC7, kC7, (c.ex 7 (by decide)).hs, c.ty 7 (by decide)⟩⟩
  have FI8 := fun_mk (st := sParseerrorInit) lI8 cI8 kI8
  have FI9 := fun_mk (st := sInvalidnumberInit) lI9 cI9 kI9
  have FI10 := fun_mk (st := sUnknownnameInit) lI10 cI10 kI10
  have FI11 := fun_mk (st := sToomanyInit) lI11 cI11 kI11
  have FI12 := fun_mk (st := sRefusedInit) lI12 cI12 kI12
  have FI13 := fun_mk (st := sNothingtoundoInit) lI13 cI13 kI13
  have I : Kp K mg (fun i => ([C0, C1, C2, C3, C4, C5, C6, C7, C8, C9, C10, C11, C12, C13] : List Addr).getD i 0) (fun i => ([fI8, fI9, fI10, fI11, fI12, fI13] : List Addr).getD (i - 8) 0) (fun i => match i with | 8 => PySem.W.fnOf "__init__" "ParseError.__init__" (defArgs sParseerrorInit) (defBody sParseerrorInit) (defScope sParseerrorInit) .none kVI8 dcI8 pmI8 anI8 cdI8 ctI8 | 9 => PySem.W.fnOf "__init__" "InvalidNumber.__init__" (defArgs sInvalidnumberInit) (defBody sInvalidnumberInit) (defScope sInvalidnumberInit) .none kVI9 dcI9 pmI9 anI9 cdI9 ctI9 | 10 => PySem.W.fnOf "__init__" "UnknownName.__init__" (defArgs sUnknownnameInit) (defBody sUnknownnameInit) (defScope sUnknownnameInit) .none kVI10 dcI10 pmI10 anI10 cdI10 ctI10 | 11 => PySem.W.fnOf "__init__" "TooMany.__init__" (defArgs sToomanyInit) (defBody sToomanyInit) (defScope sToomanyInit) .none kVI11 dcI11 pmI11 anI11 cdI11 ctI11 | 12 => PySem.W.fnOf "__init__" "Refused.__init__" (defArgs sRefusedInit) (defBody sRefusedInit) (defScope sRefusedInit) .none kVI12 dcI12 pmI12 anI12 cdI12 ctI12 | 13 => PySem.W.fnOf "__init__" "NothingToUndo.__init__" (defArgs sNothingtoundoInit) (defBody sNothingtoundoInit) (defScope sNothingtoundoInit) .none kVI13 dcI13 pmI13 anI13 cdI13 ctI13 | _ => PySem.W.fnOf "__init__" "ParseError.__init__" (defArgs sParseerrorInit) (defBody sParseerrorInit) (defScope sParseerrorInit) .none kVI8 dcI8 pmI8 anI8 cdI8 ctI8) := { F8 := FI8, k8 := { T := { made := ⟨_, _, _, _, _, _, _, _, _, _, _, _, _, _, _, xL8, xM8⟩, fc := ⟨_, _, PySem.F.excBase_ValueError, by decide +kernel, by decide +kernel, by decide +kernel⟩, fs := PySem.F.store_ValueError, sa := sa8, eb := (c.ex 8 (by decide)).hs, ty := c.ty 8 (by decide), kp := kC8, hd := (c.ex 8 (by decide)).hd }, g := PySem.W.mg_of X G aC8, i := iN8, t := tI8, n := nf8, b := FI8.binds (ps := ["self", "spot"]) fun _ _ _ _ _ _ us hl => match us, hl with | [_, _], _ => rfl }, F9 := FI9, k9 := { T := { made := ⟨_, _, _, _, _, _, _, _, _, _, _, _, _, _, _, xL9, xM9⟩, fc := ⟨_, _, PySem.F.excBase_IndexError, by decide +kernel, by decide +kernel, by decide +kernel⟩, fs := PySem.F.store_IndexError, sa := sa9, eb := (c.ex 9 (by decide)).hs, ty := c.ty 9 (by decide), kp := kC9, hd := (c.ex 9 (by decide)).hd }, g := PySem.W.mg_of X G aC9, i := iN9, t := tI9, n := nf9, b := FI9.binds (ps := ["self", "given"]) fun _ _ _ _ _ _ us hl => match us, hl with | [_, _], _ => rfl }, F10 := FI10, k10 := { T := { made := ⟨_, _, _, _, _, _, _, _, _, _, _, _, _, _, _, xL10, xM10⟩, fc := ⟨_, _, PySem.F.excBase_LookupError, by decide +kernel, by decide +kernel, by decide +kernel⟩, fs := storeKey, sa := sa10, eb := (c.ex 10 (by decide)).hs, ty := c.ty 10 (by decide), kp := kC10, hd := (c.ex 10 (by decide)).hd }, g := PySem.W.mg_of X G aC10, i := iN10, t := tI10, n := nf10, b := FI10.binds (ps := ["self", "wanted"]) fun _ _ _ _ _ _ us hl => match us, hl with | [_, _], _ => rfl }, F11 := FI11, k11 := { T := { made := ⟨_, _, _, _, _, _, _, _, _, _, _, _, _, _, _, xL11, xM11⟩, fc := ⟨_, _, PySem.F.excBase_OverflowError, by decide +kernel, by decide +kernel, by decide +kernel⟩, fs := PySem.F.store_OverflowError, sa := sa11, eb := (c.ex 11 (by decide)).hs, ty := c.ty 11 (by decide), kp := kC11, hd := (c.ex 11 (by decide)).hd }, g := PySem.W.mg_of X G aC11, i := iN11, t := tI11, n := nf11, b := FI11.binds (ps := ["self", "most"]) fun _ _ _ _ _ _ us hl => match us, hl with | [_, _], _ => rfl }, F12 := FI12, k12 := { T := { made := ⟨_, _, _, _, _, _, _, _, _, _, _, _, _, _, _, xL12, xM12⟩, fc := ⟨_, _, PySem.F.excBase_ArithmeticError, by decide +kernel, by decide +kernel, by decide +kernel⟩, fs := PySem.F.store_ArithmeticError, sa := sa12, eb := (c.ex 12 (by decide)).hs, ty := c.ty 12 (by decide), kp := kC12, hd := (c.ex 12 (by decide)).hd }, g := PySem.W.mg_of X G aC12, i := iN12, t := tI12, n := nf12, b := FI12.binds (ps := ["self", "reason"]) fun _ _ _ _ _ _ us hl => match us, hl with | [_, _], _ => rfl }, F13 := FI13, k13 := { T := { made := ⟨_, _, _, _, _, _, _, _, _, _, _, _, _, _, _, xL13, xM13⟩, fc := ⟨_, _, PySem.F.excBase_LookupError, by decide +kernel, by decide +kernel, by decide +kernel⟩, fs := PySem.F.store_LookupError, sa := sa13, eb := (c.ex 13 (by decide)).hs, ty := c.ty 13 (by decide), kp := kC13, hd := (c.ex 13 (by decide)).hd }, g := PySem.W.mg_of X G aC13, i := iN13, t := tI13, n := nf13, b := FI13.binds (ps := ["self", "many"]) fun _ _ _ _ _ _ us hl => match us, hl with | [_, _], _ => rfl } }
  have T : Bx mg := ⟨PySem.W.mg_none_of X G z0, PySem.W.mg_none_of X G z1, PySem.W.mg_none_of X G z2, PySem.W.mg_none_of X G z3, PySem.W.mg_none_of X G z4, PySem.W.mg_none_of X G z5, PySem.W.mg_none_of X G z6, PySem.W.mg_none_of X G z7, PySem.W.mg_none_of X G z8, PySem.W.mg_none_of X G z9, PySem.W.mg_none_of X G z10, PySem.W.mg_none_of X G z11, PySem.W.mg_none_of X G z12⟩
  have B : Bv mg := ⟨PySem.W.mg_none_of X G z13, PySem.W.mg_none_of X G z14, PySem.W.mg_none_of X G z15, PySem.W.mg_none_of X G z16, PySem.W.mg_none_of X G z17, PySem.W.mg_none_of X G z18, PySem.W.mg_none_of X G z19⟩
  exact ⟨PySem.W.fnOf "law" "law" (defArgs sLaw) (defBody sLaw) (defScope sLaw) .none kV10 dc10 pm10 an10 cd10 ct10, fun s v => .of_eq rfl, fun base _ _ => okLaw D10 D0 D1 D2 D3 D4 D5 D6 D7 D8 D9 T B O I c⟩
end K00

open PySem PySem.W PyProof.Rows
set_option maxRecDepth 100000 in
set_option maxHeartbeats 0 in
theorem PySem.Challenge.cw_mayrows_k00_whole_errors_holds : PySem.Challenge.rw_mayrows_k00_whole_errors.Holds := by
  w_on; o_law; k_head; (case hw => w_witness2)
  k_fill
  refine Ks.walk_ofG (l := PySem.Challenge.rw_mayrows_k00_whole_errors) (n := 63) (k := 6) (x := "_law_script") (CX := fun _ => L2.CX0) (sp := fun w => K00.spLaw _) rfl (by decide) rfl ⟨rfl, by decide, by decide⟩ (fun w h Y => PySem.W.kIn_of Y) ?F (fun _ _ a ns hl _ hS => ⟨a, ns, rfl, hS, fun _ => rfl⟩) (fun _ _ _ _ _ h => h)
  case F =>
    intro w mg fa h KX G hmg
    refine' K00.all_mk KX G hmg ?aC0 ?xC0 ?kC0 ?aC1 ?xC1 ?kC1 ?aC2 ?xC2 ?kC2 ?aC3 ?xC3 ?kC3 ?aC4 ?xC4 ?kC4 ?aC5 ?xC5 ?kC5 ?aC6 ?xC6 ?kC6 ?aC7 ?xC7 ?kC7 ?aC8 ?xL8 ?xM8 ?sa8 ?nf8 ?iN8 ?tI8 ?lI8 ?cI8 ?kI8 ?kC8 ?aC9 ?xL9 ?xM9 ?sa9 ?nf9 ?iN9 ?tI9 ?lI9 ?cI9 ?kI9 ?kC9 ?aC10 ?xL10 ?xM10 ?sa10 ?nf10 ?iN10 ?tI10 ?lI10 ?cI10 ?kI10 ?kC10 ?aC11 ?xL11 ?xM11 ?sa11 ?nf11 ?iN11 ?tI11 ?lI11 ?cI11 ?kI11 ?kC11 ?aC12 ?xL12 ?xM12 ?sa12 ?nf12 ?iN12 ?tI12 ?lI12 ?cI12 ?kI12 ?kC12 ?aC13 ?xL13 ?xM13 ?sa13 ?nf13 ?iN13 ?tI13 ?lI13 ?cI13 ?kI13 ?kC13 ?pokSub ?pokBlt ?pokTy ?pokEx ?a0 ?l0 ?c0 ?k0 ?a1 ?l1 ?c1 ?k1 ?a2 ?l2 ?c2 ?k2 ?a3 ?l3 ?c3 ?k3 ?a4 ?l4 ?c4 ?k4 ?a5 ?l5 ?c5 ?k5 ?a6 ?l6 ?c6 ?k6 ?a7 ?l7 ?c7 ?k7 ?a8 ?l8 ?c8 ?k8 ?a9 ?l9 ?c9 ?k9 ?a10 ?l10 ?c10 ?k10 ?z0 ?z1 ?z2 ?z3 ?z4 ?z5 ?z6 ?z7 ?z8 ?z9 ?z10 ?z11 ?z12 ?z13 ?z14 ?z15 ?z16 ?z17 ?z18 ?z19
    (case aC0 => k_is)
    (case xC0 => k_exc)
    (case kC0 => k_is)
    (case aC1 => k_is)
    (case xC1 => k_exc)
    (case kC1 => k_is)
    (case aC2 => k_is)
    (case xC2 => k_exc)
    (case kC2 => k_is)
    (case aC3 => k_is)
    (case xC3 => k_exc)
    (case kC3 => k_is)
    (case aC4 => k_is)
    (case xC4 => k_exc)
    (case kC4 => k_is)
    (case aC5 => k_is)
    (case xC5 => k_exc)
    (case kC5 => k_is)
    (case aC6 => k_is)
    (case xC6 => k_exc)
    (case kC6 => k_is)
    (case aC7 => k_is)
    (case xC7 => k_exc)
    (case kC7 => k_is)
    (case aC8 => k_is)
    (case xL8 => k_is)
    (case xM8 => decide +kernel)
    (case sa8 => k_is)
    (case nf8 => k_is)
    (case iN8 => k_is)
    (case tI8 => k_is)
    (case lI8 => k_is)
    (case cI8 => k_is)
    (case kI8 => k_is)
    (case kC8 => k_is)
    (case aC9 => k_is)
    (case xL9 => k_is)
    (case xM9 => decide +kernel)
    (case sa9 => k_is)
    (case nf9 => k_is)
    (case iN9 => k_is)
    (case tI9 => k_is)
    (case lI9 => k_is)
    (case cI9 => k_is)
    (case kI9 => k_is)
    (case kC9 => k_is)
    (case aC10 => k_is)
    (case xL10 => k_is)
    (case xM10 => decide +kernel)
    (case sa10 => k_is)
    (case nf10 => k_is)
    (case iN10 => k_is)
    (case tI10 => k_is)
    (case lI10 => k_is)
    (case cI10 => k_is)
    (case kI10 => k_is)
    (case kC10 => k_is)
    (case aC11 => k_is)
    (case xL11 => k_is)
    (case xM11 => decide +kernel)
    (case sa11 => k_is)
    (case nf11 => k_is)
    (case iN11 => k_is)
    (case tI11 => k_is)
    (case lI11 => k_is)
    (case cI11 => k_is)
    (case kI11 => k_is)
    (case kC11 => k_is)
    (case aC12 => k_is)
    (case xL12 => k_is)
    (case xM12 => decide +kernel)
    (case sa12 => k_is)
    (case nf12 => k_is)
    (case iN12 => k_is)
    (case tI12 => k_is)
    (case lI12 => k_is)
    (case cI12 => k_is)
    (case kI12 => k_is)
    (case kC12 => k_is)
    (case aC13 => k_is)
    (case xL13 => k_is)
    (case xM13 => decide +kernel)
    (case sa13 => k_is)
    (case nf13 => k_is)
    (case iN13 => k_is)
    (case tI13 => k_is)
    (case lI13 => k_is)
    (case cI13 => k_is)
    (case kI13 => k_is)
    (case kC13 => k_is)
    (case pokSub => kernel_rfl)
    (case pokBlt => kernel_rfl)
    (case pokTy => kernel_rfl)
    (case pokEx => kernel_rfl)
    (case a0 => k_is)
    (case l0 => k_is)
    (case c0 => k_is)
    (case k0 => k_is)
    (case a1 => k_is)
    (case l1 => k_is)
    (case c1 => k_is)
    (case k1 => k_is)
    (case a2 => k_is)
    (case l2 => k_is)
    (case c2 => k_is)
    (case k2 => k_is)
    (case a3 => k_is)
    (case l3 => k_is)
    (case c3 => k_is)
    (case k3 => k_is)
    (case a4 => k_is)
    (case l4 => k_is)
    (case c4 => k_is)
    (case k4 => k_is)
    (case a5 => k_is)
    (case l5 => k_is)
    (case c5 => k_is)
    (case k5 => k_is)
    (case a6 => k_is)
    (case l6 => k_is)
    (case c6 => k_is)
    (case k6 => k_is)
    (case a7 => k_is)
    (case l7 => k_is)
    (case c7 => k_is)
    (case k7 => k_is)
    (case a8 => k_is)
    (case l8 => k_is)
    (case c8 => k_is)
    (case k8 => k_is)
    (case a9 => k_is)
    (case l9 => k_is)
    (case c9 => k_is)
    (case k9 => k_is)
    (case a10 => k_is)
    (case l10 => k_is)
    (case c10 => k_is)
    (case k10 => k_is)
    (case z0 => k_is)
    (case z1 => k_is)
    (case z2 => k_is)
    (case z3 => k_is)
    (case z4 => k_is)
    (case z5 => k_is)
    (case z6 => k_is)
    (case z7 => k_is)
    (case z8 => k_is)
    (case z9 => k_is)
    (case z10 => k_is)
    (case z11 => k_is)
    (case z12 => k_is)
    (case z13 => k_is)
    (case z14 => k_is)
    (case z15 => k_is)
    (case z16 => k_is)
    (case z17 => k_is)
    (case z18 => k_is)
    (case z19 => k_is)
