import PyProof.Rows.All
import Wide.All
import OpenK.AllK
import Wide.FinOn
import HandS.ExcInit
import HandS.ForExc
import KE.KExcInit
import HandS.Exc
import HandS.ExcField
import HandS.TryMany
import PyProof.ReprReads
import PyProof.ReprRoads
import PyProof.CallFns
import HandS.Ends
import HandS.ForMost
import HandS.IsInst
import HandS.Wide
import HandS.StrMore
import HandS.Star
import HandS.Style
import Wide.Txt
import KE.GoesNew
import KE.GoesEnum
import HandS.Walk
import KE.LtData
import HandS.GenList
import HandS.GenOver
import HandS.GenYield
import HandS.GenCall
import KE.IntTextLaws
import PyProof.Rows.StrPadFill
import PyProof.StrBlock2
import HandS.Dict
import HandS.WordsList
import HandS.Text
import PyProof.ListStr
import HandS.TupLe
import HandS.RevTup
import PySem.Challenge.RW_mayrows_k01_whole_texts
set_option Elab.async false
set_option linter.all false
set_option maxRecDepth 100000
set_option maxHeartbeats 4000000
/-! Own classes over KeyError: it is LookupError that makes them. -/
namespace Ks
open PySem PySem.Spec PySem.F HandSPX Builtin Builtin.ObjectAttr
abbrev keyB : List Value := [.type "KeyError", .type "LookupError", .type "Exception", .type "BaseException", .type "object"]
theorem storeKey : StoreFacts "KeyError" keyB "object.__setattr__" "object" := by
  refine { mro := ?mro, slot := ?slot, entry := entry_object_sa, kind := ?kind, split := ?split, hasOwner := ?hasOwner, args := ?args, passes := ?passes }
  case mro => kernel_rfl
  case slot =>
    refine .of (owner := "object") (n := "__setattr__") ?_ ?_ ?_ ?_ ?_ ?_
    · rw [typeLookup_type, builtinLookup_eq_fast]; kernel_rfl
    · decide +kernel
    · decide +kernel
    · decide +kernel
    · first | exact .inl (by decide +kernel) | exact .inr (by decide +kernel)
    · rw [isSubtype_type]; kernel_rfl
  case kind => decide +kernel
  case split => decide +kernel
  case hasOwner => decide +kernel
  case args => exact fun a b c => by unfold argsOk; kernel_rfl
  case passes => exact fun self => by kernel_rfl
section
variable {M : Model} {A : Around} {E : Value → Shared → Prop} {h : Heap} {g : Array GenState} {d : Drawn} {t : Nat} {os : OsState}
variable {nm q : Str} {C N : Addr} {bs bm bmB : List Value} {hdct : Bool} {sn : List Str} {sub : List Value} {ab : Bool} {col : Option Bool} {dd : Option Addr} {k0 k1 k2 k3 k5 : Option Value} {B O newId initId : String}
/-- a class of errors whose maker stands at an elder one, whose facts are told for the elder one's own ancestors -/
theorem check_elder {bmO : List Value} (F : ExcBaseFacts O newId initId bmO) (hO : bm.contains (.type O) = true) {rest : List Value} {Q : Unit → Shared → Prop}
    (hC : h.get? C = some (excClassObj nm q C N bs bm hdct sn sub ab col dd k0 k1 k2 k3 k5 newId)) (hq : Q () ⟨h, g, d, t, os⟩) : wpAny M A (checkBuiltinCall newId ⟨.ref C :: rest, []⟩) Q E ⟨h, g, d, t, os⟩ := by
  have isO : (Value.ref C :: bm).contains (.type O) = true := by rw [List.contains_cons, hO, Bool.or_true]
  have quick := F.noStar
  simp only [checkBuiltinCall, F.newKind, F.newSplit, F.newRow]
  repeat first
    | (refine wpAny_loadPart_at hC ?_)
    | (refine wpAny_isSubtype_exc hC ?_; rw [isO])
    | (refine wpAny_staticBase_exc hC ?_)
    | (refine wpAny_madeBy_exc hC ?_)
    | (simp only [bne_self_eq_false, Bool.false_eq_true, if_false])
    | wp_step
  exact hq
end
section
variable {prog : Program} {w : World} {A : Around} {E : Value → Shared → Prop} {R : Result → Shared → Prop} {h : Heap} {g : Array GenState} {d : Drawn} {t : Nat} {os : OsState}
variable {nm q : Str} {C N : Addr} {bs bm bmO : List Value} {hdct : Bool} {sn : List Str} {sub : List Value} {ab : Bool} {col : Option Bool} {dd : Option Addr} {k0 k1 k2 k3 k5 : Option Value} {O newId initId : String}
theorem new_elder (F : ExcBaseFacts O newId initId bmO) (hO : bm.contains (.type O) = true) (nA : bm.contains (.type "AttributeError") = false) (nN : bm.contains (.type "NameError") = false) {rest : List Value}
    (hC : h.get? C = some (excClassObj nm q C N bs bm hdct sn sub ab col dd k0 k1 k2 k3 k5 newId))
    (hq : R (.ok (.ret (.ref (h.objs.size + 1)))) ⟨(h.push (W.kdv_tup rest)).push (excO C h.objs.size), g, d, t, os⟩) (hrest : rest.length ≤ sizeLine) :
    codeAny (model prog w) A (.builtin newId ⟨.ref C :: rest, []⟩) R ⟨h, g, d, t, os⟩ := by
  have last := F.ends
  have isO : (Value.ref C :: bm).contains (.type O) = true := by rw [List.contains_cons, hO, Bool.or_true]
  have isA : (Value.ref C :: bm).contains (.type "AttributeError") = false := by rw [List.contains_cons, nA] <;> rfl
  have isN : (Value.ref C :: bm).contains (.type "NameError") = false := by rw [List.contains_cons, nN] <;> rfl
  refine codeAny_builtinAt F.entry ?_
  unfold Builtin.«BaseException.__new__»
  refine wpAt_bind ?_
  show wpAt _ _ _ (stack >>= _) _ _ _
  refine wpAt_bind (wpAt_stack fun here under => wpAt_of_wpAny ?_)
  wp_walk
  refine wpAt_of_wpAny ?_
  rw [F.owner]
  repeat first
    | (with_reducible refine wpAny_madeHere_exc F.canon hC ?_)
    | (with_reducible refine wpAny_loadPart_at hC ?_)
    | (with_reducible refine wpAny_isSubtype_exc hC ?_; first | rw [isO] | rw [isA] | rw [isN])
    | wp_step
  show R _ _
  rw [Heap.size_push]
  exact hq
theorem type_elder (F : ExcBaseFacts O newId initId bmO) (hO : bm.contains (.type O) = true) (nA : bm.contains (.type "AttributeError") = false) (nN : bm.contains (.type "NameError") = false) {rest : List Value} {fI : Addr} {Q : PySem.Fin → Shared → Prop}
    (hC : h.get? C = some (excClassObj nm q C N bs bm hdct sn sub ab col dd k0 k1 k2 k3 k5 newId))
    (hi : W.Looks (model prog w) h (typeLookup (.ref C) "__init__") (some (.ref fI))) (hb : ∀ self, W.Looks (model prog w) h (bindSpecial (.ref fI) self) (.ref fI, [self])) (hrest : rest.length ≤ sizeLine)
    (hq : codeAny (model prog w) A (.call (.ref fI) ⟨.ref (h.objs.size + 1) :: rest, []⟩)
      (fun r s' => match r with | .ok (.ret v) => v = .none ∧ Q (.done (.ret (.ref (h.objs.size + 1)))) s' | .ok _ => False | .error e => E e s')
      ⟨(h.push (W.kdv_tup rest)).push (excO C h.objs.size), g, d, t, os⟩) :
    wpAny (model prog w) A (Builtin.«type.__call__» ⟨.ref C :: rest, []⟩) Q E ⟨h, g, d, t, os⟩ := by
  repeat first
    | (with_reducible refine wpAny_loadPart_at hC ?_)
    | (with_reducible refine wpAny_madeBy_exc hC ?_)
    | wp_step
  refine codeAny_call_builtin_code (Code.quiet_builtin _ F.quiet) (check_elder F hO hC ?_)
  refine new_elder F hO nA nN hC ?_ hrest
  show wpAny _ _ _ _ _ _
  have keep : ∀ b o, h.get? b = some o → ((h.push (W.kdv_tup rest)).push (excO C h.objs.size)).get? b = some o := fun b o e => Heap.get?_push_of_some _ (Heap.get?_push_of_some _ e)
  have hC2 := keep _ _ hC
  have made : ((h.push (W.kdv_tup rest)).push (excO C h.objs.size)).get? (h.objs.size + 1) = some (excO C h.objs.size) := by heap_get
  have isC : (Value.ref C :: bm).contains (.ref C) = true := by simp
  have i2 := hi.keeps keep
  have b2 := (hb (.ref (h.objs.size + 1))).keeps keep
  unfold isInstance
  repeat first
    | (with_reducible refine wpAny_loadPart_at made ?_)
    | (with_reducible refine wpAny_isSubtype_exc hC2 ?_; rw [isC])
    | wp_step
  show wpAny _ _ (typeLookup (.ref C) _) _ _ _
  refine i2.at ?_
  refine wpAny_holding (wpAny_bind (b2.at ?_))
  refine wpAny_bind (wpAny_call (codeAny_mono hq fun r s' z => ?_))
  rcases r with e | (v | _ | _ | _) <;> first | exact z | exact z.elim | skip
  obtain ⟨rfl, z⟩ := z
  first
    | exact wpAny_pure (wpAny_pure z)
    | (wp_walk; exact z)
theorem call_elder (F : ExcBaseFacts O newId initId bmO) (hO : bm.contains (.type O) = true) (nA : bm.contains (.type "AttributeError") = false) (nN : bm.contains (.type "NameError") = false) {rest : List Value} {fI : Addr}
    (hC : h.get? C = some (excClassObj nm q C N bs bm hdct sn sub ab col dd k0 k1 k2 k3 k5 newId))
    (hi : W.Looks (model prog w) h (typeLookup (.ref C) "__init__") (some (.ref fI))) (hb : ∀ self, W.Looks (model prog w) h (bindSpecial (.ref fI) self) (.ref fI, [self])) (hrest : rest.length ≤ sizeLine)
    (hq : codeAny (model prog w) (A.under (.builtin "type.__call__" ⟨.ref C :: rest, []⟩)) (.call (.ref fI) ⟨.ref (h.objs.size + 1) :: rest, []⟩) (W.InitBack (h.objs.size + 1) R)
      ⟨(h.push (W.kdv_tup rest)).push (excO C h.objs.size), g, d, t, os⟩) :
    codeAny (model prog w) A (.call (.ref C) ⟨rest, []⟩) R ⟨h, g, d, t, os⟩ := by
  have look := tc_lookup
  have bound := tc_bind (.ref C)
  have isT : (⟨h, g, d, t, os⟩ : Shared).TypeIs (.ref C) "type" := ⟨_, hC, rfl⟩
  refine codeAny_of_tree ?_
  show wpAny _ _ (callAny (.ref C) _) _ _ _
  repeat any_goals first
    | assumption
    | (with_reducible refine wpAny_loadPart_at hC ?_)
    | wp_step
  refine ⟨rfl, ?_⟩
  refine codeAny_call_builtin_at (Code.quiet_builtin _ (by decide +kernel)) entry_typeCall (wpAny_check_type_call_sub hC (type_elder F hO nA nN hC hi hb hrest ?_))
  refine codeAny_mono hq fun r s' z => ?_
  rcases r with e | (v | _ | _ | _) <;> exact z
end
end Ks

/-! Own exception classes over any built-in base, whose __init__ keeps one value. -/
namespace Ks
open PySem PySem.Spec PyProof.Rows L2
open PySem.W (excOver takerIn excTail osa_openX)

/-- what is known of such a class -/
structure ECls (K : PySem.W.Frag) (C : Addr) (B : String) (bmB : List Value) (newId initId : String) : Prop where
  made : ∃ nm q N bs bm sn sub ab col dd k0 k1 k2 k3 k5, K.lookup C = some (excClassObj nm q C N bs bm true sn sub ab col dd k0 k1 k2 k3 k5 newId) ∧ excTail bmB bm = true
  fc : ∃ O bmO, ExcBaseFacts O newId initId bmO ∧ bmB.contains (.type O) = true ∧ bmB.contains (.type "AttributeError") = false ∧ bmB.contains (.type "NameError") = false
  fs : StoreFacts B bmB "object.__setattr__" "object"
  sa : PySem.W.findIn K (.ref C) "__setattr__" = some (some (.builtin "object.__setattr__"))
  eb : PySem.W.subIn K (.ref C) (.type "BaseException") = some true
  ty : PySem.W.typeIn K (.ref C) = some (.type "type")
  kp : PySem.W.keepIn K (.ref C) = true
  hd : PySem.W.hasDictIn K C = true

theorem ECls.over {K : PySem.W.Frag} {C : Addr} {B : String} {bmB : List Value} {newId initId : String} (T : ECls K C B bmB newId initId) : excOver K C bmB = true := by
  obtain ⟨nm, q, N, bs, bm, sn, sub, ab, col, dd, k0, k1, k2, k3, k5, hC, ht⟩ := T.made
  unfold excOver PySem.W.clsIn
  rw [hC]
  show (C == C && excTail bmB bm) = true
  rw [ht, Bool.and_true]
  exact beq_self_eq_true C

theorem taker_none {K : PySem.W.Frag} {C : Addr} {f : Str} (h : PySem.W.findIn K (.ref C) f = some none) : takerIn K C f = some none := by
  unfold takerIn
  rw [h]
  rfl

section
variable {prog : Program} {w : World} {A : Around} {R : Result → Shared → Prop} {s : Shared} {K : PySem.W.Frag} {C x t : Addr} {B newId initId : String} {bmB : List Value}
/-- the first field of a fresh exception -/
theorem first_field {name : Str} {tk : Tok} {v : Value} (T : ECls K C B bmB newId initId) (X : K.In s.heap) (hx : s.heap.get? x = some (PySem.W.excObj C t none .none)) (hf : PySem.W.findIn K (.ref C) name = some none)
    (hq : ∀ h' tk' dx, (∀ b o, b ≠ x → s.heap.get? b = some o → h'.get? b = some o) → s.heap.objs.size ≤ dx → dx ≠ x → h'.get? x = some (PySem.W.excObj C t (some dx) .none) →
      h'.Ns1 dx (fun y => if y = name then some v else none) → R (.ok (.ret .none)) { s with heap := h', toks := tk' }) :
    codeAny (model prog w) A (.call (.builtin "object.__setattr__") ⟨[.ref x, .str name tk, v], []⟩) R s := by
  have lt := Heap.lt_size hx
  have ne : x ≠ s.heap.objs.size := Nat.ne_of_lt lt
  refine osa_openX (od := none) (r := none) T.fs X ⟨hx, rfl, rfl, trivial⟩ T.over (taker_none hf) fun b => ?_
  obtain ⟨cd, hc, hd'⟩ := PySem.W.any_some T.hd
  refine wpAny_bind (wpAny_pure (wpAny_bind (PySem.W.instanceDict_exc hx (PySem.W.looks_clsIn X hc) hd' ?_)))
  show wpAny _ _ (Builtin.ObjectAttr.storeInDict s.heap.objs.size (.str name tk) name v) _ _ _
  have hx1 : (s.heap.push (PySem.W.dictOf [] 0)).get? x = some (PySem.W.excObj C t none .none) := Heap.get?_push_of_some _ hx
  have hx2 : ((s.heap.push (PySem.W.dictOf [] 0)).update x fun o => { o with dict := some s.heap.objs.size }).get? x = some (PySem.W.excObj C t (some s.heap.objs.size) .none) := Heap.get?_update_self _ hx1 rfl
  refine HandSPX.store_in_new ?_ ?_
  · refine ⟨_, #[], _, (Heap.get?_update_ne _ _ _ _ (Ne.symm ne)).trans (Heap.get?_push_size _ rfl), rfl, ?_⟩
    exact ⟨fun e he => absurd he (by simp), fun _ => rfl⟩
  · intro h' tk' hn sb
    refine hq h' tk' s.heap.objs.size (fun b o hb ho => ?_) (Nat.le_refl _) (Ne.symm ne) ((sb.2 x ne).trans hx2) hn
    have hbs : b ≠ s.heap.objs.size := Nat.ne_of_lt (Heap.lt_size ho)
    exact (sb.2 b hbs).trans ((Heap.get?_update_ne _ _ _ _ hb).trans (Heap.get?_push_of_some _ ho))
end
end Ks

namespace Ks
open PySem PySem.Spec L2
open PyProof.Rows hiding St

section
variable {X : Cx} {C : Addr} {B newId initId : String} {bmB : List Value} {f : Str}
/-- self.f = e within such an __init__ -/
def tKeep (C : Addr) (f : Str) (to te : TE) : TS := fun D σ H => te σ H fun y H1 => to σ H1 fun x H2 => ∃ a, x = .ref a ∧ H2 a = some (exo a C none) ∧
  ∀ dx, H2 dx = none → dx ≠ a → D.nx σ (upd (upd H2 dx (exd dx [(f, y)])) a (exo a C (some dx)))

theorem keep_inv {pins : List (Addr × Obj)} {σ : St} {H : Hp} {s : Shared} {a : Addr} {y : V} {u : Value} {Q : Unit → Shared → Prop} {E : Value → Shared → Prop} {A : Around} (T : ECls X.K C B bmB newId initId) (I : Inv X pins σ H s)
    (ea : H a = some (exo a C none)) (hno : PySem.W.findIn X.K (.ref C) f = some none) (ry : RelV y u)
    (go : ∀ dx s', H dx = none → dx ≠ a → Inv X pins σ (upd (upd H dx (exd dx [(f, y)])) a (exo a C (some dx))) s' → Q () s') :
    wpAny (model X.prog X.w) A (setAttr (.ref a) f u) Q E s := by
  obtain ⟨t1, ho⟩ := exo_at I.hok ea
  refine PySem.W.set_plain I.kIn (ox := PySem.W.excObj C t1 none .none) (od := none) ⟨ho, rfl, rfl, trivial⟩ T.sa ?_
  refine first_field T I.kIn ho hno (fun h' tk dx keep fresh ne ex ns => ?_)
  have free := I.hok.fresh fresh
  have old : ∀ {b : Addr} {o : Obj}, s.heap.get? b = some o → b ≠ dx := fun {b o} q => Nat.ne_of_lt (Nat.lt_of_lt_of_le (Heap.lt_size q) fresh)
  have off : ∀ {b : Addr}, H b = none → b ≠ a := fun {b} n z => by
    subst z
    rw [ea] at n
    exact nomatch n
  have U : Un X.fs [] H (upd (upd H dx (exd dx [(f, y)])) a (exo a C (some dx))) s.heap h' := by
    refine ⟨fun b o q n _ _ => keep b o (off n) q, fun b o q n _ _ => ⟨o.slots, keep b o (off n) q⟩, fun b o q n _ => ?_, fun b o q _ => ?_, fun b xs q => ?_, fun b o v q => ?_, fun b ps q => ?_⟩
    · rw [upd_ne (off n), upd_ne (old q)]
      exact n
    · by_cases hb : b = a
      · subst hb
        exact ⟨_, ex⟩
      · exact ⟨o, keep b o hb q⟩
    · rw [upd_ne (at_ne ea q exo_tup), upd_ne (ne_of_none q free)]
      exact q
    · rw [upd_ne (at_ne ea q exo_frz), upd_ne (ne_of_none q free)]
      exact q
    · refine ⟨#[], ?_⟩
      rw [upd_ne (at_ne ea q exo_tbl), upd_ne (ne_of_none q free), q]
      simp
  refine go dx _ free ne (I.un (t' := tk) U fun b o q => ?_)
  by_cases hb : b = a
  · subst hb
    rw [upd_same] at q
    cases q
    exact exo_ok ex
  · rw [upd_ne hb] at q
    by_cases hd : b = dx
    · subst hd
      rw [upd_same] at q
      cases q
      exact exd_ok ns (relO_put (fs := []) ry fun _ => True.intro)
    · rw [upd_ne hd] at q
      have na : ∀ {c : Addr}, H c = some (.own b) → c ≠ a := fun {c} hc => at_ne ea hc exo_own
      refine (I.hok b o q).stay (fun c v hc z => keep c v ?_ z) (fun c hc => ?_) (fun c xs hc => ?_)
      · rcases hc with rfl | hc
        · exact hb
        · exact na hc
      · rw [upd_ne (na hc), upd_ne (ne_of_none hc free)]
        exact hc
      · rw [upd_ne (at_ne ea hc exo_tup), upd_ne (ne_of_none hc free)]
        exact hc

theorem ps_keep {o e : Expr} {to te : TE} {p' pos : Pos} (T : ECls X.K C B bmB newId initId) (hno : PySem.W.findIn X.K (.ref C) f = some none) (ho : PE X o to) (he : PE X e te)
    (hs : swapsWith e (some (.Attribute o f p')) pos.line X.env = pure false := by rfl) : PS X (.Assign [.Attribute o f p'] e pos) (tKeep C f to te) := by
  constructor
  intro pins s σ H D I h
  refine plainObj_wpAny_Assign_Attribute (thn (he.run pins s σ H _ I h) ?_) hs
  rintro v s1 ⟨y, H1, I1, r1, q1⟩
  refine thn (ho.run pins s1 σ H1 _ I1 q1) ?_
  rintro u s2 ⟨x, H2, I2, r2, a, ex, ea, q⟩
  subst ex
  cases (show u = Value.ref a from r2)
  exact keep_inv T I2 ea hno r1 fun dx s' n ne J => ⟨σ, _, J, q dx n ne⟩

/-- the promise of such an __init__ -/
def spKeep (C : Addr) (f : Str) : Sp := fun vs H Q _ => ∃ a y, vs = [.ref a, y] ∧ H a = some (exo a C none) ∧ ∀ dx, H dx = none → dx ≠ a → Q .non (upd (upd H dx (exd dx [(f, y)])) a (exo a C (some dx)))

/-- C(e): an exception that keeps e's value -/
def tMade (C : Addr) (f : Str) (ta : TA) : St → Hp → XK → Prop := fun σ H Q => ta σ H fun vs H1 => ∃ y, vs = [y] ∧ ∀ d, H1 d = none → Q (.ref C) (some d) (upd H1 d (.xd [(f, y)]))

theorem gone_eq {H : Hp} {a d : Addr} {u v w : HO} {z : HO} (ha : H a = none) (hd : d ≠ a) : upd (del (upd (upd (upd H a z) d u) a v) a) d w = upd H d w := by
  funext b
  by_cases h1 : b = d
  · rw [h1, upd_same, upd_same]
  · rw [upd_ne h1, upd_ne h1]
    by_cases h2 : b = a
    · rw [h2, del_same, ha]
    · rw [del_ne h2, upd_ne h2, upd_ne h1, upd_ne h2]

theorem pmk_keep {CX : CXT} {x : Str} {fI : Addr} {k : Nat} {fd : FuncData} {ps : List Str} {e : Expr} {ta : TA} {p pos : Pos} (T : ECls X.K C B bmB newId initId) (iC : PySem.W.findIn X.K (.ref C) "__init__" = some (some (.ref fI)))
    (tI : PySem.W.typeIn X.K (.ref fI) = some (.type "function")) (F1 : FnOk X.prog X.w X.K X.mg X.base CX k fI fd ps (spKeep C f)) (hr : Room (k + 1) X.A) (hb : Binds X.K fd ps []) (hx : Passes CX X (fun _ _ _ => False))
    (hg : Gl X x) (hm : X.mg x = some (.ref C)) (ha : PA X [e] ta) (hdb : (x == ("__debug__" : Str)) = false := by decide)
    (hst : starEach [e] X.env = (false, eval e X.env) :: starEach [] X.env := by rfl) (hpl : (backTo pos (starEach [] X.env)).any (·.1) = false := by rfl) :
    PMk X (.Call (.Name x p) [e] [] pos) (tMade C f ta) := by
  intro pins s σ H Q I h
  obtain ⟨nm, q, N, bs, bm, sn, sub, ab, col, dd, k0, k1, k2, k3, k5, hC, ht⟩ := T.made
  have hT : ∀ Y : String, bm.contains (.type Y) = bmB.contains (.type Y) := fun Y => PySem.W.excTail_contains Y bm ht
  refine wpAny_Call_Name_kw (ld_glob I hg hm ?_ hdb)
  refine PySem.W.callWith_K (h₀ := X.base) I.ok.mod.kin T.kp (thn (ha.run pos pins s σ H _ I h) ?_) hst hpl
  rintro us s1 ⟨vs, H1, I1, r1, y, ev, q1⟩
  subst ev
  refine ⟨I1.kIn, ?_⟩
  show wpAny _ _ (call (.ref C) us) _ _ _
  obtain ⟨hp, g, dr, tk, os⟩ := s1
  have sz : hp.objs.size ≤ hp.objs.size + 1 := Nat.le_succ _
  have hn : H1 (hp.objs.size + 1) = none := I1.hok.fresh sz
  have kk : ∀ b o, hp.get? b = some o → ((hp.push (PySem.W.kdv_tup us)).push (HandSPX.excO C hp.objs.size)).get? b = some o := fun b o e => Heap.get?_push_of_some _ (Heap.get?_push_of_some _ e)
  have at1 : ((hp.push (PySem.W.kdv_tup us)).push (HandSPX.excO C hp.objs.size)).get? (hp.objs.size + 1) = some (HandSPX.excO C hp.objs.size) := by heap_get
  have I2 := I1.laid (t' := tk) (a := hp.objs.size + 1) (o := exo (hp.objs.size + 1) C none) (h' := (hp.push (PySem.W.kdv_tup us)).push (HandSPX.excO C hp.objs.size)) kk sz (exo_ok at1)
  have r2 : Vals [V.ref (hp.objs.size + 1), y] (Value.ref (hp.objs.size + 1) :: us) := .cons rfl r1
  have hsp : spKeep C f [V.ref (hp.objs.size + 1), y] (upd H1 (hp.objs.size + 1) (exo (hp.objs.size + 1) C none))
      (fun v H2 => v = .non ∧ ∃ d, H2 (hp.objs.size + 1) = some (exo (hp.objs.size + 1) C (some d)) ∧ H2 d = some (exd d [(f, y)]) ∧ H1 d = none ∧ Q (.ref C) (some d) (upd (del H2 (hp.objs.size + 1)) d (.xd [(f, y)]))) (fun _ _ _ => False) := by
    refine ⟨_, y, rfl, upd_same, fun d hd ne => ⟨rfl, d, upd_same, ?_, ?_, ?_⟩⟩
    · rw [upd_ne ne, upd_same]
    · rw [upd_ne ne] at hd
      exact hd
    · rw [gone_eq hn ne]
      refine q1 d ?_
      rw [upd_ne ne] at hd
      exact hd
  have hl : (Value.ref (hp.objs.size + 1) :: us).length = ps.length := by
    rw [← F1.len _ _ _ _ hsp, ← r2.length]
  have us1 : us.length ≤ sizeLine := by
    rw [← Paired.length r1, sizeLine_eq]
    exact (by decide : 1 ≤ 16777216)
  have bb := hb _ (Value.ref (hp.objs.size + 1) :: us) I2.kIn (by rw [List.append_nil]; exact hl)
  rw [List.append_nil] at bb
  obtain ⟨O, bmO, fc, hO, nA, nN⟩ := T.fc
  refine wpAny_call (call_elder fc ((hT O).trans hO) ((hT _).trans nA) ((hT _).trans nN) (I1.kIn _ _ hC) (PySem.W.looks_findIn I1.kIn iC) (fun self => PySem.W.bind_fn I1.kIn self tI) us1
    (codeAny_mono (F1.run _ X.stack _ _ ⟨Value.ref (hp.objs.size + 1) :: us, []⟩ (Value.ref (hp.objs.size + 1) :: us) _ _ (fun _ _ _ => False) (hr.make C us []) (I2.env0.make C us []) bb r2 hsp) fun r s' hq => ?_))
  cases r with
  | error er => exact hx pins σ _ _ er s' I2 hq
  | ok fl =>
    cases fl with
    | next => exact hq.elim
    | brk => exact hq.elim
    | cont => exact hq.elim
    | ret u =>
      obtain ⟨v, H2, o2, b2, un2, hok2, rv, ev, d, ea, ed, hd1, q2⟩ := hq
      subst ev
      obtain ⟨h2, g2, d2, t2, o3⟩ := s'
      exact ⟨rv, mk_end (raises_own T.eb T.ty) I1 sz kk un2 hok2 o2 b2 ea ed hd1 q2⟩
end
end Ks

/-! try with several clauses, each with a name or without one. -/
namespace Ks
open PySem PySem.Spec L2
open PyProof.Rows hiding St

/-- behind a clause with a name the slot is empty -/
def endsAs (i : Nat) (D : Ends) : Ends := { nx := fun σ' H' => D.nx (σ'.set i none) H', rt := D.rt, bk := fun σ' H' => D.bk (σ'.set i none) H', ct := fun σ' H' => D.ct (σ'.set i none) H' }
/-- a clause: its class, the slot of its name, its suite -/
structure Clause where
  cls : Value
  slot : Option Nat
  suite : Addr → Value → Option Addr → TS
def Clause.wish (k : Clause) (a : Addr) (cls : Value) (d : Option Addr) (D : Ends) (σ : St) (H : Hp) : Prop := match k.slot with
  | none => k.suite a cls d D σ H
  | some i => k.suite a cls d (endsAs i D) (σ.set i (some (.ref a))) H
def wCatch (K : PySem.W.Frag) (Wout : WX) (D : Ends) : List Clause → WX
  | [] => Wout
  | k :: r => fun cls d σ H => ∃ b, PySem.W.exmOne K cls k.cls = some b ∧ (b = true → ∀ a, H a = none → k.wish a cls d D σ H) ∧ (b = false → wCatch K Wout D r cls d σ H)

inductive ClausesOk (X : Cx) : List ExceptHandler → List Clause → Prop
  | nil : ClausesOk X [] []
  | bare {x : Str} {c : Value} {ts : Addr → Value → Option Addr → TS} {b : Stmt} {bs : List Stmt} {np pp : Pos} {hs : List ExceptHandler} {l : List Clause} (nm : Names X x c)
      (su : ∀ (a : Addr) (oe : Obj) (cls : Value) (d : Option Addr) (pn : List (Addr × Obj)), Zc cls d oe → (∃ vs, oe.data = .fields vs) → PSs (X.suite a ((a, oe) :: pn)) (b :: bs) (ts a cls d))
      (more : ClausesOk X hs l) : ClausesOk X (.ExceptHandler (some (.Name x np)) none (b :: bs) pp :: hs) (⟨c, none, ts⟩ :: l)
  | named {x n : Str} {i : Nat} {c : Value} {ts : Addr → Value → Option Addr → TS} {b : Stmt} {bs : List Stmt} {np pp : Pos} {hs : List ExceptHandler} {l : List Clause} (nm : Names X x c)
      (hi : X.N[i]? = some n) (loc : X.env.kindOf n = some .local)
      (su : ∀ (a : Addr) (oe : Obj) (cls : Value) (d : Option Addr) (pn : List (Addr × Obj)), Zc cls d oe → (∃ vs, oe.data = .fields vs) → PSs (X.suite a ((a, oe) :: pn)) (b :: bs) (ts a cls d))
      (more : ClausesOk X hs l) : ClausesOk X (.ExceptHandler (some (.Name x np)) (some n) (b :: bs) pp :: hs) (⟨c, some i, ts⟩ :: l)

section
variable {X : Cx} {body : List Stmt} {h0 : ExceptHandler} {hr : List ExceptHandler} {l : List Clause} {pos : Pos} {tb : WX → TS} {Wout : WX}
theorem ps_catch (stk : X.stack = X.env :: X.outer) (fra : X.env.frame = some X.env.locals) (nd : X.N.Nodup) (tk : Takes X Wout)
    (hb : ∀ (W : WX) (pn : List (Addr × Obj)) (xe : Value → Shared → Prop), Takes (X.tr pn xe) W → PassesOwn (model X.prog X.w) X.A X.env xe → PSs (X.tr pn xe) body (tb W))
    (hk : ClausesOk X (h0 :: hr) l) : PS X (.Try body (h0 :: hr) [] [] pos) (fun D σ H => tb (wCatch X.K Wout D l) D σ H) := by
  constructor
  intro pins s σ H D I h
  have ok := I.ok
  have frs1 : X.A.frames = some (X.env :: X.outer) := by rw [ok.frames, stk]
  refine wpAny_Try_except ?_
  let xe1 : Value → Shared → Prop := fun e z1 => wpAny (model X.prog X.w) X.A (noteFrame e X.env) (fun _ z2 => wpAny (model X.prog X.w) X.A (setFlight e none) (fun _ z3 =>
    wpAny (model X.prog X.w) X.A (handleBy e X.env (h0 :: hr)) (SP X pins D) X.xe z3) X.xe z2) X.xe z1
  refine wpAny_mono ((hb (wCatch X.K Wout D l) (X.pn ++ pins) xe1 ?_ PassesOwn.looking).run [] s σ H D (I.toTry _) h) (fun f s1 hsp => ?_) (fun _ _ he => he)
  · intro u s' xx
    obtain ⟨a, B0, sI, pins1, σ1, H1, cls, d, rfl, J0, nb, up, sky, na, os, ag, w⟩ := xx
    have J : Inv X pins σ1 H1 sI := J0.ofTry ok
    rw [show (X.tr (X.pn ++ pins) xe1).stack = X.env :: X.outer from stk] at sky
    show wpAny (model X.prog X.w) X.A (noteFrame (.ref a) X.env) _ _ _
    refine Sky.land Zc.steady frs1 fra sky fun h3 fl3 up3 => ?_
    have J3 : Inv X pins σ1 H1 { s' with heap := h3 } := J.landed nb fl3.1 (up.trans up3) os ag
    obtain ⟨oe3, vs3, he3, hz3, hd3⟩ := fl3.there
    have notIn : a ∉ X.env.locals :: X.fs := fun hm => by
      have hm2 : a ∈ frs (X.env :: X.outer) := by
        unfold frs
        rw [List.filterMap_cons, fra]
        exact hm
      obtain ⟨_, o1, e1, hnf⟩ := fl3.2.2.1.mem hm2
      rw [he3] at e1
      cases e1
      exact hnf _ hd3
    have nL : a ≠ X.env.locals := fun z => notIn (z ▸ List.mem_cons_self)
    have nF : a ∉ X.fs := fun z => notIn (List.mem_cons_of_mem _ z)
    have S3 := J3.suite he3 hd3 na nL nF
    have LT : PySem.W.Looks (model X.prog X.w) h3 (typeOf (.ref a)) cls := fun A Q E s k q => wpAny_typeOf_ref (k _ _ he3) (by rw [hz3.1]; exact q)
    have named : ∀ {x : Str} {c : Value} {np : Pos} {Q : Value → Shared → Prop} {E : Value → Shared → Prop}, Names X x c → Q c { s' with heap := h3 } →
        wpAny (model X.prog X.w) (X.A.mark (some (.ref a))) (eval (.Name x np) X.env) Q E { s' with heap := h3 } := fun {x c np Q E} nm q => by
      obtain ⟨hg, hdbg, hm | ⟨hm, hv, hnn⟩⟩ := nm
      · exact ld_glob (X := X.suite a ((a, oe3) :: (X.pn ++ pins))) S3 hg hm q hdbg
      · exact ld_blt (X := X.suite a ((a, oe3) :: (X.pn ++ pins))) S3 hg hm hv q hnn hdbg
    have go : ∀ {hs2 : List ExceptHandler} {l2 : List Clause}, ClausesOk X hs2 l2 → wCatch X.K Wout D l2 cls d σ1 H1 →
        wpAny (model X.prog X.w) X.A (handleBy (.ref a) X.env hs2) (SP X pins D) X.xe { s' with heap := h3 } := by
      intro hs2 l2 hk2
      induction hk2 with
      | nil =>
        intro w
        refine wpAny_handleBy_nil ?_
        obtain ⟨_, _, _, oe, vs, T, oT, ts', he, hz, hd, h1, hrT⟩ := id fl3
        unfold PySem.passOn
        refine wpAny_bind (wpAny_field he hd h1 ?_)
        rw [if_neg (by simp)]
        have out : wpAny (model X.prog X.w) X.A (setFlight (.ref a) X.env.frame) (fun _ z4 => wpAny (model X.prog X.w) X.A (throw (.ref a) : Sem Flow) (SP X pins D) X.xe z4) X.xe { s' with heap := h3 } := by
          rw [fra]
          refine HandSPX.setFlight_upZ fl3 fun h4 hh4 up4 => wpAny_throw (tk _ _ ?_)
          exact ⟨a, B0, sI, pins, σ1, H1, cls, d, rfl, J, nb, (up.trans up3).trans up4, .inr (.inr (by rw [stk]; exact hh4)), na, os, ag, w⟩
        first
          | exact wpAny_bind (wpAny_pure (wpAny_bind out))
          | exact wpAny_bind out
      | @bare x c ts b bs np pp hs3 l3 nm su more ih =>
        intro w
        obtain ⟨t, ht, yes, no⟩ := w
        have LM := PySem.W.exm_one (M := model X.prog X.w) J3.kIn LT ht
        refine wpAny_handleBy_cons (codeAny_handlers_test (named nm (LM.here ?_))) (by intro q; cases q)
        cases t with
        | false =>
          show wpAny _ X.A (handleBy (.ref a) X.env hs3) _ _ _
          exact ih (no rfl)
        | true =>
          refine codeAny_handlers_suite ?_
          refine HandSPX.lands_againZ fl3 fun h4 fl4 up4 => ?_
          have J4 : Inv X pins σ1 H1 { s' with heap := h4 } := J.landed nb fl4.1 ((up.trans up3).trans up4) os ag
          obtain ⟨oe4, vs4, he4, hz4, hd4⟩ := fl4.there
          have S4 := J4.suite he4 hd4 na nL nF
          refine wpAny_mono ((su a oe4 cls d (X.pn ++ pins) hz4 ⟨_, hd4⟩).run [] _ _ H1 _ S4 (yes rfl a na)) (fun f s6 hsp => ?_) (fun _ _ z => z.elim)
          cases f with
          | next => exact hsp.elim fun σ6 z => z.elim fun H6 z => ⟨_, _, z.1.unsuite ok, z.2⟩
          | brk => exact hsp.elim fun σ6 z => z.elim fun H6 z => ⟨_, _, z.1.unsuite ok, z.2⟩
          | cont => exact hsp.elim fun σ6 z => z.elim fun H6 z => ⟨_, _, z.1.unsuite ok, z.2⟩
          | ret u => exact hsp.elim fun v6 z => z.elim fun σ6 z => z.elim fun H6 z => ⟨_, _, _, z.1.unsuite ok, z.2.1, z.2.2⟩
      | @named x n i c ts b bs np pp hs3 l3 nm hi loc su more ih =>
        intro w
        obtain ⟨t, ht, yes, no⟩ := w
        have LM := PySem.W.exm_one (M := model X.prog X.w) J3.kIn LT ht
        refine wpAny_handleBy_cons (codeAny_handlers_test (named nm (LM.here ?_))) (by intro q; cases q)
        cases t with
        | false =>
          show wpAny _ X.A (handleBy (.ref a) X.env hs3) _ _ _
          exact ih (no rfl)
        | true =>
          refine codeAny_handlers_suite_as ?_
          refine HandSPX.lands_againZ fl3 fun h4 fl4 up4 => ?_
          have J4 : Inv X pins σ1 H1 { s' with heap := h4 } := J.landed nb fl4.1 ((up.trans up3).trans up4) os ag
          obtain ⟨oe4, vs4, he4, hz4, hd4⟩ := fl4.there
          have S4 := J4.suite he4 hd4 na nL nF
          refine store_ok (X := X.suite a ((a, oe4) :: (X.pn ++ pins))) (v := .ref a) S4 nd hi (.inl loc) rfl (fun s5 S5 => ?_) (.inr loc)
          refine wpAny_mono ((su a oe4 cls d (X.pn ++ pins) hz4 ⟨_, hd4⟩).run [] s5 _ H1 _ S5 (yes rfl a na)) (fun f s6 hsp => ?_) (fun _ _ z => z.elim)
          have done : ∀ {σ6 : St} {H6 : Hp} {Q : Shared → Prop}, Inv (X.suite a ((a, oe4) :: (X.pn ++ pins))) [] σ6 H6 s6 → (∀ s7, Inv X pins (σ6.set i none) H6 s7 → Q s7) →
              wpAny (model X.prog X.w) X.A (do bindName X.env n .none; unbindBehindTheSuite X.env n pp) (fun _ s7 => Q s7) X.xe s6 := fun {σ6 H6 Q} S6 hq => gone_ok (S6.unsuite ok) nd hi loc hq
          cases f with
          | next => exact hsp.elim fun σ6 z => z.elim fun H6 z => done z.1 fun s7 J7 => ⟨_, _, J7, z.2⟩
          | brk => exact hsp.elim fun σ6 z => z.elim fun H6 z => done z.1 fun s7 J7 => ⟨_, _, J7, z.2⟩
          | cont => exact hsp.elim fun σ6 z => z.elim fun H6 z => done z.1 fun s7 J7 => ⟨_, _, J7, z.2⟩
          | ret u => exact hsp.elim fun v6 z => z.elim fun σ6 z => z.elim fun H6 z => done z.1 fun s7 J7 => ⟨_, _, _, J7, z.2.1, z.2.2⟩
    exact go hk w
  · cases f with
    | next => exact hsp.elim fun σ6 z => z.elim fun H6 z => wpAny_execs_nil ⟨_, _, z.1.ofTry ok, z.2⟩
    | brk => exact hsp.elim fun σ6 z => z.elim fun H6 z => ⟨_, _, z.1.ofTry ok, z.2⟩
    | cont => exact hsp.elim fun σ6 z => z.elim fun H6 z => ⟨_, _, z.1.ofTry ok, z.2⟩
    | ret u => exact hsp.elim fun v6 z => z.elim fun σ6 z => z.elim fun H6 z => ⟨_, _, _, z.1.ofTry ok, z.2.1, z.2.2⟩
end
end Ks

/-! repr of data, where nothing on the stack is being shown. -/
namespace Ks
open PySem PySem.Spec L2
open PyProof.Rows hiding St

def keyD : Key → PyData
  | .inl i => .int i
  | .inr x => .str x
def flatD : V → Option PyData
  | .non => some .none
  | .bl b => some (.bool b)
  | .int i => some (.int i)
  | .str x => some (.str x)
  | _ => none
/-- a dict of flat entries -/
inductive FlatKv : List (Key × V) → List (PyData × PyData) → Prop
  | nil : FlatKv [] []
  | cons {k : Key} {v : V} {d : PyData} {r : List (Key × V)} {ds : List (PyData × PyData)} : flatD v = some d → FlatKv r ds → FlatKv ((k, v) :: r) ((keyD k, d) :: ds)
/-- data without dicts, or one such dict -/
def Shows (K : PySem.W.Frag) (H : Hp) (x : V) (d : PyData) : Prop :=
  (Dp K H x d ∧ d.hasDict = false) ∨ ∃ a kvs ds, x = .ref a ∧ H a = some (.dK kvs) ∧ FlatKv kvs ds ∧ d = .dict ds

theorem flat_reads {h : Heap} {v : V} {d : PyData} {u : Value} (e : flatD v = some d) (r : RelV v u) : Reads h u d [] := by
  cases v with
  | non => cases e; cases r; exact .none
  | bl b => cases e; cases r; exact .bool b
  | int i => cases e; obtain ⟨t, rfl⟩ := r; exact .int i t
  | str x => cases e; obtain ⟨t, rfl⟩ := r; exact .str x t
  | byt b => cases e
  | flt b => cases e
  | ref a => cases e
  | ty n => cases e
theorem key_reads {h : Heap} {k : Key} {u : Value} (e : keyIs k u = true) : Reads h u (keyD k) [] := by
  rcases keyIs_shape e with ⟨i, t, rfl, rfl⟩ | ⟨x, t, rfl, rfl⟩
  · exact .int i t
  · exact .str x t
theorem kv_reads {P : Program} {w : World} {h : Heap} : ∀ {kvs : List (Key × V)} {vs : List (Key × Value)} {es : List DictEntry} {ds : List (PyData × PyData)}, KV kvs vs → Pairs (mixKind P w) es vs → FlatKv kvs ds →
    ReadsAll h (es.map (·.key)) (ds.map (·.1)) [] ∧ ReadsAll h (es.map (·.val)) (ds.map (·.2)) []
  | _, _, _, _, .nil, .nil, .nil => ⟨.nil, .nil⟩
  | _, _, _, _, .cons r rs, .cons hk hv ps, .cons hf fs => by
    obtain ⟨a, b⟩ := kv_reads rs ps fs
    obtain ⟨r1, r2⟩ := r
    simp only at r1 r2
    subst r1
    refine ⟨.cons (as := []) (key_reads hk) a, .cons (as := []) ?_ b⟩
    dsimp only
    rw [hv]
    exact flat_reads hf r2

section
variable {X : Cx}
def rShow (K : PySem.W.Frag) : List V → Hp → VK → Prop := fun xs H Q => ∃ x d, xs = [x] ∧ Shows K H x d ∧ d.showable = true ∧ d.depth ≤ 50 ∧ d.shown.length ≤ sizeLine ∧ Q (.str d.shown) H
theorem call_show (hg : X.A.guards = some []) (hu : X.A.units + 100 < cLine) : CallR X (.builtin "repr") (rShow X.K) := by
  intro pins s σ H xs us Q I r h
  obtain ⟨x, d, rfl, hs, sh, dp, sz, q⟩ := h
  obtain ⟨u, rfl, ru⟩ := vals1 r
  have byRef : ∀ {a : Addr} {as : List Addr}, u = .ref a → Reads s.heap u d as → (d.hasDict = true → sysModules ∉ as) → wpAny (model X.prog X.w) X.A (call (.builtin "repr") [u]) (EP X pins σ Q) X.xe s := by
    intro a as e hr hm
    subst e
    exact repr_of_reads' hr sh hm hg (by omega) (fun _ _ z => z) (fun h' u tk k => ⟨.str d.shown, H, I.kept (t' := tk) k, ⟨_, rfl⟩, q⟩) sz
  rcases hs with ⟨hd, nd⟩ | ⟨a, kvs, ds, rfl, ha, fl, rfl⟩
  · obtain ⟨as, hr⟩ := Dp.reads I d x u hd ru
    cases hd with
    | non => cases ru; exact PySem.P.repr_of_none ⟨.str _, H, I.tok _, ⟨_, rfl⟩, q⟩
    | bl b => cases ru; exact PySem.P.repr_of_bool ⟨.str _, H, I.tok _, ⟨_, rfl⟩, q⟩
    | int i => obtain ⟨t, rfl⟩ := ru; exact PySem.P.repr_of_int (of_decide_eq_true sh) ⟨.str _, H, I.tok _, ⟨_, rfl⟩, q⟩
    | str y => obtain ⟨t, rfl⟩ := ru; exact PySem.P.repr_of_str (hsz := sz) ⟨.str _, H, I.tok _, ⟨_, rfl⟩, q⟩
    | lst h1 h2 => exact byRef (show u = Value.ref _ from ru) hr (PyData.noDict_hsm nd)
    | tup h1 h2 => exact byRef (show u = Value.ref _ from ru) hr (PyData.noDict_hsm nd)
  · obtain ⟨_, nsys, vs, rkv, o, es, ep, ho, hx, hdt, hk, hp, hnd⟩ := (show ObjOk X.prog X.w H s.heap a (.dK kvs) from I.hok a _ ha)
    cases (show u = Value.ref a from ru)
    obtain ⟨ra, rb⟩ := kv_reads (h := s.heap) rkv hp fl
    refine byRef rfl (Reads.dict ho hx.1 hdt ra rb) (fun _ hm => ?_)
    simp only [List.append_nil, List.mem_singleton] at hm
    rw [hm] at nsys
    simp at nsys
end
end Ks

/-! Promises of defs that are called while nothing on the stack is being shown (repr of a list asks who is shown already). -/
namespace Ks
open PySem PySem.Spec L2
open PyProof.Rows hiding St

/-- a def's promise, kept wherever nothing is being shown -/
structure FnG (P : Program) (w : World) (K : PySem.W.Frag) (mg : Str → Option Value) (base : Heap) (CX : CXT) (k : Nat) (f : Addr) (fd : FuncData) (ps : List Str) (sp : Sp) : Prop where
  len : ∀ vs H Q E, sp vs H Q E → vs.length = ps.length
  go : ∀ (A : Around) (outer : List Env) (s : Shared) (H : Hp) (args : Args) (us : List Value) (vs : List V) (Q : VK) (E : XK), Room k A → A.guards = some [] → Env0 P w K mg base A outer s H →
    BindsTo s fd args (ps.zip us) → Vals vs us → sp vs H Q E → codeAny (model P w) A (.call (.ref f) args) (CR CX outer P w H s Q E) s

section
variable {P : Program} {w : World} {K : PySem.W.Frag} {mg : Str → Option Value} {base : Heap} {CX : CXT} {j k : Nat} {f : Addr} {fd : FuncData} {ps : List Str} {sp : Sp}
theorem FnG.ofOk (F : FnOk P w K mg base CX k f fd ps sp) : FnG P w K mg base CX k f fd ps sp := ⟨F.len, fun A outer s H args us vs Q E hr _ => F.run A outer s H args us vs Q E hr⟩
theorem FnG.mono (F : FnG P w K mg base CX j f fd ps sp) (h : j ≤ k) : FnG P w K mg base CX k f fd ps sp := ⟨F.len, fun A outer s H args us vs Q E hr => F.go A outer s H args us vs Q E (hr.mono h)⟩
end

/-- the guards stay in a def's frame -/
theorem guards_deeper {A : Around} {env : Env} (h : A.guards = some []) : (A.deeper env).guards = some [] := h

/-- a def by its body -/
theorem fng_of {CX : CXT} {P : Program} {w : World} {K : PySem.W.Frag} {mg : Str → Option Value} {base : Heap} {k : Nat} {x qual : Str} {st : Stmt} {f : Addr} {fd : FuncData} {N ps : List Str} {sp : Sp} (F : Fun K x qual st f fd) (S : FnScope N ps (defScope st))
    (len : ∀ vs H Q E, sp vs H Q E → vs.length = ps.length)
    (hbody : ∀ (cdv : Value) (A : Around) (outer : List Env) (s : Shared) (H : Hp) (vs : List V) (Q : VK) (E : XK), Room k (A.deeper (envOfC qual (defScope st) s.heap.objs.size f cdv)) → A.guards = some [] → sp vs H Q E →
      ∃ t, PSs (cxOf CX P w K mg base N qual (defScope st) f cdv A outer s H E) (defBody st) t ∧ t { nx := fun _ H' => Q .non H', rt := Q } (start N vs) H) : FnG P w K mg base CX (k + 1) f fd ps sp := by
  obtain ⟨oc, od, kV, doc, pm, an, cdv, ct, osl, rfl, lk, hcd⟩ := F.ex
  refine ⟨len, ?_⟩
  intro A outer s H args us vs Q E hr hG e0 hb r hsp
  have keep := fun b o e => (e0.bs b o e).1
  have par : ∀ y ∈ ps.zip us, (defScope st).names.lookup y.1 = some .local ∨ ((defScope st).names.lookup y.1 = some .cell ∧ ((cellsFrom (s.heap.objs.size + 1) (defScope st).names []).lookup y.1).isSome = true) := by
    rintro ⟨n, v⟩ hy
    have q := S.par n (List.of_mem_zip hy).1
    exact q.imp id fun q => ⟨q, PySem.W.cellsFrom_some _ _ _ (.inl q)⟩
  refine codeAny_call_function hr.depth ((e0.mod.kin.keeps keep) _ _ lk) rfl S.co S.gen rfl (PySem.W.codeRec_of (e0.mod.kin.keeps keep) hcd) (hb _ _ _ _ ?_)
  refine wpAny_newFunctionEnv_cells S.kind par ?_
  intro env he s1 hx
  subst he
  refine ⟨(e0.mod.nolimit.keeps keep).keeps hx.toInCall.keep, codeAny_func ?_⟩
  obtain ⟨t, ht, hq⟩ := hbody cdv A outer s H vs Q E (hr.deeper _) hG hsp
  have I := inv_start (CX := CX) (E := E) (cd := cdv) S hr.hd e0 (len _ _ _ _ hsp) r hx
  refine wpAny_mono (ht.run [] s1 (start N vs) H _ I hq) ?_ (fun _ _ z => z)
  intro fl s' hs
  cases fl with
  | next => exact hs.elim fun σ' z => z.elim fun H' z => ⟨V.non, H', z.1.os, z.1.bare, z.1.base, z.1.hok, rfl, z.2⟩
  | ret u => exact hs.elim fun v z => z.elim fun σ' z => z.elim fun H' z => ⟨v, H', z.1.os, z.1.bare, z.1.base, z.1.hok, z.2.1, z.2.2⟩
  | brk => exact hs.elim fun _ z => z.elim fun _ z => z.2.elim
  | cont => exact hs.elim fun _ z => z.elim fun _ z => z.2.elim

section
variable {X : Cx} {CX : CXT} {k : Nat} {f : Addr} {fd : FuncData} {ps : List Str} {sp : Sp} {E : XK} {x : Str} {p pos : Pos} {e : Expr} {es : List Expr} {t : TA}
/-- f(e, ..) -/
theorem pe_callG (hG : X.A.guards = some []) (F : FnG X.prog X.w X.K X.mg X.base CX k f fd ps sp) (hr : Room k X.A) (hg : Gl X x) (hm : X.mg x = some (.ref f)) (hk : PySem.W.keepIn X.K (.ref f) = true) (hb : Binds X.K fd ps []) (hx : Passes CX X E)
    (ha : PA X (e :: es) t) (hdb : (x == ("__debug__" : Str)) = false := by decide) (hst : starEach (e :: es) X.env = (false, eval e X.env) :: starEach es X.env := by rfl) (hpl : (backTo pos (starEach es X.env)).any (·.1) = false := by rfl) :
    PE X (.Call (.Name x p) (e :: es) [] pos) (tCall sp [] E t) := by
  constructor
  intro pins s σ H Q I h
  refine wpAny_Call_Name_kw (ld_glob I hg hm ?_ hdb)
  refine PySem.W.callWith_K (h₀ := X.base) I.ok.mod.kin hk (thn (ha.run pos pins s σ H _ I h) ?_) hst hpl
  rintro us s1 ⟨vs, H1, I1, r, q⟩
  rw [List.append_nil] at q
  refine ⟨I1.kIn, ?_⟩
  have hl : (us ++ []).length = ps.length := by
    rw [List.append_nil, ← r.length]
    exact F.len _ _ _ _ q
  have b := hb s1 us I1.kIn hl
  rw [List.append_nil] at b
  refine wpAny_call (codeAny_mono (F.go X.A X.stack s1 H1 ⟨us, []⟩ us vs Q E hr hG I1.env0 b r q) ?_)
  intro res s2 hq
  cases res with
  | error er => exact hx pins σ H1 s1 er s2 I1 hq
  | ok fl =>
    cases fl with
    | ret u => exact I1.after hq
    | next => exact hq.elim
    | brk => exact hq.elim
    | cont => exact hq.elim
end

/-- the law's call, its script the one thing that is tracked -/
theorem law_callG {P : Program} {w : World} {K : PySem.W.Frag} {mg mb : Str → Option Value} {CX : CXT} {k : Nat} {fa a : Addr} {fd : FuncData} {x : Str} {sp : Sp} {s1 : Shared} {vs : List Value} {ns : List Int}
    (KX : K.In s1.heap) (hns : s1.heap.Ns mainGlobals mg) (hb : s1.heap.Ns builtinsNs mb) (hbb : ∀ x : Str, x ≠ "__name__" → mb x = bootBuiltins x) (hlim : s1.heap.NoLimit) (hg : s1.gens = #[])
    (ha : s1.heap.get? a = some { cls := .type "list", data := .seq vs.toArray }) (hi : IntsAre vs ns) (hl : ns.length ≤ sizeLine) (hr : Room k callerA)
    (F : ∀ base : Heap, K.In base → base.Ns mainGlobals mg → FnG P w K mg base CX k fa fd [x] sp) (hbind : ∀ (s : Shared) (u : Value), BindsTo s fd ⟨[u], []⟩ [(x, u)])
    (hsp : ∀ H : Hp, Only H → SqL K H a (ns.map V.int) → sp [.ref a] H (fun v _ => v = .bl true) fun _ _ _ => False)
    (hCX : ∀ H e s', CX [] H s1 (fun _ _ _ => False) e s' → False) :
    codeAny (model P w) callerA (.call (.ref fa) ⟨[.ref a], []⟩) (fun r s' => r = .ok (.ret (.bool true)) ∧ OldK s1.heap s'.heap ∧ s'.os = s1.os ∧ AllBare s'.gens) s1 := by
  have rv := vals_ints hi
  have lenV := hi.length
  have core : ∀ H : Hp, Only H → SqL K H a (ns.map V.int) → HOk P w H s1.heap → (∀ b, H b ≠ none → b = a) → (H a ≠ none → K.lookup a = none) →
      codeAny (model P w) callerA (.call (.ref fa) ⟨[.ref a], []⟩) (fun r s' => r = .ok (.ret (.bool true)) ∧ OldK s1.heap s'.heap ∧ s'.os = s1.os ∧ AllBare s'.gens) s1 := by
    intro H hO hS hok hA hK
    have at_a : ∀ {b : Addr} {u : HO}, H b = some u → b = a := fun {b u} q => hA b (by rw [q]; exact fun z => nomatch z)
    have free : ∀ {b : Addr} {o : Obj} {es : Array DictEntry} {ep : Nat}, s1.heap.get? b = some o → o.data = .dict es ep → H b = none := by
      intro b o es ep e d
      cases q : H b with
      | none => rfl
      | some u =>
        rw [at_a q, ha] at e
        cases e
        exact nomatch d
    have ns1 : ∀ {b : Addr} {m : Str → Option Value}, s1.heap.Ns b m → (hidT s1.heap H).Ns b m := fun {b m} ⟨o, es, ep, e, d, r⟩ => ⟨o, es, ep, hidT_get e (free e d), d, r⟩
    have kin : K.In (hidT s1.heap H) := by
      intro b o e
      refine hidT_get (KX b o e) ?_
      cases q : H b with
      | none => rfl
      | some u =>
        have eb := at_a q
        rw [eb] at q e
        rw [hK (by rw [q]; exact fun z => nomatch z)] at e
        cases e
    have lim2 : (hidT s1.heap H).NoLimit := by
      obtain ⟨mc, h1, h2⟩ := hlim
      exact ⟨mc, ns1 h1, h2⟩
    have e0 : Env0 P w K mg (hidT s1.heap H) callerA [] s1 H :=
      ⟨rfl, ⟨kin, ns1 hns, ⟨mb, ns1 hb, hbb⟩, lim2⟩, fun b o e => of_hidT e, Nat.le_of_eq (hidT_size _ _), trivial, fun b z => absurd z List.not_mem_nil, hok, .of_eq hg⟩
    refine codeAny_mono ((F _ kin (ns1 hns)).go callerA [] s1 H ⟨[.ref a], []⟩ [.ref a] [.ref a] _ _ hr rfl e0 (hbind s1 (.ref a)) (.cons rfl .nil) (hsp H hO hS)) ?_
    intro r s' h
    cases r with
    | error e => exact (hCX H e s' h).elim
    | ok fl =>
      cases fl with
      | next => exact h.elim
      | brk => exact h.elim
      | cont => exact h.elim
      | ret u =>
        obtain ⟨v, H', os, bare, un, hok', r', q⟩ := h
        cases (show v = .bl true from q)
        cases (show u = Value.bool true from r')
        refine ⟨rfl, OldK.of_keep ?_, os, bare⟩
        intro b o e
        cases q : H b with
        | none => exact un.keep b o e q List.not_mem_nil List.not_mem_nil
        | some u =>
          rcases hO b with z | ⟨ob, xs, z⟩
          · rw [q] at z
            cases z
          · have e1 := (hok b _ z).1
            have e2 := (hok' b _ (un.frzs b ob _ z)).1
            rw [e] at e1
            cases e1
            exact e2
  cases hk : K.lookup a with
  | some o =>
    have e := KX a o hk
    rw [ha] at e
    cases e
    have sq : SqL K (fun _ => none) a (ns.map V.int) := .inr ⟨_, vs.toArray, _, hk, rfl, rfl, rfl, by rw [List.size_toArray, lenV]; exact hl, by simpa using rv⟩
    exact core (fun _ => none) (fun _ => .inl rfl) sq (fun b u z => nomatch z) (fun b z => absurd rfl z) fun z => absurd rfl z
  | none =>
    have at1 : (fun b => if b = a then some (HO.frz { cls := .type "list", data := .seq vs.toArray } (.lst (ns.map V.int))) else none) a = some (.frz { cls := .type "list", data := .seq vs.toArray } (.lst (ns.map V.int))) := if_pos rfl
    refine core (fun b => if b = a then some (.frz { cls := .type "list", data := .seq vs.toArray } (.lst (ns.map V.int))) else none) ?_ (.inl (.inr ⟨_, at1⟩)) ?_ ?_ fun _ => hk
    · intro b
      by_cases hb : b = a
      · exact .inr ⟨_, _, if_pos hb⟩
      · exact .inl (if_neg hb)
    · intro b u z
      by_cases hb : b = a
      · subst hb
        cases at1.symm.trans z
        exact ⟨ha, by rw [List.length_map]; exact hl, vs, _, rv, ha⟩
      · cases (if_neg hb).symm.trans z
    · intro b z
      by_cases hb : b = a
      · exact hb
      · exact absurd (if_neg hb) z

theorem walk_ofG {l : PySem.W.OpenLaw} {n k : Nat} {q : Program} {loose : List Str} {XP : (Str → Option Value) → Heap → Prop} {YP : World → Heap → Prop} {d : DefRec} {K : Params → PySem.W.Frag} {CX : World → CXT} {sp : World → Sp} {x : Str}
    (hn : l.most = some n) (hn2 : n ≤ sizeLine) (hdf : d.params.defaults = []) (hr : Room k callerA)
    (hY : ∀ (w : World) (h : Heap), YP w h → (K w.params).In h)
    (F : ∀ (w : World) (mg : Str → Option Value) (fa : Addr) (h : Heap), (K w.params).In h → h.Ns mainGlobals mg → mg d.name = some (.ref fa) →
      ∃ fd : FuncData, (∀ (s : Shared) (u : Value), BindsTo s fd ⟨[u], []⟩ [(x, u)]) ∧
        ∀ base : Heap, (K w.params).In base → base.Ns mainGlobals mg → FnG l.prog w (K w.params) mg base (CX w) k fa fd [x] (sp w))
    (hsp : ∀ (w : World) (H : Hp) (a : Addr) (ns : List Int), ns.length ≤ n → Only H → SqL (K w.params) H a (ns.map V.int) → sp w [.ref a] H (fun v _ => v = .bl true) fun _ _ _ => False)
    (hCX : ∀ (w : World) (H : Hp) (s : Shared) (e : Value) (s' : Shared), CX w [] H s (fun _ _ _ => False) e s' → False) :
    PySem.W.WalkO q loose XP YP l.row.toRowW d [] (fun f vs => PySem.call f vs) := by
  refine Att.attach_call hn hdf ?_
  intro w s₀ s₁ mg mb fa o pm cd doc a vs ns G Y ho hd hcd hmg hobj hints hlen hg
  have KX := hY w _ Y
  obtain ⟨fd, hb, hF⟩ := F w mg fa _ KX G.T.g hmg
  exact law_callG KX G.T.g G.T.b G.T.builtins G.T.nolimit hg hobj hints (Nat.le_trans hlen hn2) hr hF hb (fun H hO hS => hsp w H a ns hlen hO hS) fun H e s' => hCX w H s₁ e s'
end Ks

/-! What the laws' texts have in common. -/
namespace Ks
open PySem PySem.Spec L2
open PyProof.Rows hiding St

/-- the built-ins' names that are not given another meaning -/
structure Bx (mg : Str → Option Value) : Prop where
  m_isinstance : mg "isinstance" = none
  m_int : mg "int" = none
  m_bool : mg "bool" = none
  m_str : mg "str" = none
  m_len : mg "len" = none
  m_list : mg "list" = none
  m_range : mg "range" = none
  m_sum : mg "sum" = none
  m_abs : mg "abs" = none
  m_max : mg "max" = none
  m_min : mg "min" = none
  m_repr : mg "repr" = none
  m_zip : mg "zip" = none
/-- a def of the text: its object, its name, how its arguments bind -/
structure Dn (K : PySem.W.Frag) (mg : Str → Option Value) (x : Str) (st : Stmt) (ps : List Str) (f : Addr) (fd : FuncData) : Prop where
  F : Fun K x x st f fd
  g : mg x = some (.ref f)
  b : Binds K fd ps []
/-- an own class of errors over ValueError, made with a message -/
structure OwnE (K : PySem.W.Frag) (mg : Str → Option Value) (x : Str) (C : Addr) : Prop where
  g : mg x = some (.ref C)
  x : PySem.W.excIn K C [.type "ValueError", .type "Exception", .type "BaseException", .type "object"] "ValueError.__new__" = true
  k : PySem.W.keepIn K (.ref C) = true
  b : PySem.W.subIn K (.ref C) (.type "BaseException") = some true
  t : PySem.W.typeIn K (.ref C) = some (.type "type")
/-- an own class of errors that keeps one value -/
structure KeepE (K : PySem.W.Frag) (mg : Str → Option Value) (x f : Str) (C fI : Addr) (fd : FuncData) (ps : List Str) (B : String) (bmB : List Value) (newId initId : String) : Prop where
  T : ECls K C B bmB newId initId
  g : mg x = some (.ref C)
  i : PySem.W.findIn K (.ref C) "__init__" = some (some (.ref fI))
  t : PySem.W.typeIn K (.ref fI) = some (.type "function")
  n : PySem.W.findIn K (.ref C) f = some none
  b : Binds K fd ps []
theorem passZ {X : Cx} : Passes CX0 X (fun _ _ _ => False) := pass0
theorem passO {X : Cx} {W : XK} (tk : Takes X (fun cls d _ H => W cls d H)) : Passes (L2.CX X.prog X.w) X W := passes_call tk fun _ _ _ _ z => z

/-! ### values of any kind -/
inductive AnyV (H : Hp) : V → Prop
  | non : AnyV H .non
  | bl (b : Bool) : AnyV H (.bl b)
  | int (i : Int) : AnyV H (.int i)
  | str (z : Str) : AnyV H (.str z)
  | lst {a : Addr} {xs : List V} : H a = some (.lst xs) → AnyV H (.ref a)
  | tup {a : Addr} {xs : List V} : H a = some (.tup xs) → AnyV H (.ref a)
  | dct {a : Addr} {kvs : List (Key × V)} : H a = some (.dK kvs) → AnyV H (.ref a)
def isI : V → Bool
  | .int _ => true
  | .bl _ => true
  | _ => false
def isB : V → Bool
  | .bl _ => true
  | _ => false
def isS : V → Bool
  | .str _ => true
  | _ => false
theorem AnyV.typed {K : PySem.W.Frag} {H : Hp} {x : V} (h : AnyV H x) : ∃ T, TyX K H x (.type T) ∧ kitB T "int" = some (isI x) ∧ kitB T "bool" = some (isB x) ∧ kitB T "str" = some (isS x) := by
  cases h with
  | non => exact ⟨"NoneType", .base .non, (show kitB "NoneType" "int" = some false by decide +kernel), (show kitB "NoneType" "bool" = some false by decide +kernel), (show kitB "NoneType" "str" = some false by decide +kernel)⟩
  | bl b => exact ⟨"bool", .base (.bl b), (show kitB "bool" "int" = some true by decide +kernel), (show kitB "bool" "bool" = some true by decide +kernel), (show kitB "bool" "str" = some false by decide +kernel)⟩
  | int i => exact ⟨"int", .base (.int i), (show kitB "int" "int" = some true by decide +kernel), (show kitB "int" "bool" = some false by decide +kernel), (show kitB "int" "str" = some false by decide +kernel)⟩
  | str z => exact ⟨"str", .base (.str z), (show kitB "str" "int" = some false by decide +kernel), (show kitB "str" "bool" = some false by decide +kernel), (show kitB "str" "str" = some true by decide +kernel)⟩
  | lst e => exact ⟨"list", .base (.lst e), (show kitB "list" "int" = some false by decide +kernel), (show kitB "list" "bool" = some false by decide +kernel), (show kitB "list" "str" = some false by decide +kernel)⟩
  | tup e => exact ⟨"tuple", .base (.tup e), (show kitB "tuple" "int" = some false by decide +kernel), (show kitB "tuple" "bool" = some false by decide +kernel), (show kitB "tuple" "str" = some false by decide +kernel)⟩
  | dct e => exact ⟨"dict", .base (.dK e), (show kitB "dict" "int" = some false by decide +kernel), (show kitB "dict" "bool" = some false by decide +kernel), (show kitB "dict" "str" = some false by decide +kernel)⟩
/-- an integer, no boolean, in these bounds -/
def isNum (lo hi : Int) : V → Bool
  | .int i => decide (lo ≤ i) && decide (i ≤ hi)
  | _ => false

/-! ### a power of a great number -/
section
variable {X : Cx}
def CPowW (i j : Int) : Prop := 0 ≤ j ∧ (Builtin.Int.intBits i : Int) * j ≤ 2 ^ 27
theorem op_powW : OpR X (binaryOp .Pow) (rI CPowW fun i j => .int (i ^ j.toNat)) := opI fun _ _ _ _ _ _ _ hc q => PyProof.Rows.pow_int hc.1 hc.2 q
end
end Ks

/-! Texts of digits. -/
namespace Ks
open PySem PySem.Spec L2
open PyProof.Rows hiding St

abbrev cl (x : Str) : List Nat := x.cps.toList
theorem str_ext {x y : Str} (h : cl x = cl y) : x = y := by
  obtain ⟨⟨a⟩⟩ := x
  obtain ⟨⟨b⟩⟩ := y
  have h' : a = b := h
  rw [h']
theorem cl_len (x : Str) : (cl x).length = x.length := by
  show x.cps.toList.length = x.cps.size
  exact Array.length_toList

theorem tw_all {α : Type} {p : α → Bool} : ∀ {l : List α}, l.all p = true → l.takeWhile p = l
  | [], _ => rfl
  | a :: r, h => by
    rw [List.all_cons, Bool.and_eq_true] at h
    rw [List.takeWhile_cons, if_pos h.1, tw_all h.2]
theorem tw_lt {α : Type} {p : α → Bool} : ∀ {l : List α}, l.all p = false → (l.takeWhile p).length < l.length
  | [], h => by cases h
  | a :: r, h => by
    rw [List.takeWhile_cons]
    by_cases e : p a = true
    · rw [if_pos e]
      rw [List.all_cons, e, Bool.true_and] at h
      have := tw_lt h
      simp only [List.length_cons]
      omega
    · rw [if_neg e]
      simp
theorem dw_head {α : Type} {p : α → Bool} : ∀ {l : List α}, l.all p = false → ∃ a, a ∈ l.drop (l.takeWhile p).length ∧ p a = false
  | [], h => by cases h
  | a :: r, h => by
    rw [List.takeWhile_cons]
    by_cases e : p a = true
    · rw [if_pos e]
      rw [List.all_cons, e, Bool.true_and] at h
      obtain ⟨x, hx, hp⟩ := dw_head h
      exact ⟨x, by simpa using hx, hp⟩
    · rw [if_neg e]
      exact ⟨a, by simp, by simpa using e⟩

/-- a text stripped of some letters is empty just if it has no others -/
theorem strip_empty (a b : Str) : decide (V.str (Txt.stripChars a b) = V.str ("" : Str)) = (cl a).all fun c => b.cps.contains c := by
  have h0 : ("" : Str) = ⟨#[]⟩ := by decide
  have e : Txt.stripChars a b = PySem.W.stripped b.cps.contains true true a := PySem.W.stripBy_eq _ _ _ _
  rw [e, h0]
  unfold PySem.W.stripped
  simp only [if_true]
  show decide (V.str (Builtin.Str.strSub a (List.takeWhile b.cps.contains (cl a)).length (a.length - (List.takeWhile b.cps.contains (List.drop (List.takeWhile b.cps.contains (cl a)).length (cl a)).reverse).length)) = V.str ⟨#[]⟩) = _
  have hl := cl_len a
  cases q : (cl a).all fun c => b.cps.contains c with
  | true =>
    rw [tw_all q, List.drop_length]
    refine decide_eq_true ?_
    congr 1
    unfold Builtin.Str.strSub
    congr 1
    have hs : a.cps.size = a.length := rfl
    apply Array.eq_empty_of_size_eq_zero
    rw [Array.size_extract]
    simp
    omega
  | false =>
    refine decide_eq_false fun h => ?_
    have h1 := congrArg (fun v => match v with | V.str z => z.cps.size | _ => 0) h
    unfold Builtin.Str.strSub at h1
    simp only [Array.size_extract, List.size_toArray, List.length_nil] at h1
    obtain ⟨x, hx, hp⟩ := dw_head q
    have nall : (List.drop (List.takeWhile b.cps.contains (cl a)).length (cl a)).reverse.all b.cps.contains = false := by
      rw [Bool.eq_false_iff]
      intro z
      rw [List.all_eq_true] at z
      have := z x (List.mem_reverse.mpr hx)
      rw [hp] at this
      cases this
    have h2 := tw_lt nall
    have h3 := tw_lt q
    rw [List.length_reverse, List.length_drop] at h2
    have hs : a.cps.size = a.length := rfl
    omega

/-- a text of digits less than n -/
def alpha (n : Int) : Str := cutS "0123" none (some n)
def txt (n : Int) (z : Str) : Bool := decide (z.length ≤ 200) && (cl z).all fun c => (alpha n).cps.contains c
theorem alpha2 : alpha 2 = ⟨#[48, 49]⟩ := by decide +kernel
theorem alpha4 : alpha 4 = ⟨#[48, 49, 50, 51]⟩ := by decide +kernel
theorem digit_str (r : Nat) (h : r < 4) : Str.ofString (toString (r : Int)) = ⟨#[48 + r]⟩ := by
  match r, h with
  | 0, _ => decide +kernel
  | 1, _ => decide +kernel
  | 2, _ => decide +kernel
  | 3, _ => decide +kernel
theorem join_empty : ∀ ys : List Str, cl (Txt.join ("" : Str) ys) = (ys.map cl).flatten := by
  intro ys
  have h0 : cl ("" : Str) = [] := by decide
  rw [TL.join_eq]
  have := TL.tl_join ("" : Str) ys
  rw [show TL.tl ("" : Str) = [] from h0] at this
  refine this.trans ?_
  show TL.joinL [] (ys.map cl) = _
  generalize ys.map cl = zs
  induction zs with
  | nil => rfl
  | cons a r ih =>
    cases r with
    | nil => simp [TL.joinL]
    | cons b r =>
      show a ++ ([] ++ TL.joinL [] (b :: r)) = _
      rw [ih]
      simp
end Ks

/-! zip of two texts; the order of tuples. -/
namespace Ks
open PySem PySem.Spec L2
open PyProof.Rows hiding St

/-- the signs of two texts, two by two -/
def Itzs (x y : Str) : It :=
  ⟨fun i _ => i < min x.cps.size y.cps.size, fun i H v H' => ∃ T c d, v = .ref T ∧ H T = none ∧ H' = upd H T (.tup [.str ⟨#[c]⟩, .str ⟨#[d]⟩]) ∧ x.cps[i]? = some c ∧ y.cps[i]? = some d, fun i _ => i = min x.cps.size y.cps.size⟩
def StZ (z TI TO i1 i2 : Addr) (x y : Str) (t u : Tok) (i : Nat) (h : Heap) : Prop :=
  IsZip h z TI TO .none ∧ IsTupOf2 h TI (.ref i1) (.ref i2) ∧ (∃ a1 a2, IsTupOf2 h TO a1 a2) ∧ h.IsStrIter i1 (strIterType x) x t i ∧ h.IsStrIter i2 (strIterType y) y u i
theorem turn_zipS {P : Program} {w : World} {K : PySem.W.Frag} {elts : List Expr} {kk : Nat} {tpos : Pos} {z TI TO i1 i2 : Addr} {x y : Str} {t u : Tok} (S : ZipSep2 z TI TO i1 i2 [i1] [i2]) :
    Turn P w K (.Tuple elts kk tpos) (Itzs x y) (z :: TI :: TO :: ([i1] ++ [i2])) z (StZ z TI TO i1 i2 x y t u) where
  mem := List.mem_cons_self
  obj := by
    intro i h st c hc
    obtain ⟨hz, hTI, ⟨a1, a2, hTO⟩, ⟨o1, e1, _, d1⟩, ⟨o2, e2, _, d2⟩⟩ := st
    have e' : c = z ∨ c = TI ∨ c = TO ∨ c = i1 ∨ c = i2 := by simpa using hc
    rcases e' with rfl | rfl | rfl | rfl | rfl
    · exact ⟨_, hz, fun v q => nomatch q⟩
    · exact ⟨_, hTI, fun v q => nomatch q⟩
    · exact ⟨_, hTO, fun v q => nomatch q⟩
    · exact ⟨o1, e1, fun v q => by rw [d1] at q; cases q⟩
    · exact ⟨o2, e2, fun v q => by rw [d2] at q; cases q⟩
  keep := by
    intro i h h' st k
    obtain ⟨hz, hTI, ⟨a1, a2, hTO⟩, ⟨o1, e1, c1, d1⟩, ⟨o2, e2, c2, d2⟩⟩ := st
    exact ⟨k z (by simp) _ hz, k TI (by simp) _ hTI, ⟨a1, a2, k TO (by simp) _ hTO⟩, ⟨o1, k i1 (by simp) o1 e1, c1, d1⟩, ⟨o2, k i2 (by simp) o2 e2, c2, d2⟩⟩
  item := by
    intro X hP hw hK hc i pins s σ H E I hf st hg
    subst hP hw hK
    have hh := I.ok.hd hc
    have W := GoesN.zip2 (elts := elts) (x1 := kk) (pos := tpos) S (Draws.text (prog := X.prog) (w := X.w) (A := X.A.in1) hh i1 x t) (Draws.text (A := X.A.in1) hh i2 y u)
    refine W.goes i s _ E hg st ?_
    rintro v h' tk ⟨T, a, b, rfl, hT, ⟨c, tc, hx, rfl⟩, ⟨d, td, hy, rfl⟩, hIs⟩ st' keep _
    have new : ObjOk X.prog X.w (upd H T (.tup [.str ⟨#[c]⟩, .str ⟨#[d]⟩])) h' T (.tup [.str ⟨#[c]⟩, .str ⟨#[d]⟩]) :=
      ⟨by show 2 ≤ sizeLine; decide, [.str ⟨#[c]⟩ tc, .str ⟨#[d]⟩ td], .cons ⟨tc, rfl⟩ (.cons ⟨td, rfl⟩ .nil), hIs⟩
    have J := I.turnedNew (t' := tk) (ch := z :: TI :: TO :: ([i1] ++ [i2])) (fun b o hb q => keep b o (fun m => hb (by simp only [List.mem_cons, List.not_mem_nil, or_false] at m; rcases m with rfl | rfl | rfl | rfl <;> simp)) q) hf hT new
    refine ⟨.ref T, _, J, rfl, ⟨T, c, d, rfl, I.hok.fresh hT, rfl, hx, hy⟩, st', fun b hb => ?_⟩
    obtain ⟨o, ho, _⟩ : ∃ o, s.heap.get? b = some o ∧ ∀ v, o.data ≠ .cell v := by
      obtain ⟨hz, hTI, ⟨a1, a2, hTO⟩, ⟨o1, e1, _, d1⟩, ⟨o2, e2, _, d2⟩⟩ := st
      have e' : b = z ∨ b = TI ∨ b = TO ∨ b = i1 ∨ b = i2 := by simpa using hb
      rcases e' with rfl | rfl | rfl | rfl | rfl
      · exact ⟨_, hz, fun v q => nomatch q⟩
      · exact ⟨_, hTI, fun v q => nomatch q⟩
      · exact ⟨_, hTO, fun v q => nomatch q⟩
      · exact ⟨o1, e1, fun v q => by rw [d1] at q; cases q⟩
      · exact ⟨o2, e2, fun v q => by rw [d2] at q; cases q⟩
    rw [upd_ne (Nat.ne_of_lt (Nat.lt_of_lt_of_le (Heap.lt_size ho) hT))]
    exact (hf b hb).1
  done := by
    intro X hP hw hK hc i pins s σ H E I hf st hg
    subst hP hw hK
    have hh := I.ok.hd hc
    have W := GoesN.zip2 (elts := elts) (x1 := kk) (pos := tpos) S (Draws.text (prog := X.prog) (w := X.w) (A := X.A.in1) hh i1 x t) (Draws.text (A := X.A.in1) hh i2 y u)
    have e : i = min x.cps.size y.cps.size := hg
    subst e
    refine wpAny_mono (W.stops s (fun s1 => Inv X pins σ H s1) E st fun h' tk keep _ => ?_) (fun r s1 q => q) fun _ _ q => q
    exact I.turnedL (t' := tk) (ch := z :: TI :: TO :: ([i1] ++ [i2])) (fun b o hb q => keep b o (fun m => hb (by simp only [List.mem_cons, List.not_mem_nil, or_false] at m; rcases m with rfl | rfl | rfl | rfl <;> simp)) q) hf
  self := fun A i s Q E st h => wpAny_pyIter_zip st.1 h

def iZipS (ta : TA) : TI := fun σ H R => ta σ H fun vs H1 => ∃ x y, vs = [.str x, .str y] ∧ R (Itzs x y) H1
theorem pi_zipS {X : Cx} {e e2 : Expr} {ta : TA} {p pos tpos : Pos} {elts : List Expr} {kk : Nat} (hg : Gl X "zip") (hm : X.mg "zip" = none) (ha : PA X [e, e2] ta)
    (hst : starEach [e, e2] X.env = (false, eval e X.env) :: starEach [e2] X.env := by rfl) (hpl : (backTo pos (starEach [e2] X.env)).any (·.1) = false := by rfl) :
    PI X (.Tuple elts kk tpos) (.Call (.Name "zip" p) [e, e2] [] pos) (iZipS ta) := by
  constructor
  intro pins s σ H R I h
  refine Call_ (ld_blt I hg hm PyProof.Rows.boot_zip (PyProof.Rows.callWith_type1 (thn (ha.run pos pins s σ H _ I h) ?_) hst hpl))
  rintro us s1 ⟨vs, H1, I1, r1, x, y, ex, q⟩
  subst ex
  obtain ⟨u1, u2, rfl, ⟨t, rfl⟩, ⟨u, rfl⟩⟩ := vals2 r1
  refine zip_begins2 (begins_text x t) (begins_text y u) trivial trivial fun h' hz hTI hTO h1 h2 hsz hk => wpAny_pyIter_zip hz ?_
  have I2 : Inv X pins σ H1 { s1 with heap := h' } := I1.kept (t' := s1.toks) hk
  refine ⟨s1.heap.objs.size + 4, _, _, _, H1, rfl, I2, turn_zipS (t := t) (u := u) (zip_sep2 (fp1 := []) (fp2 := []) (by simp) (by simp)), ⟨hz, hTI, ⟨_, _, hTO⟩, ?_, ?_⟩, fun c hc => ?_, q⟩
  · exact ⟨_, h1, rfl, rfl⟩
  · exact ⟨_, h2, rfl, rfl⟩
  · have hle : s1.heap.objs.size ≤ c := by
      have e' : c = s1.heap.objs.size + 4 ∨ c = s1.heap.objs.size + 2 ∨ c = s1.heap.objs.size + 3 ∨ c = s1.heap.objs.size ∨ c = s1.heap.objs.size + 1 := by simpa using hc
      rcases e' with z | z | z | z | z <;> rw [z] <;> first | exact Nat.le_refl _ | exact Nat.le_add_right _ _
    have f := I1.fpOk hle (I1.hok.fresh hle)
    exact f
theorem walk_zipS {x y : Str} {n : Nat} (hn : n = min x.cps.size y.cps.size) : Walk (Itzs x y) n (fun _ => True) (fun i H v H' => ∃ T c d, v = .ref T ∧ H T = none ∧ H' = upd H T (.tup [.str ⟨#[c]⟩, .str ⟨#[d]⟩]) ∧ x.cps[i]? = some c ∧ y.cps[i]? = some d) := by
  subst hn
  exact ⟨fun _ _ hi _ => hi, fun _ _ => rfl, fun _ _ _ _ _ _ y => y⟩

/-- less, of data of one shape -/
def rLtD (K : PySem.W.Frag) : R2 := fun x y H Q => ∃ d e, Dp K H x d ∧ Dp K H y e ∧ PySem.W.alike d e = true ∧ d ≠ .none ∧ d.depth ≤ 60 ∧ Q (.bl (PySem.W.dataLt d e)) H
theorem op_ltD {X : Cx} (hu : X.A.units + 100 < cLine) : OpR X (compareOp .Lt) (rLtD X.K) := by
  intro pins s σ H x y v u Q I rx ry h
  obtain ⟨d, e, hd, he, al, nn, dp, q⟩ := h
  obtain ⟨as, r1⟩ := Dp.reads I d x v hd rx
  obtain ⟨bs, r2⟩ := Dp.reads I e y u he ry
  exact PySem.W.rcLt_alike d e X.A s v u as bs r1 r2 al nn (by have := Nat.min_le_left d.depth e.depth; omega) X.prog X.w _ _ ⟨.bl _, H, I, rfl, q⟩
end Ks

/-! Calls of defs with a star parameter, also under a try. -/
namespace Ks
open PySem PySem.Spec L2
open PyProof.Rows hiding St
section
variable {X : Cx} {CX : CXT} {k : Nat} {f : Addr} {sp : Sp} {E : L2.St → XK} {x : Str} {p pos : Pos} {e : Expr} {es : List Expr} {t : TA}
theorem run_fnRS {pins : List (Addr × Obj)} {σ : L2.St} {H : Hp} {s : Shared} {Q : VK} {us : List Value} {vs : List V} (F : FnR X.prog X.w X.K X.mg X.base CX k f sp) (hr : Room k X.A) (hx : PassesAt CX X σ (E σ)) (I : Inv X pins σ H s) (r : Vals vs us) (q : sp vs H Q (E σ)) :
    wpAny (model X.prog X.w) X.A (call (.ref f) us) (EP X pins σ Q) X.xe s := by
  refine wpAny_call (codeAny_mono (F X.A X.stack s H us vs Q (E σ) hr I.env0 r q) ?_)
  intro res s2 hq
  cases res with
  | error er => exact hx pins H s er s2 I hq
  | ok fl =>
    cases fl with
    | ret u => exact I.after hq
    | next => exact hq.elim
    | brk => exact hq.elim
    | cont => exact hq.elim
/-- f(e, ..) where f has a star parameter -/
theorem pe_callRS (F : FnR X.prog X.w X.K X.mg X.base CX k f sp) (hr : Room k X.A) (hg : Gl X x) (hm : X.mg x = some (.ref f)) (hk : PySem.W.keepIn X.K (.ref f) = true) (hx : ∀ σ, PassesAt CX X σ (E σ))
    (ha : PA X (e :: es) t) (hdb : (x == ("__debug__" : Str)) = false := by decide) (hst : starEach (e :: es) X.env = (false, eval e X.env) :: starEach es X.env := by rfl) (hpl : (backTo pos (starEach es X.env)).any (·.1) = false := by rfl) :
    PE X (.Call (.Name x p) (e :: es) [] pos) (tCallS sp E t) := by
  constructor
  intro pins s σ H Q I h
  refine wpAny_Call_Name_kw (ld_glob I hg hm ?_ hdb)
  refine PySem.W.callWith_K (h₀ := X.base) I.ok.mod.kin hk (thn (ha.run pos pins s σ H _ I h) ?_) hst hpl
  rintro us s1 ⟨vs, H1, I1, r, q⟩
  exact ⟨I1.kIn, run_fnRS F hr (hx σ) I1 r q⟩
theorem pe_callRS0 (F : FnR X.prog X.w X.K X.mg X.base CX k f sp) (hr : Room k X.A) (hg : Gl X x) (hm : X.mg x = some (.ref f)) (hk : PySem.W.keepIn X.K (.ref f) = true) (hx : ∀ σ, PassesAt CX X σ (E σ))
    (hdb : (x == ("__debug__" : Str)) = false := by decide) : PE X (.Call (.Name x p) [] [] pos) (tCallS sp E tNil) := by
  constructor
  intro pins s σ H Q I h
  refine Call_ (ld_glob I hg hm ?_ hdb)
  exact PySem.W.callWith_K0 I.kIn hk (run_fnRS (us := []) F hr (hx σ) I .nil h)
end
theorem passOut {X : Cx} {W : XK} (tk : Takes X (fun cls d _ H => W cls d H)) (σ : L2.St) : PassesAt (L2.CX X.prog X.w) X σ W := fun _ _ _ e s' I c => tk e s' (XE.of_call I (fun _ _ _ h => h) c)
end Ks

/-! The bag of drawn numbers: a list of three ints that each draw writes. -/
namespace Ks
open PySem PySem.Spec L2
open PyProof.Rows hiding St
/-- without what is tracked at b -/
def wo (b : Addr) (H : Hp) : Hp := fun a => if a = b then none else H a
def Bag (b : Addr) (H : Hp) : Prop := ∃ g m c : Int, H b = some (.lst [.int g, .int m, .int c])
/-- the bag is a bag again; all else is as it was -/
def Go (b : Addr) (H H' : Hp) : Prop := Bag b H' ∧ Same (wo b H) (wo b H')
theorem wo_ne {b a : Addr} {H : Hp} (h : a ≠ b) : wo b H a = H a := if_neg h
theorem wo_same (b : Addr) (H : Hp) : Same (wo b H) H := fun a o e => by
  by_cases h : a = b
  · have : wo b H a = none := if_pos h
    rw [this] at e
    cases e
  · rwa [wo_ne h] at e
theorem wo_up {b : Addr} {H H' : Hp} (s : Same H H') : Same (wo b H) (wo b H') := fun a o e => by
  by_cases h : a = b
  · have : wo b H a = none := if_pos h
    rw [this] at e
    cases e
  · rw [wo_ne h] at e ⊢
    exact s a o e
theorem wo_free {b : Addr} {H H' : Hp} (hb : H b = none) (s : Same H H') : Same H (wo b H') := fun a o e => by
  rw [wo_ne (ne_of_none e hb)]
  exact s a o e
theorem Go.refl {b : Addr} {H : Hp} (h : Bag b H) : Go b H H := ⟨h, Same.refl _⟩
theorem Go.trans {b : Addr} {H H1 H2 : Hp} (x : Go b H H1) (y : Go b H1 H2) : Go b H H2 := ⟨y.1, x.2.trans y.2⟩
theorem Go.same {b : Addr} {H H' : Hp} (h : Bag b H) (s : Same H H') : Go b H H' := by
  obtain ⟨g, m, c, e⟩ := h
  exact ⟨⟨g, m, c, s b _ e⟩, wo_up s⟩
theorem Go.at {b a : Addr} {H H' : Hp} {o : HO} (x : Go b H H') (h : a ≠ b) (e : H a = some o) : H' a = some o := by
  have := x.2 a o (by rw [wo_ne h]; exact e)
  rwa [wo_ne h] at this
theorem Go.put {b : Addr} {H H' : Hp} {g m c : Int} (x : Go b H H') : Go b H (upd H' b (.lst [.int g, .int m, .int c])) := by
  refine ⟨⟨g, m, c, upd_same⟩, fun a o e => ?_⟩
  have h : a ≠ b := fun z => by
    have : wo b H a = none := if_pos z
    rw [this] at e
    cases e
  have e1 := x.2 a o e
  rw [wo_ne h] at e1 ⊢
  rw [upd_ne h]
  exact e1
theorem Go.free {b a : Addr} {H H' : Hp} (x : Go b H H') (hb : Bag b H) (h : H' a = none) : H a = none := by
  cases q : H a with
  | none => rfl
  | some o =>
    have hne : a ≠ b := fun z => by
      obtain ⟨g, m, c, e⟩ := x.1
      rw [z, e] at h
      cases h
    rw [x.at hne q] at h
    cases h
/-- something new beside the bag -/
theorem Go.new {b a : Addr} {H H' : Hp} {o : HO} (x : Go b H H') (h : H' a = none) : Go b H (upd H' a o) :=
  x.trans (Go.same x.1 fun c u e => by
    rw [upd_ne (ne_of_none e h)]
    exact e)
/-- something tracked, not the bag, is written -/
theorem Go.set {b a : Addr} {H H' : Hp} {o : HO} (x : Go b H H') (h : H a = none) (hb : Bag b H) : Go b H (upd H' a o) := by
  have hne : a ≠ b := fun z => by
    obtain ⟨g, m, c, e⟩ := hb
    rw [z, e] at h
    cases h
  obtain ⟨⟨g, m, c, e⟩, s⟩ := x
  refine ⟨⟨g, m, c, by rw [upd_ne (Ne.symm hne)]; exact e⟩, fun d u e => ?_⟩
  have hd : d ≠ b := fun z => by
    have : wo b H d = none := if_pos z
    rw [this] at e
    cases e
  have hda : d ≠ a := fun z => by
    rw [wo_ne hd, z, h] at e
    cases e
  have := s d u e
  rw [wo_ne hd] at this ⊢
  rw [upd_ne hda]
  exact this
theorem Bag.ne {b a : Addr} {H : Hp} (hb : Bag b H) (h : H a = none) : a ≠ b := fun z => by
  obtain ⟨g, m, c, e⟩ := hb
  rw [z, e] at h
  cases h
/-! ### the promises of the drawing -/
def spDraw : Sp := fun vs H Q _ => ∃ b t, vs = [.ref b, .int t] ∧ 0 < t ∧ t.natAbs.log2 < 9000 ∧ Bag b H ∧ ∀ r : Nat, (r : Int) < t → ∀ H', Go b H H' → Q (.int r) H'
def spBag (K : PySem.W.Frag) : Sp := fun vs H Q _ => ∃ (a : Addr) (ns : List Int) (k : Int), vs = [.ref a, .int k] ∧ SqL K H a (ns.map V.int) ∧ (0 : Int) ≤ k ∧ ∀ p H', H p = none → Same H H' → Bag p H' → Q (.ref p) H'
def spOneOf : Sp := fun vs H Q _ => ∃ b p xs, vs = [.ref b, .ref p] ∧ Bag b H ∧ H p = some (.lst xs) ∧ p ≠ b ∧ xs ≠ [] ∧ xs.length ≤ 1000 ∧ ∀ x ∈ xs, ∀ H', Go b H H' → Q x H'
end Ks

/-! A generator that rests is left alone by a run that goes through with a dead one in its place. -/
namespace Ks
open PySem
open Sem (wp)
def noGen (fs : List Frame) : Prop := splitAtGen fs = none
theorem noGen_ret {k : Result → Sem PySem.Fin} {h : Option Value} {b : Bool} {l : List Value} {c : Code} {p : Pos} {kp : List Value} {fs : List Frame} : noGen (.ret k h b l c p kp :: fs) ↔ noGen fs := by
  unfold noGen
  simp [splitAtGen]
theorem noGen_gen {g : Nat} {k : GenResult → Sem PySem.Fin} {l : List Value} {c : Code} {p : Pos} {fs : List Frame} : ¬ noGen (.gen g k l c p :: fs) := by
  unfold noGen
  rw [splitAtGen]
  exact fun z => nomatch z
theorem noGen_app : ∀ {as bs : List Frame}, noGen as → noGen bs → noGen (as ++ bs)
  | [], _, _, h => h
  | .ret .. :: as, bs, h1, h2 => noGen_ret.mpr (noGen_app (noGen_ret.mp h1) h2)
  | .gen .. :: as, bs, h1, h2 => absurd h1 noGen_gen
def restOk (x : GenState) : Prop := match x with | .suspended _ _ _ _ fs cl => noGen fs ∧ cl = false | _ => True
def RestOk (gens : Array GenState) : Prop := ∀ (i : Nat) (x : GenState), gens[i]? = some x → restOk x
def endOk (e : End) : Prop := match e with | .susp _ _ _ _ _ _ fs => noGen fs | _ => True
theorem endOk_state {e : End} (h : endOk e) (q : e.quiet = true) : restOk e.genState := by
  cases e with
  | ret r => exact trivial
  | susp v b l k c p fs =>
    refine ⟨h, ?_⟩
    have q' : (!(b || fs.any Frame.guarded)) = true := q
    simpa using q'
theorem RestOk.bare {gens : Array GenState} (h : RestOk gens) : PyProof.Rows.AllBare gens := by
  intro y hy
  obtain ⟨i, hi, e⟩ := Array.getElem_of_mem hy
  have := h i y (by rw [Array.getElem?_eq_getElem hi, e])
  cases y with
  | suspended k l c p fs cl =>
    have e2 : cl = false := this.2
    subst e2
    rfl
  | _ => rfl
theorem stuck {M : Model} {Γ : Ctx} {p : Pos} {t : Sem PySem.Fin} {fs : List Frame} {s s' : Shared} {e : End} (h : Runs M Γ p t fs s e s') : ∀ {x : String}, t = .unsupported x → False := by
  induction h with
  | segRet _ _ ih _ => intro x hx; exact ih hx
  | segGen _ _ ih _ => intro x hx; exact ih hx
  | segSuspOut _ _ ih => intro x hx; exact ih hx
  | segSuspGen _ _ _ _ ih _ => intro x hx; exact ih hx
  | _ => intro x hx; exact nomatch hx
section
variable {M : Model} {g : Nat} {l₀ : List Value} {c₀ : Code} {p₀ : Pos} {fs₀ : List Frame} {cl₀ : Bool} {k₀ : Resume → Sem PySem.Fin}
/-- the dead one in its place -/
abbrev dead (l₀ : List Value) (c₀ : Code) (p₀ : Pos) (fs₀ : List Frame) (cl₀ : Bool) : GenState := .suspended (fun _ => .unsupported "dead") l₀ c₀ p₀ fs₀ cl₀
abbrev live (k₀ : Resume → Sem PySem.Fin) (l₀ : List Value) (c₀ : Code) (p₀ : Pos) (fs₀ : List Frame) (cl₀ : Bool) : GenState := .suspended k₀ l₀ c₀ p₀ fs₀ cl₀
theorem get_ne {s : Shared} {i j : Nat} {x : GenState} (h : j ≠ i) : (s.setGen i x).gens[j]? = s.gens[j]? := by
  show (s.gens.setIfInBounds i x)[j]? = _
  rw [Array.getElem?_setIfInBounds_ne (Ne.symm h)]
theorem get_eq {s : Shared} {i : Nat} {x y : GenState} (h : s.gens[i]? = some y) : (s.setGen i x).gens[i]? = some x := by
  show (s.gens.setIfInBounds i x)[i]? = _
  have hl : i < s.gens.size := (Array.getElem?_eq_some_iff.mp h).1
  rw [Array.getElem?_setIfInBounds_self_of_lt hl]
theorem set_comm {s : Shared} {i j : Nat} {x y : GenState} (h : i ≠ j) : (s.setGen i x).setGen j y = (s.setGen j y).setGen i x := by
  show ({ s with gens := (s.gens.setIfInBounds i x).setIfInBounds j y } : Shared) = { s with gens := (s.gens.setIfInBounds j y).setIfInBounds i x }
  congr 1
  apply Array.ext_getElem?
  intro n
  simp only [Array.getElem?_setIfInBounds, Array.size_setIfInBounds]
  by_cases h1 : i = n <;> by_cases h2 : j = n <;> simp_all
theorem rest_set {gens : Array GenState} {i : Nat} {x : GenState} (h : RestOk gens) (hx : restOk x) : RestOk (gens.setIfInBounds i x) := by
  intro j y hy
  rw [Array.getElem?_setIfInBounds] at hy
  split at hy
  · split at hy
    · cases hy
      exact hx
    · cases hy
  · exact h j y hy
theorem rest_push {gens : Array GenState} {x : GenState} (h : RestOk gens) (hx : restOk x) : RestOk (gens.push x) := by
  intro j y hy
  rw [Array.getElem?_push] at hy
  split at hy
  · cases hy
    exact hx
  · exact h j y hy
theorem runs_kept {Γ : Ctx} {p : Pos} {t : Sem PySem.Fin} {fs : List Frame} {s s' : Shared} {e : End} (h : Runs M Γ p t fs s e s') :
    RestOk s.gens → noGen fs → s.gens[g]? = some (dead l₀ c₀ p₀ fs₀ cl₀) →
      Runs M Γ p t fs (s.setGen g (live k₀ l₀ c₀ p₀ fs₀ cl₀)) e (s'.setGen g (live k₀ l₀ c₀ p₀ fs₀ cl₀)) ∧ s'.gens[g]? = some (dead l₀ c₀ p₀ fs₀ cl₀) ∧ RestOk s'.gens ∧ endOk e := by
  induction h with
  | done => intro a b c; exact ⟨.done, c, a, trivial⟩
  | raise => intro a b c; exact ⟨.raise, c, a, trivial⟩
  | again q _ ih => intro a b c; obtain ⟨x, y⟩ := ih a b c; exact ⟨.again q x, y⟩
  | rule _ ih => intro a b c; obtain ⟨x, y⟩ := ih a b c; exact ⟨.rule x, y⟩
  | «at» _ ih => intro a b c; obtain ⟨x, y⟩ := ih a b c; exact ⟨.at x, y⟩
  | load q _ ih => intro a b c; obtain ⟨x, y⟩ := ih a b c; exact ⟨.load q x, y⟩
  | update q _ ih => intro a b c; obtain ⟨x, y⟩ := ih a b c; exact ⟨.update q x, y⟩
  | loadIfAlive _ ih => intro a b c; obtain ⟨x, y⟩ := ih a b c; exact ⟨.loadIfAlive x, y⟩
  | point _ ih => intro a b c; obtain ⟨x, y⟩ := ih a b c; exact ⟨.point x, y⟩
  | alloc _ ih => intro a b c; obtain ⟨x, y⟩ := ih a b c; exact ⟨.alloc x, y⟩
  | fresh _ ih => intro a b c; obtain ⟨x, y⟩ := ih a b c; exact ⟨.fresh x, y⟩
  | ask _ ih => intro a b c; obtain ⟨x, y⟩ := ih a b c; exact ⟨.ask x, y⟩
  | choose q _ ih => intro a b c; obtain ⟨x, y⟩ := ih a b c; exact ⟨.choose q x, y⟩
  | os _ ih => intro a b c; obtain ⟨x, y⟩ := ih a b c; exact ⟨.os x, y⟩
  | handled _ ih => intro a b c; obtain ⟨x, y⟩ := ih a b c; exact ⟨.handled x, y⟩
  | @genState j st Γ p k s e s' q _ ih =>
    intro a b c
    obtain ⟨x, y⟩ := ih a b c
    by_cases h : j = g
    · subst h
      rw [q] at c
      cases c
      exact ⟨.genState (get_eq q) x, y⟩
    · exact ⟨.genState (by rw [get_ne h]; exact q) x, y⟩
  | stack _ ih => intro a b c; obtain ⟨x, y⟩ := ih a b c; exact ⟨.stack x, y⟩
  | thread _ ih => intro a b c; obtain ⟨x, y⟩ := ih a b c; exact ⟨.thread x, y⟩
  | @newGen Γ p k s e s' cd _ ih =>
    intro a b c
    have hl : g < s.gens.size := (Array.getElem?_eq_some_iff.mp c).1
    obtain ⟨x, y⟩ := ih (rest_push a trivial) b (by
      show (s.gens.push _)[g]? = _
      rw [Array.getElem?_push, if_neg (Nat.ne_of_lt hl)]
      exact c)
    refine ⟨.newGen ?_, y⟩
    have e1 : (s.setGen g (live k₀ l₀ c₀ p₀ fs₀ cl₀)).gens.size = s.gens.size := by simp [Shared.setGen]
    rw [e1]
    have e2 : ({ s with gens := s.gens.push (.fresh cd) } : Shared).setGen g (live k₀ l₀ c₀ p₀ fs₀ cl₀) = { s.setGen g (live k₀ l₀ c₀ p₀ fs₀ cl₀) with gens := (s.setGen g (live k₀ l₀ c₀ p₀ fs₀ cl₀)).gens.push (.fresh cd) } := by
      show ({ s with gens := (s.gens.push (.fresh cd)).setIfInBounds g _ } : Shared) = { s with gens := (s.gens.setIfInBounds g _).push (.fresh cd) }
      congr 1
      apply Array.ext_getElem?
      intro n
      simp only [Array.getElem?_setIfInBounds, Array.getElem?_push, Array.size_setIfInBounds, Array.size_push]
      by_cases h1 : g = n
      · subst h1
        rw [if_pos rfl, if_pos rfl, if_neg (Nat.ne_of_lt hl), if_pos (Nat.lt_succ_of_lt hl), if_pos hl]
      · rw [if_neg h1, if_neg h1]
    rw [← e2]
    exact x
  | call _ _ ih1 ih2 =>
    intro a b c
    obtain ⟨x1, y1, z1, _⟩ := ih1 a rfl c
    obtain ⟨x2, y2⟩ := ih2 z1 b y1
    exact ⟨.call x1 x2, y2⟩
  | callSusp _ ih1 =>
    intro a b c
    obtain ⟨x1, y1, z1, w1⟩ := ih1 a rfl c
    exact ⟨.callSusp x1, y1, z1, noGen_app w1 (noGen_ret.mpr rfl)⟩
  | yield => intro a b c; exact ⟨.yield, c, a, rfl⟩
  | @resumeFresh Γ p j l k s cd e₁ s₁ e s' q _ hq _ ih1 ih2 =>
    intro a b c
    have h : j ≠ g := fun z => by
      subst z
      rw [q] at c
      cases c
    obtain ⟨x1, y1, z1, w1⟩ := ih1 (rest_set a trivial) rfl (by rw [get_ne (Ne.symm h)]; exact c)
    obtain ⟨x2, y2⟩ := ih2 (rest_set z1 (endOk_state w1 hq)) b (by rw [get_ne (Ne.symm h)]; exact y1)
    rw [set_comm h] at x1 x2
    exact ⟨.resumeFresh (by rw [get_ne h]; exact q) x1 hq x2, y2⟩
  | @resumeSuspended Γ p j r l k s k₁ l₁ c₁ p₁ fs₁ cl e₁ s₁ e s' q hr hq _ ih1 ih2 =>
    intro a b c
    have h : j ≠ g := fun z => by
      subst z
      rw [q] at c
      cases c
      exact stuck hr rfl
    have ok : noGen fs₁ := (a j _ q).1
    obtain ⟨x1, y1, z1, w1⟩ := ih1 (rest_set a trivial) ok (by rw [get_ne (Ne.symm h)]; exact c)
    obtain ⟨x2, y2⟩ := ih2 (rest_set z1 (endOk_state w1 hq)) b (by rw [get_ne (Ne.symm h)]; exact y1)
    rw [set_comm h] at x1 x2
    exact ⟨.resumeSuspended (by rw [get_ne h]; exact q) x1 hq x2, y2⟩
  | resumeJustStarted q hv _ ih =>
    intro a b c
    obtain ⟨x, y⟩ := ih a b c
    refine ⟨.resumeJustStarted (by rw [get_ne (fun z => by subst z; rw [q] at c; cases c)]; exact q) hv x, y⟩
  | @resumeThrowFresh j Γ p k e s' x l s cd q _ ih =>
    intro a b c
    have h : j ≠ g := fun z => by
      subst z
      rw [q] at c
      cases c
    obtain ⟨x, y⟩ := ih (rest_set a trivial) b (by rw [get_ne (Ne.symm h)]; exact c)
    rw [set_comm h] at x
    exact ⟨.resumeThrowFresh (by rw [get_ne h]; exact q) x, y⟩
  | resumeRunning q _ ih =>
    intro a b c
    obtain ⟨x, y⟩ := ih a b c
    exact ⟨.resumeRunning (by rw [get_ne (fun z => by subst z; rw [q] at c; cases c)]; exact q) x, y⟩
  | resumeFinished q _ ih =>
    intro a b c
    obtain ⟨x, y⟩ := ih a b c
    exact ⟨.resumeFinished (by rw [get_ne (fun z => by subst z; rw [q] at c; cases c)]; exact q) x, y⟩
  | segRet _ _ ih1 ih2 =>
    intro a b c
    have b2 := noGen_ret.mp b
    obtain ⟨x1, y1, z1, _⟩ := ih1 a rfl c
    obtain ⟨x2, y2⟩ := ih2 z1 b2 y1
    exact ⟨.segRet x1 x2, y2⟩
  | segGen _ _ _ _ => intro a b c; exact absurd b noGen_gen
  | segSuspOut q _ ih =>
    intro a b c
    obtain ⟨x1, y1, z1, w1⟩ := ih a rfl c
    exact ⟨.segSuspOut q x1, y1, z1, noGen_app w1 b⟩
  | segSuspGen q _ _ _ _ _ =>
    intro a b c
    exact absurd (q.symm.trans b) (fun z => nomatch z)
end
end Ks

/-! The same of programs and of wpAny. -/
namespace Ks
open PySem
open Sem (wp)
section
variable {M : Model} {g : Nat} {l₀ : List Value} {c₀ : Code} {p₀ : Pos} {fs₀ : List Frame} {cl₀ : Bool} {k₀ : Resume → Sem PySem.Fin}
theorem wakes_kept {Γ : Ctx} {p : Pos} {j : Nat} {r : Resume} {s s' : Shared} {res : GenResult} (h : Wakes M Γ p j r s res s') (a : RestOk s.gens) (c : s.gens[g]? = some (dead l₀ c₀ p₀ fs₀ cl₀)) :
    Wakes M Γ p j r (s.setGen g (live k₀ l₀ c₀ p₀ fs₀ cl₀)) res (s'.setGen g (live k₀ l₀ c₀ p₀ fs₀ cl₀)) ∧ s'.gens[g]? = some (dead l₀ c₀ p₀ fs₀ cl₀) ∧ RestOk s'.gens := by
  by_cases hj : j = g
  · subst hj
    unfold Wakes at h
    rw [c] at h
    obtain ⟨e₁, s₁, hr, _⟩ := h
    exact (stuck hr rfl).elim
  · have q : (s.setGen g (live k₀ l₀ c₀ p₀ fs₀ cl₀)).gens[j]? = s.gens[j]? := get_ne hj
    unfold Wakes at h ⊢
    rw [q]
    split at h
    · exact h.elim
    · split at h
      · obtain ⟨e₁, s₁, hr, hq, h1, rfl⟩ := h
        obtain ⟨x1, y1, z1, w1⟩ := runs_kept (k₀ := k₀) hr (rest_set a trivial) rfl (by rw [get_ne (Ne.symm hj)]; exact c)
        rw [set_comm hj] at x1
        exact ⟨⟨e₁, _, x1, hq, h1, set_comm hj⟩, by rw [get_ne (Ne.symm hj)]; exact y1, rest_set z1 (endOk_state w1 hq)⟩
      · obtain ⟨h1, rfl⟩ := h
        exact ⟨⟨h1, rfl⟩, c, a⟩
      · obtain ⟨h1, rfl⟩ := h
        exact ⟨⟨h1, set_comm hj⟩, by rw [get_ne (Ne.symm hj)]; exact c, rest_set a trivial⟩
    · rename_i q2
      obtain ⟨e₁, s₁, hr, hq, h1, rfl⟩ := h
      obtain ⟨x1, y1, z1, w1⟩ := runs_kept (k₀ := k₀) hr (rest_set a trivial) (a j _ q2).1 (by rw [get_ne (Ne.symm hj)]; exact c)
      rw [set_comm hj] at x1
      exact ⟨⟨e₁, _, x1, hq, h1, set_comm hj⟩, by rw [get_ne (Ne.symm hj)]; exact y1, rest_set z1 (endOk_state w1 hq)⟩
    · obtain ⟨h1, rfl⟩ := h
      exact ⟨⟨h1, rfl⟩, c, a⟩
    · obtain ⟨h1, rfl⟩ := h
      exact ⟨⟨h1, rfl⟩, c, a⟩
/-- the state with the live one in its place -/
def Alive (g : Nat) (l₀ : List Value) (c₀ : Code) (p₀ : Pos) (fs₀ : List Frame) (cl₀ : Bool) (k₀ : Resume → Sem PySem.Fin) (s z : Shared) : Prop :=
  z = s.setGen g (live k₀ l₀ c₀ p₀ fs₀ cl₀) ∧ s.gens[g]? = some (dead l₀ c₀ p₀ fs₀ cl₀) ∧ RestOk s.gens
theorem wp_kept {α : Type} {Γ : Ctx} (t : Sem α) : ∀ (Q : α → Pos → Shared → Prop) (E : Value → Pos → Shared → Prop) (p : Pos) (s : Shared), RestOk s.gens → s.gens[g]? = some (dead l₀ c₀ p₀ fs₀ cl₀) → wp M Γ t Q E p s →
    wp M Γ t (fun a p' z => ∃ s', Alive g l₀ c₀ p₀ fs₀ cl₀ k₀ s' z ∧ Q a p' s') (fun e p' z => ∃ s', Alive g l₀ c₀ p₀ fs₀ cl₀ k₀ s' z ∧ E e p' s') p (s.setGen g (live k₀ l₀ c₀ p₀ fs₀ cl₀)) := by
  induction t with
  | pure a => intro Q E p s a c h; exact ⟨s, ⟨rfl, c, a⟩, h⟩
  | raise e => intro Q E p s a c h; exact ⟨s, ⟨rfl, c, a⟩, h⟩
  | unsupported _ => intro Q E p s _ _ h; exact h
  | finish _ => intro Q E p s _ _ h; exact h
  | rule _ k ih => intro Q E p s a c h; exact ih () Q E p s a c h
  | «at» p' k ih => intro Q E p s a c h; exact ih () Q E p' s a c h
  | load b _ k ih => intro Q E p s a c h; obtain ⟨o, ho, h⟩ := h; exact ⟨o, ho, ih o Q E p s a c h⟩
  | update b _ f k ih => intro Q E p s a c h; exact ⟨h.1, ih () Q E p { s with heap := s.heap.update b f } a c h.2⟩
  | loadIfAlive b k ih => intro Q E p s a c h; exact ih _ Q E p s a c h
  | point _ k ih => intro Q E p s a c h; exact ih () Q E p s a c h
  | register _ _ => intro Q E p s _ _ h; exact h
  | alloc o k ih => intro Q E p s a c h; exact ih s.heap.objs.size Q E p { s with heap := s.heap.push o } a c h
  | fresh k ih => intro Q E p s a c h; exact ih s.toks Q E p { s with toks := s.toks + 1 } a c h
  | ask k ih => intro Q E p s a c h; exact ih _ Q E p s a c h
  | choose src m k ih => intro Q E p s a c h; exact ⟨h.1, ih (M.w.draws src (s.drawn.get src) % m) Q E p { s with drawn := s.drawn.bump src } a c h.2⟩
  | os q _ k ih => intro Q E p s a c h; exact ih (Os.step s.os q).2 Q E p { s with os := (Os.step s.os q).1 } a c h
  | call cd hd _ _ k ih =>
    intro Q E p s a c h
    obtain ⟨r, s', hr, h⟩ := h
    obtain ⟨x1, y1, z1, _⟩ := runs_kept (k₀ := k₀) hr a rfl c
    exact ⟨r, _, x1, ih r Q E p s' z1 y1 h⟩
  | handled own k ih => intro Q E p s a c h; exact ih _ Q E p s a c h
  | genState j k ih =>
    intro Q E p s a c h
    obtain ⟨st, hs, h⟩ := h
    by_cases hj : j = g
    · subst hj
      rw [hs] at c
      cases c
      exact ⟨_, get_eq hs, ih _ Q E p s a hs h⟩
    · exact ⟨st, by rw [get_ne hj]; exact hs, ih _ Q E p s a c h⟩
  | newGen cd k ih =>
    intro Q E p s a c h
    have hl : g < s.gens.size := (Array.getElem?_eq_some_iff.mp c).1
    have z := ih s.gens.size Q E p { s with gens := s.gens.push (.fresh cd) } (rest_push a trivial) (by
      show (s.gens.push _)[g]? = _
      rw [Array.getElem?_push, if_neg (Nat.ne_of_lt hl)]
      exact c) h
    have e1 : (s.setGen g (live k₀ l₀ c₀ p₀ fs₀ cl₀)).gens.size = s.gens.size := by simp [Shared.setGen]
    show wp M Γ (k (s.setGen g (live k₀ l₀ c₀ p₀ fs₀ cl₀)).gens.size) _ _ p _
    rw [e1]
    have e2 : ({ s with gens := s.gens.push (.fresh cd) } : Shared).setGen g (live k₀ l₀ c₀ p₀ fs₀ cl₀) = { s.setGen g (live k₀ l₀ c₀ p₀ fs₀ cl₀) with gens := (s.setGen g (live k₀ l₀ c₀ p₀ fs₀ cl₀)).gens.push (.fresh cd) } := by
      show ({ s with gens := (s.gens.push (.fresh cd)).setIfInBounds g _ } : Shared) = { s with gens := (s.gens.setIfInBounds g _).push (.fresh cd) }
      congr 1
      apply Array.ext_getElem?
      intro n
      simp only [Array.getElem?_setIfInBounds, Array.getElem?_push, Array.size_setIfInBounds, Array.size_push]
      by_cases h1 : g = n
      · subst h1
        rw [if_pos rfl, if_pos rfl, if_neg (Nat.ne_of_lt hl), if_pos (Nat.lt_succ_of_lt hl), if_pos hl]
      · rw [if_neg h1, if_neg h1]
    rw [← e2]
    exact z
  | resume j r _ k ih =>
    intro Q E p s a c h
    obtain ⟨res, s', hw, h⟩ := h
    obtain ⟨x1, y1, z1⟩ := wakes_kept (k₀ := k₀) hw a c
    exact ⟨res, _, x1, ih res Q E p s' z1 y1 h⟩
  | yield _ _ _ _ => intro Q E p s _ _ h; exact h
  | stack k ih => intro Q E p s a c h; exact ih _ Q E p s a c h
  | fork _ _ => intro Q E p s _ _ h; exact h
  | thread k ih => intro Q E p s a c h; exact ih _ Q E p s a c h
  | await _ _ _ _ _ => intro Q E p s _ _ h; exact h
theorem wpAny_kept {α : Type} {A : Around} {s : Shared} {t : Sem α} {Q : α → Shared → Prop} {E : Value → Shared → Prop} (a : RestOk s.gens) (c : s.gens[g]? = some (dead l₀ c₀ p₀ fs₀ cl₀)) (h : wpAny M A t Q E s) :
    wpAny M A t (fun a z => ∃ s', Alive g l₀ c₀ p₀ fs₀ cl₀ k₀ s' z ∧ Q a s') (fun e z => ∃ s', Alive g l₀ c₀ p₀ fs₀ cl₀ k₀ s' z ∧ E e s') (s.setGen g (live k₀ l₀ c₀ p₀ fs₀ cl₀)) := fun Γ p hΓ =>
  wp_kept t _ _ p s a c (h Γ p hΓ)
end
end Ks

/-! No resting generator has another one's frame in it: that stays so. -/
namespace Ks
open PySem
open Sem (wp)
section
variable {M : Model}
theorem runs_rest {Γ : Ctx} {p : Pos} {t : Sem PySem.Fin} {fs : List Frame} {s s' : Shared} {e : End} (h : Runs M Γ p t fs s e s') : RestOk s.gens → noGen fs → RestOk s'.gens ∧ endOk e := by
  induction h with
  | done => intro a b; exact ⟨a, trivial⟩
  | raise => intro a b; exact ⟨a, trivial⟩
  | again q _ ih => intro a b; exact ih a b
  | rule _ ih => intro a b; exact ih a b
  | «at» _ ih => intro a b; exact ih a b
  | load q _ ih => intro a b; exact ih a b
  | update q _ ih => intro a b; exact ih a b
  | loadIfAlive _ ih => intro a b; exact ih a b
  | point _ ih => intro a b; exact ih a b
  | alloc _ ih => intro a b; exact ih a b
  | fresh _ ih => intro a b; exact ih a b
  | ask _ ih => intro a b; exact ih a b
  | choose q _ ih => intro a b; exact ih a b
  | os _ ih => intro a b; exact ih a b
  | handled _ ih => intro a b; exact ih a b
  | genState _ _ ih => intro a b; exact ih a b
  | stack _ ih => intro a b; exact ih a b
  | thread _ ih => intro a b; exact ih a b
  | newGen _ ih => intro a b; exact ih (rest_push a trivial) b
  | call _ _ ih1 ih2 => intro a b; exact ih2 (ih1 a rfl).1 b
  | callSusp _ ih1 => intro a b; obtain ⟨x, y⟩ := ih1 a rfl; exact ⟨x, noGen_app y (noGen_ret.mpr rfl)⟩
  | yield => intro a b; exact ⟨a, rfl⟩
  | resumeFresh q _ hq _ ih1 ih2 => intro a b; obtain ⟨x, y⟩ := ih1 (rest_set a trivial) rfl; exact ih2 (rest_set x (endOk_state y hq)) b
  | resumeSuspended q _ hq _ ih1 ih2 => intro a b; obtain ⟨x, y⟩ := ih1 (rest_set a trivial) (a _ _ q).1; exact ih2 (rest_set x (endOk_state y hq)) b
  | resumeJustStarted q hv _ ih => intro a b; exact ih a b
  | resumeThrowFresh q _ ih => intro a b; exact ih (rest_set a trivial) b
  | resumeRunning q _ ih => intro a b; exact ih a b
  | resumeFinished q _ ih => intro a b; exact ih a b
  | segRet _ _ ih1 ih2 => intro a b; exact ih2 (ih1 a rfl).1 (noGen_ret.mp b)
  | segGen _ _ _ _ => intro a b; exact absurd b noGen_gen
  | segSuspOut q _ ih => intro a b; obtain ⟨x, y⟩ := ih a rfl; exact ⟨x, noGen_app y b⟩
  | segSuspGen q _ _ _ _ _ => intro a b; exact absurd (q.symm.trans b) (fun z => nomatch z)
theorem wakes_rest {Γ : Ctx} {p : Pos} {j : Nat} {r : Resume} {s s' : Shared} {res : GenResult} (h : Wakes M Γ p j r s res s') (a : RestOk s.gens) : RestOk s'.gens := by
  unfold Wakes at h
  split at h
  · exact h.elim
  · split at h
    · obtain ⟨e₁, s₁, hr, hq, h1, rfl⟩ := h
      obtain ⟨x, y⟩ := runs_rest hr (rest_set a trivial) rfl
      exact rest_set x (endOk_state y hq)
    · rw [h.2]; exact a
    · rw [h.2]; exact rest_set a trivial
  · rename_i q
    obtain ⟨e₁, s₁, hr, hq, h1, rfl⟩ := h
    obtain ⟨x, y⟩ := runs_rest hr (rest_set a trivial) (a _ _ q).1
    exact rest_set x (endOk_state y hq)
  · rw [h.2]; exact a
  · rw [h.2]; exact a
theorem wp_rest {α : Type} {Γ : Ctx} (t : Sem α) : ∀ (Q : α → Pos → Shared → Prop) (E : Value → Pos → Shared → Prop) (p : Pos) (s : Shared), RestOk s.gens → wp M Γ t Q E p s →
    wp M Γ t (fun a p' z => RestOk z.gens ∧ Q a p' z) (fun e p' z => RestOk z.gens ∧ E e p' z) p s := by
  induction t with
  | pure a => intro Q E p s a h; exact ⟨a, h⟩
  | raise e => intro Q E p s a h; exact ⟨a, h⟩
  | unsupported _ => intro Q E p s _ h; exact h
  | finish _ => intro Q E p s _ h; exact h
  | rule _ k ih => intro Q E p s a h; exact ih () Q E p s a h
  | «at» p' k ih => intro Q E p s a h; exact ih () Q E p' s a h
  | load b _ k ih => intro Q E p s a h; obtain ⟨o, ho, h⟩ := h; exact ⟨o, ho, ih o Q E p s a h⟩
  | update b _ f k ih => intro Q E p s a h; exact ⟨h.1, ih () Q E p { s with heap := s.heap.update b f } a h.2⟩
  | loadIfAlive b k ih => intro Q E p s a h; exact ih _ Q E p s a h
  | point _ k ih => intro Q E p s a h; exact ih () Q E p s a h
  | register _ _ => intro Q E p s _ h; exact h
  | alloc o k ih => intro Q E p s a h; exact ih s.heap.objs.size Q E p { s with heap := s.heap.push o } a h
  | fresh k ih => intro Q E p s a h; exact ih s.toks Q E p { s with toks := s.toks + 1 } a h
  | ask k ih => intro Q E p s a h; exact ih _ Q E p s a h
  | choose src m k ih => intro Q E p s a h; exact ⟨h.1, ih (M.w.draws src (s.drawn.get src) % m) Q E p { s with drawn := s.drawn.bump src } a h.2⟩
  | os q _ k ih => intro Q E p s a h; exact ih (Os.step s.os q).2 Q E p { s with os := (Os.step s.os q).1 } a h
  | call cd hd _ _ k ih => intro Q E p s a h; obtain ⟨r, s', hr, h⟩ := h; exact ⟨r, s', hr, ih r Q E p s' (runs_rest hr a rfl).1 h⟩
  | handled own k ih => intro Q E p s a h; exact ih _ Q E p s a h
  | genState j k ih => intro Q E p s a h; obtain ⟨st, hs, h⟩ := h; exact ⟨st, hs, ih _ Q E p s a h⟩
  | newGen cd k ih => intro Q E p s a h; exact ih s.gens.size Q E p { s with gens := s.gens.push (.fresh cd) } (rest_push a trivial) h
  | resume j r _ k ih => intro Q E p s a h; obtain ⟨res, s', hw, h⟩ := h; exact ⟨res, s', hw, ih res Q E p s' (wakes_rest hw a) h⟩
  | yield _ _ _ _ => intro Q E p s _ h; exact h
  | stack k ih => intro Q E p s a h; exact ih _ Q E p s a h
  | fork _ _ => intro Q E p s _ h; exact h
  | thread k ih => intro Q E p s a h; exact ih _ Q E p s a h
  | await _ _ _ _ _ => intro Q E p s _ h; exact h
theorem wpAny_rest {α : Type} {A : Around} {s : Shared} {t : Sem α} {Q : α → Shared → Prop} {E : Value → Shared → Prop} (a : RestOk s.gens) (h : wpAny M A t (fun a s' => RestOk s'.gens → Q a s') (fun e s' => RestOk s'.gens → E e s') s) : wpAny M A t Q E s :=
  wpAny_mono (fun Γ p hΓ => wp_rest t _ _ p s a (h Γ p hΓ) : wpAny M A t (fun a s' => RestOk s'.gens ∧ (RestOk s'.gens → Q a s')) (fun e s' => RestOk s'.gens ∧ (RestOk s'.gens → E e s')) s)
    (fun _ _ x => x.2 x.1) fun _ _ x => x.2 x.1
end
end Ks
namespace Ks
open PySem PySem.Spec L2
open PyProof.Rows hiding St
/-! ### statements where no resting generator has another one's frame in it -/
structure PR (X : Cx) (st : Stmt) (t : TS) : Prop where
  run : ∀ (pins : List (Addr × Obj)) (s : Shared) (σ : L2.St) (H : Hp) (D : Ends), Inv X pins σ H s → RestOk s.gens → t D σ H → wpAny (model X.prog X.w) X.A (exec st X.env) (SP X pins D) X.xe s
structure PRs (X : Cx) (st : List Stmt) (t : TS) : Prop where
  run : ∀ (pins : List (Addr × Obj)) (s : Shared) (σ : L2.St) (H : Hp) (D : Ends), Inv X pins σ H s → RestOk s.gens → t D σ H → wpAny (model X.prog X.w) X.A (execs st X.env) (SP X pins D) X.xe s
section
variable {X : Cx} {st : Stmt} {rest : List Stmt} {t u : TS}
theorem PR.of (h : PS X st t) : PR X st t := ⟨fun pins s σ H D I _ q => h.run pins s σ H D I q⟩
theorem PRs.of (h : PSs X rest t) : PRs X rest t := ⟨fun pins s σ H D I _ q => h.run pins s σ H D I q⟩
theorem prs_cons (a : PR X st t) (b : PRs X rest u) : PRs X (st :: rest) (tSeq t u) := by
  refine ⟨fun pins s σ H D I r h => ?_⟩
  refine wpAny_execs_cons ?_
  refine wpAny_rest r (wpAny_mono (a.run pins s σ H _ I r h) (fun f s1 hs r1 => ?_) fun _ _ z _ => z)
  cases f with
  | next =>
    obtain ⟨σ1, H1, I1, q⟩ := hs
    exact b.run pins s1 σ1 H1 D I1 r1 q
  | ret v => exact hs
  | brk => exact hs
  | cont => exact hs
end
end Ks

/-! The context of a resting generator's body, woken in a state of its consumer's. -/
namespace Ks
open PySem PySem.Spec L2
open PyProof.Rows hiding St
/-- the addresses below L -/
def cut (L : Nat) (h : Heap) : Heap := { h with objs := h.objs.extract 0 L }
theorem cut_get {L : Nat} {h : Heap} {b : Nat} (hb : b < L) : (cut L h).get? b = h.get? b := by
  unfold Heap.get? cut
  have e : (h.objs.extract 0 L)[b]? = h.objs[b]? := by
    rw [Array.getElem?_extract]
    by_cases hs : b < h.objs.size
    · rw [if_pos (by omega), Nat.zero_add]
    · rw [if_neg (by omega)]
      exact (Array.getElem?_eq_none (by omega)).symm
  simp only [e]
theorem cut_lt {L : Nat} {h : Heap} {b : Nat} {o : Obj} (e : (cut L h).get? b = some o) : b < L ∧ h.get? b = some o := by
  have h1 : b < (cut L h).objs.size := Heap.lt_size e
  have h2 : (cut L h).objs.size = min L h.objs.size := by
    show (h.objs.extract 0 L).size = _
    rw [Array.size_extract]
    omega
  have hb : b < L := by omega
  exact ⟨hb, by rw [← cut_get hb]; exact e⟩
theorem cut_size {L : Nat} {h : Heap} (hl : L ≤ h.objs.size) : (cut L h).objs.size = L := by
  show (h.objs.extract 0 L).size = _
  rw [Array.size_extract]
  omega
theorem cut_funs {L : Nat} {h base : Heap} : ∀ {l : List Env}, (∀ b ∈ frs l, b < L) → h.FunFrames base l → (cut L h).FunFrames base l
  | [], _, _ => trivial
  | env :: r, hl, ⟨k, ⟨F, o, e1, e2, e3, e4⟩, f⟩ => by
    have hF : (F : Nat) < L := hl F (List.mem_filterMap.mpr ⟨env, List.mem_cons_self, e1⟩)
    exact ⟨k, ⟨F, o, e1, e2, by rw [cut_get hF]; exact e3, e4⟩, cut_funs (fun b hb => hl b (by
      obtain ⟨e, he, q⟩ := List.mem_filterMap.mp hb
      exact List.mem_filterMap.mpr ⟨e, List.mem_cons_of_mem _ he, q⟩)) f⟩
def rx (X : Cx) (A : Around) (N : List Str) (env : Env) (s : Shared) (H : Hp) (pn : List (Addr × Obj)) : Cx where
  prog := X.prog
  w := X.w
  K := X.K
  mg := X.mg
  base := X.base
  A := A.deeper env
  N := N
  s_0 := { s with heap := cut env.locals s.heap }
  H_0 := H
  env := env
  outer := X.stack
  stack := env :: X.stack
  ex := []
  calm := true
  fn := fun _ => true
  pn := pn
  xe := fun _ _ => False
/-- a generator's frame: no cells -/
structure GEnv (N : List Str) (env : Env) : Prop where
  kind : env.scope.kind = .function
  glob : env.globals = mainGlobals
  blt : env.builtins = builtinsNs
  fr : env.frame = some env.locals
  cells : env.cells = []
  nocell : ∀ x, env.kindOf x ≠ some .cell ∧ env.kindOf x ≠ some .free
  loc : ∀ x ∈ N, env.kindOf x = some .local
section
variable {X : Cx} {A : Around} {N : List Str} {env : Env} {pins pn : List (Addr × Obj)} {σ σg : L2.St} {H H' : Hp} {s s' : Shared}
theorem rx_in (I : Inv X pins σ H s) (hc : X.calm = true) (hf : A.frames = X.A.frames) (hh : A.handled = X.A.handled) (G : GEnv N env) (hL : env.locals < s.heap.objs.size) (hst : ∀ b ∈ frs X.stack, b < env.locals) (hsz : X.base.objs.size ≤ env.locals) (hH : H env.locals = none)
    (loc : ∃ m, s.heap.Ns env.locals m ∧ ∀ (i : Nat) (x : Str) (v : V), N[i]? = some x → σg[i]? = some (some v) → ∃ u, RelV v u ∧ m x = some u) (hpn : ∀ p ∈ pn, s.heap.get? p.1 = some p.2 ∧ H p.1 = none ∧ p.1 ≠ env.locals ∧ p.1 ∉ frs X.stack ∧ ∀ v, p.2.data ≠ .cell v)
    (hlen : σg.length = N.length) : Inv (rx X A N env s H pn) [] σg H s := by
  have e0 := I.env0
  refine ⟨⟨e0.mod, G.kind, G.glob, G.blt, ?_, ?_, ?_, ?_, fun _ => ?_, ?_, .inr ⟨rfl, G.fr⟩, ?_, ?_, ?_, ?_, ?_, ?_, e0.frf⟩, rfl, I.bare, ?_, ?_, ?_, hH, ?_, ?_, I.hok, hlen⟩
  · show (cut env.locals s.heap).objs.size ≤ env.locals
    rw [cut_size (Nat.le_of_lt hL)]
    exact Nat.le_refl _
  · intro x y c h1
    rw [show (rx X A N env s H pn).env.cells = [] from G.cells] at h1
    cases h1
  · intro x h1
    exact (h1.elim (G.nocell x).1 (G.nocell x).2).elim
  · intro x c _ h1
    rw [show (rx X A N env s H pn).env.cells = [] from G.cells] at h1
    cases h1
  · show (A.deeper env).handled = none
    exact hh.trans (I.ok.hd hc)
  · exact Around.frames_deeper (hf.trans I.ok.frames)
  · intro b hb
    cases hb
  · intro b o e
    have hb : b < env.locals := Nat.lt_of_lt_of_le (Heap.lt_size e) hsz
    exact ⟨(cut_get hb).trans (e0.bs b o e).1, (e0.bs b o e).2⟩
  · show X.base.objs.size ≤ (cut env.locals s.heap).objs.size
    rw [cut_size (Nat.le_of_lt hL)]
    exact hsz
  · intro b o _ hb
    cases hb
  · intro b hb
    cases hb
  · exact cut_funs hst e0.funs
  · exact ⟨fun b o q _ _ _ => (cut_lt q).2, fun b o q _ _ _ => ⟨o.slots, (cut_lt q).2⟩, fun b o _ n _ => n, fun b o q _ => ⟨o, (cut_lt q).2⟩, fun _ _ q => q, fun _ _ _ q => q, fun b ps q => ⟨#[], by rw [show H b = some (.tbl ps) from q]; simp⟩⟩
  · obtain ⟨m, h1, h2⟩ := loc
    refine ⟨m, h1, fun i x v hx hv _ => ?_⟩
    obtain ⟨u, ru, hm⟩ := h2 i x v hx hv
    exact ⟨u, ru, .inl ⟨G.loc x (List.mem_of_getElem? hx), hm⟩⟩
  · intro x c h1
    rw [show (rx X A N env s H pn).env.cells = [] from G.cells] at h1
    cases h1
  · intro x c h1
    rw [show (rx X A N env s H pn).env.cells = [] from G.cells] at h1
    cases h1
  · intro p hp
    exact (List.mem_append.mp hp).elim (fun z => hpn p z) (fun z => nomatch z)
theorem rx_out (I : Inv X pins σ H s) (hloc : X.env.locals < env.locals) (hcell : ∀ x c, X.env.cells.lookup x = some c → c < env.locals) (hpins : ∀ p ∈ X.pn ++ pins, p.1 < env.locals) (J : Inv (rx X A N env s H pn) [] σg H' s') : Inv X pins σ H' s' := by
  have U := J.base
  have low : ∀ {b : Addr} {o : Obj}, X.s_0.heap.get? b = some o → b < env.locals ∧ b ≠ X.env.locals := fun {b o} e => by
    have h1 : b < X.env.locals := Nat.lt_of_lt_of_le (Heap.lt_size e) I.ok.above
    exact ⟨Nat.lt_trans h1 hloc, Nat.ne_of_lt h1⟩
  have notFr : ∀ {b : Addr}, b ∉ X.fs → b ≠ X.env.locals → b ∉ frs X.stack := fun {b} h1 h2 hm => (List.mem_cons.mp (I.stkSub b hm)).elim h2 h1
  have any : ∀ {b : Addr} {o : Obj}, b < env.locals → s.heap.get? b = some o → H b = none → ∃ sl, s'.heap.get? b = some { o with slots := sl } := fun {b o} hb e n => U.any ((cut_get hb).trans e) n (fun z => nomatch z)
  refine ⟨I.ok, J.os.trans I.os, J.bare, ⟨fun b o q n hb hx => ?_, fun b o q n hb hx => ?_, fun b o q n hx => ?_, fun b o q hx => ?_, fun b xs q => U.tups b xs (I.base.tups b xs q), fun b o u q => U.frzs b o u (I.base.frzs b o u q), fun b ps q => ?_⟩, ?_, fun x c h1 => ?_, ?_, fun x c h1 => ?_, fun p hp => ?_, J.hok, I.len⟩
  · have h1 := I.base.keep b o q n hb hx
    exact U.keep b o ((cut_get (low q).1).trans h1) (I.base.free b o q n hx) (notFr hb (low q).2) (fun z => nomatch z)
  · obtain ⟨sl, h1⟩ := I.base.slot b o q n hb hx
    obtain ⟨sl2, h2⟩ := any (low q).1 h1 (I.base.free b o q n hx)
    exact ⟨sl2, h2⟩
  · obtain ⟨o2, h1⟩ := I.base.there b o q hx
    exact U.free b o2 ((cut_get (low q).1).trans h1) (I.base.free b o q n hx) (fun z => nomatch z)
  · obtain ⟨o2, h1⟩ := I.base.there b o q hx
    exact U.there b o2 ((cut_get (low q).1).trans h1) (fun z => nomatch z)
  · obtain ⟨m1, e1⟩ := I.base.tbls b ps q
    obtain ⟨m2, e2⟩ := U.tbls b _ e1
    exact ⟨m1 ++ m2, by rw [e2, Array.append_assoc]⟩
  · obtain ⟨m, ⟨o, es, ep, g1, g2, g3, g4⟩, h2⟩ := I.loc
    obtain ⟨sl, g5⟩ := any hloc g1 I.free
    refine ⟨m, ⟨_, es, ep, g5, g2, g3, g4⟩, fun i x v hx hv hvis => ?_⟩
    obtain ⟨u, ru, lk⟩ := h2 i x v hx hv hvis
    refine ⟨u, ru, ?_⟩
    rcases lk with lk | ⟨k, c, hc, hcell2⟩
    · exact .inl lk
    · refine .inr ⟨k, c, hc, ?_⟩
      obtain ⟨oc, c1, c2⟩ := hcell2
      obtain ⟨sl2, c3⟩ := any (hcell x c hc) c1 (I.freeC x c hc)
      exact ⟨_, c3, c2⟩
  · obtain ⟨v, oc, c1, c2⟩ := I.cell x c h1
    obtain ⟨sl2, c3⟩ := any (hcell x c h1) c1 (I.freeC x c h1)
    exact ⟨v, _, c3, c2⟩
  · obtain ⟨m, ⟨o, es, ep, g1, _⟩, _⟩ := I.loc
    exact U.free _ o ((cut_get hloc).trans g1) I.free (fun z => nomatch z)
  · obtain ⟨v, oc, c1, c2⟩ := I.cell x c h1
    exact U.free c oc ((cut_get (hcell x c h1)).trans c1) (I.freeC x c h1) (fun z => nomatch z)
  · obtain ⟨p1, p2, p3, p4, p5⟩ := I.pin p hp
    exact ⟨U.keep p.1 p.2 ((cut_get (hpins p hp)).trans p1) p2 (notFr p4 p3) (fun z => nomatch z), U.free p.1 p.2 ((cut_get (hpins p hp)).trans p1) p2 (fun z => nomatch z), p3, p4, p5⟩
end
end Ks

/-! The same context where all that is younger than the generator's frame is known to the object. -/
namespace Ks
open PySem PySem.Spec L2
open PyProof.Rows hiding St
/-- all that stands above L, as it stands -/
def exact (L : Nat) (h : Heap) : Hp := fun a => if L < a then (h.get? a).map (fun o => .frz o (.own a)) else none
theorem exact_low {L : Nat} {h : Heap} {b : Nat} (hb : b ≤ L) : exact L h b = none := if_neg (Nat.not_lt.mpr hb)
theorem exact_high {L : Nat} {h : Heap} {b : Nat} {o : Obj} (hb : L < b) (e : h.get? b = some o) : exact L h b = some (.frz o (.own b)) := by
  unfold exact
  rw [if_pos hb, e]
  rfl
theorem exact_ok {P : Program} {w : World} {L : Nat} {h : Heap} : HOk P w (exact L h) h := by
  intro a u e
  unfold exact at e
  split at e
  · cases q : h.get? a with
    | none => rw [q] at e; cases e
    | some o =>
      rw [q] at e
      cases e
      exact ⟨q, o, q⟩
  · cases e
abbrev rx0 (X : Cx) (A : Around) (N : List Str) (env : Env) (s : Shared) : Cx := rx X A N env s (exact env.locals s.heap) []
section
variable {X : Cx} {A : Around} {N : List Str} {env : Env} {pins : List (Addr × Obj)} {σ σg : L2.St} {H H' : Hp} {s s' : Shared}
theorem rx0_in (I : Inv X pins σ H s) (hc : X.calm = true) (hf : A.frames = X.A.frames) (hh : A.handled = X.A.handled) (G : GEnv N env) (hL : env.locals < s.heap.objs.size) (hst : ∀ b ∈ frs X.stack, b < env.locals) (hsz : X.base.objs.size ≤ env.locals)
    (loc : ∃ m, s.heap.Ns env.locals m ∧ ∀ (i : Nat) (x : Str) (v : V), N[i]? = some x → σg[i]? = some (some v) → Vis env.scope x → ∃ u, RelV v u ∧ m x = some u) (hlen : σg.length = N.length) : Inv (rx0 X A N env s) [] σg (exact env.locals s.heap) s := by
  have e0 := I.env0
  have nocell : ∀ {x : Str} {c : Addr}, env.cells.lookup x = some c → False := fun {x c} h => by
    rw [G.cells] at h
    cases h
  refine ⟨⟨e0.mod, G.kind, G.glob, G.blt, ?_, ?_, ?_, ?_, fun _ => ?_, ?_, .inr ⟨rfl, G.fr⟩, ?_, ?_, ?_, ?_, ?_, ?_, ?_⟩, rfl, I.bare, ?_, ?_, ?_, exact_low (Nat.le_refl _), ?_, ?_, exact_ok, hlen⟩
  · show (cut env.locals s.heap).objs.size ≤ env.locals
    rw [cut_size (Nat.le_of_lt hL)]
    exact Nat.le_refl _
  · exact fun x y c h1 => (nocell h1).elim
  · exact fun x h1 => (h1.elim (G.nocell x).1 (G.nocell x).2).elim
  · exact fun x c _ h1 => (nocell h1).elim
  · exact hh.trans (I.ok.hd hc)
  · exact Around.frames_deeper (hf.trans I.ok.frames)
  · exact fun b hb => nomatch hb
  · intro b o e
    have hb : b < env.locals := Nat.lt_of_lt_of_le (Heap.lt_size e) hsz
    exact ⟨(cut_get hb).trans (e0.bs b o e).1, exact_low (Nat.le_of_lt hb)⟩
  · show X.base.objs.size ≤ (cut env.locals s.heap).objs.size
    rw [cut_size (Nat.le_of_lt hL)]
    exact hsz
  · exact fun b o _ hb => nomatch hb
  · exact fun b hb => nomatch hb
  · exact cut_funs hst e0.funs
  · exact fun b hb => exact_low (Nat.le_of_lt (hst b hb))
  · exact ⟨fun b o q _ _ _ => (cut_lt q).2, fun b o q _ _ _ => ⟨o.slots, (cut_lt q).2⟩, fun b o _ n _ => n, fun b o q _ => ⟨o, (cut_lt q).2⟩, fun _ _ q => q, fun _ _ _ q => q, fun b ps q => ⟨#[], by rw [show exact env.locals s.heap b = some (.tbl ps) from q]; simp⟩⟩
  · obtain ⟨m, h1, h2⟩ := loc
    refine ⟨m, h1, fun i x v hx hv vis => ?_⟩
    obtain ⟨u, ru, hm⟩ := h2 i x v hx hv vis
    exact ⟨u, ru, .inl ⟨G.loc x (List.mem_of_getElem? hx), hm⟩⟩
  · exact fun x c h1 => (nocell h1).elim
  · exact fun x c h1 => (nocell h1).elim
  · exact fun p hp => (List.mem_append.mp hp).elim (fun z => nomatch z) (fun z => nomatch z)
/-- the frame and its slots behind a segment -/
theorem rx0_loc {H' : Hp} (G : GEnv N env) (J : Inv (rx0 X A N env s) [] σg H' s') : ∃ m, s'.heap.Ns env.locals m ∧ ∀ (i : Nat) (x : Str) (v : V), N[i]? = some x → σg[i]? = some (some v) → Vis env.scope x → ∃ u, RelV v u ∧ m x = some u := by
  obtain ⟨m, h1, h2⟩ := J.loc
  refine ⟨m, h1, fun i x v hx hv vis => ?_⟩
  obtain ⟨u, ru, lk⟩ := h2 i x v hx hv vis
  refine ⟨u, ru, ?_⟩
  rcases lk with lk | ⟨k, c, hc, _⟩
  · exact lk.2
  · have e : env.cells.lookup x = some c := hc
    rw [G.cells] at e
    cases e
/-- what a segment leaves -/
theorem rx0_kept {H' : Hp} (J : Inv (rx0 X A N env s) [] σg H' s') {b : Addr} {o : Obj} (e : s.heap.get? b = some o) (hne : b ≠ env.locals) : ∃ sl, s'.heap.get? b = some { o with slots := sl } ∧ (b ∉ frs X.stack → s'.heap.get? b = some o) := by
  have U := J.base
  rcases Nat.lt_trichotomy b env.locals with h | h | h
  · have e1 : (cut env.locals s.heap).get? b = some o := (cut_get h).trans e
    have n1 : exact env.locals s.heap b = none := exact_low (Nat.le_of_lt h)
    obtain ⟨sl, h1⟩ := U.any e1 n1 (fun z => nomatch z)
    exact ⟨sl, h1, fun hb => U.keep b o e1 n1 hb (fun z => nomatch z)⟩
  · exact (hne h).elim
  · have h1 := U.frzs b o (.own b) (exact_high h e)
    have h2 := (J.hok b _ h1).1
    exact ⟨o.slots, h2, fun _ => h2⟩
theorem rx0_out {H1 : Hp} (I : Inv X pins σ H s) (hL : H env.locals = none) (hloc : X.env.locals < env.locals) (hcell : ∀ x c, X.env.cells.lookup x = some c → c ≠ env.locals) (hpins : ∀ p ∈ X.pn ++ pins, p.1 ≠ env.locals) (J : Inv (rx0 X A N env s) [] σg H1 s') : Inv X pins σ H s' := by
  have low : ∀ {b : Addr} {o : Obj}, X.s_0.heap.get? b = some o → b ≠ env.locals ∧ b ≠ X.env.locals := fun {b o} e => by
    have h1 : b < X.env.locals := Nat.lt_of_lt_of_le (Heap.lt_size e) I.ok.above
    exact ⟨Nat.ne_of_lt (Nat.lt_trans h1 hloc), Nat.ne_of_lt h1⟩
  have notFr : ∀ {b : Addr}, b ∉ X.fs → b ≠ X.env.locals → b ∉ frs X.stack := fun {b} h1 h2 hm => (List.mem_cons.mp (I.stkSub b hm)).elim h2 h1
  have kept : ∀ {b : Addr} {o : Obj}, s.heap.get? b = some o → b ≠ env.locals → ∃ sl, s'.heap.get? b = some { o with slots := sl } ∧ (b ∉ frs X.stack → s'.heap.get? b = some o) := fun e n => rx0_kept J e n
  refine ⟨I.ok, J.os.trans I.os, J.bare, ⟨fun b o q n hb hx => ?_, fun b o q n hb hx => ?_, I.base.free, fun b o q hx => ?_, I.base.tups, I.base.frzs, I.base.tbls⟩, ?_, fun x c h1 => ?_, I.free, I.freeC, fun p hp => ?_, fun a u q => ?_, I.len⟩
  · obtain ⟨_, _, h2⟩ := kept (I.base.keep b o q n hb hx) (low q).1
    exact h2 (notFr hb (low q).2)
  · obtain ⟨sl, h1⟩ := I.base.slot b o q n hb hx
    obtain ⟨sl2, h2, _⟩ := kept h1 (low q).1
    exact ⟨sl2, h2⟩
  · obtain ⟨o2, h1⟩ := I.base.there b o q hx
    obtain ⟨sl2, h2, _⟩ := kept h1 (low q).1
    exact ⟨_, h2⟩
  · obtain ⟨m, ⟨o, es, ep, g1, g2, g3, g4⟩, h2⟩ := I.loc
    obtain ⟨sl, g5, _⟩ := kept g1 (Nat.ne_of_lt hloc)
    refine ⟨m, ⟨_, es, ep, g5, g2, g3, g4⟩, fun i x v hx hv hvis => ?_⟩
    obtain ⟨u, ru, lk⟩ := h2 i x v hx hv hvis
    refine ⟨u, ru, ?_⟩
    rcases lk with lk | ⟨k, c, hc, hcell2⟩
    · exact .inl lk
    · refine .inr ⟨k, c, hc, ?_⟩
      obtain ⟨oc, c1, c2⟩ := hcell2
      obtain ⟨sl2, c3, _⟩ := kept c1 (hcell x c hc)
      exact ⟨_, c3, c2⟩
  · obtain ⟨v, oc, c1, c2⟩ := I.cell x c h1
    obtain ⟨sl2, c3, _⟩ := kept c1 (hcell x c h1)
    exact ⟨v, _, c3, c2⟩
  · obtain ⟨p1, p2, p3, p4, p5⟩ := I.pin p hp
    obtain ⟨_, _, h2⟩ := kept p1 (hpins p hp)
    exact ⟨h2 (notFr p4 p3), p2, p3, p4, p5⟩
  · refine (I.hok a u q).stay (fun b ob hb e => ?_) (fun _ z => z) (fun _ _ z => z)
    have tr : H b ≠ none := by
      rcases hb with rfl | hb
      · rw [q]; exact fun z => nomatch z
      · rw [hb]; exact fun z => nomatch z
    have n1 : b ≠ env.locals := fun z => tr (by rw [z]; exact hL)
    obtain ⟨_, _, h2⟩ := kept e n1
    exact h2 (fun hm => tr (I.stkFree b hm))
end
end Ks

/-! A generator's body, segment by segment: its slots hold plain values, xs is what it hands out. -/
namespace Ks
open PySem PySem.Spec L2 GenW
open PyProof.Rows hiding St
structure GE where
  nx : Nat → L2.St → Hp → Prop
  rt : Nat → V → Hp → Prop
  bk : Nat → L2.St → Hp → Prop := fun _ _ _ => False
  ct : Nat → L2.St → Hp → Prop := fun _ _ _ => False
def GE.at (D : GE) (i : Nat) : Ends := { nx := D.nx i, rt := D.rt i, bk := D.bk i, ct := D.ct i }
abbrev TGf := GE → Nat → L2.St → Hp → Prop
section
variable (X : Cx) (A : Around) (N : List Str) (env : Env) (xs : List V) (N₀ : Nat)
def YF : Protocol := fun n s₀ v s kap => ∃ (i : Nat) (x : V) (σ : L2.St) (H : Hp), n + 1 + i = N₀ ∧ RelV x v ∧ xs[i]? = some x ∧ Inv (rx0 X A N env s₀) [] σ H s ∧ ∀ v, v = .none ∨ v = .bool true → ∀ s', Inv (rx0 X A N env s') [] σ (exact env.locals s'.heap) s' → kap (.send v) s'
def PF (n : Nat) (s₀ s : Shared) : Prop := ∃ (σ : L2.St) (H : Hp), n + xs.length = N₀ ∧ Inv (rx0 X A N env s₀) [] σ H s
def RF : GenEnd := fun n s₀ r s => r = .ok (.ret .none) ∧ PF X A N env xs N₀ n s₀ s
def FP (D : GE) (i : Nat) (s₀ : Shared) (f : Flow) (s : Shared) : Prop :=
  match f with
  | .next => ∃ σ H, Inv (rx0 X A N env s₀) [] σ H s ∧ D.nx i σ H
  | .brk => ∃ σ H, Inv (rx0 X A N env s₀) [] σ H s ∧ D.bk i σ H
  | .cont => ∃ σ H, Inv (rx0 X A N env s₀) [] σ H s ∧ D.ct i σ H
  | .ret u => ∃ v σ H, Inv (rx0 X A N env s₀) [] σ H s ∧ RelV v u ∧ D.rt i v H
structure FC (c : Code) (fs : List Frame) (gd : Bool → Bool) : Prop where
  over : A.over c fs = A.deeper env
  split : splitAtGen fs = none
  guard : fs.any Frame.guarded = false
  gd : gd false = false
def FK (c : Code) (fs : List Frame) (Kc : Flow → Sem PySem.Fin) (D : GE) : Prop := ∀ (n i : Nat) (s₀ s' : Shared) (f : Flow), n + i = N₀ → FP X A N env D i s₀ f s' → Seg (model X.prog X.w) A (RF X A N env xs N₀) (YF X A N env xs N₀) n s₀ c (Kc f) fs s'
structure GF (st : Stmt) (t : TGf) : Prop where
  run : ∀ (n i : Nat) (s₀ : Shared) (c : Code) (fs : List Frame) (Kc : Flow → Sem PySem.Fin) (Jc : Value → Sem PySem.Fin) (gd : Bool → Bool) (lv : List Value → List Value) (s : Shared) (σ : L2.St) (H : Hp) (D : GE), FC A env c fs gd → n + i = N₀ → FK X A N env xs N₀ c fs Kc D →
    Inv (rx0 X A N env s₀) [] σ H s → t D i σ H → Seg (model X.prog X.w) A (RF X A N env xs N₀) (YF X A N env xs N₀) n s₀ c ((exec st env).wrap Kc Jc gd lv) fs s
structure GFs (st : List Stmt) (t : TGf) : Prop where
  run : ∀ (n i : Nat) (s₀ : Shared) (c : Code) (fs : List Frame) (Kc : Flow → Sem PySem.Fin) (Jc : Value → Sem PySem.Fin) (gd : Bool → Bool) (lv : List Value → List Value) (s : Shared) (σ : L2.St) (H : Hp) (D : GE), FC A env c fs gd → n + i = N₀ → FK X A N env xs N₀ c fs Kc D →
    Inv (rx0 X A N env s₀) [] σ H s → t D i σ H → Seg (model X.prog X.w) A (RF X A N env xs N₀) (YF X A N env xs N₀) n s₀ c ((execs st env).wrap Kc Jc gd lv) fs s
end
section
variable {X : Cx} {A : Around} {N : List Str} {env : Env} {xs : List V} {N₀ : Nat} {st : Stmt} {rest : List Stmt}
theorem fp_of {D : GE} {i : Nat} {s₀ : Shared} {f : Flow} {s : Shared} (h : SP (rx0 X A N env s₀) [] (D.at i) f s) : FP X A N env D i s₀ f s := by
  cases f with
  | next => exact h
  | brk => exact h
  | cont => exact h
  | ret u =>
    obtain ⟨v, σ, H, I, r, q⟩ := h
    exact ⟨v, σ, H, I, r, q⟩
def tPlF (t : TS) : TGf := fun D i σ H => t (D.at i) σ H
theorem gf_ps {t : TS} (h : ∀ s₀, PS (rx0 X A N env s₀) st t) : GF X A N env xs N₀ st (tPlF t) := by
  refine ⟨fun n i s₀ c fs Kc Jc gd lv s σ H D g hn k I ht => seg_wrap ?_⟩
  rw [g.over]
  exact wpAny_mono ((h s₀).run [] s σ H (D.at i) I ht) (fun f s' hs => k n i s₀ s' f hn (fp_of hs)) fun x s' hx => hx.elim
theorem gfs_pss {t : TS} (h : ∀ s₀, PSs (rx0 X A N env s₀) rest t) : GFs X A N env xs N₀ rest (tPlF t) := by
  refine ⟨fun n i s₀ c fs Kc Jc gd lv s σ H D g hn k I ht => seg_wrap ?_⟩
  rw [g.over]
  exact wpAny_mono ((h s₀).run [] s σ H (D.at i) I ht) (fun f s' hs => k n i s₀ s' f hn (fp_of hs)) fun x s' hx => hx.elim
def tNilF : TGf := fun D i σ H => D.nx i σ H
theorem gfs_nil : GFs X A N env xs N₀ [] tNilF :=
  ⟨fun n i s₀ c fs Kc Jc gd lv s σ H D g hn k I ht => seg_execs_nil (k n i s₀ s .next hn ⟨σ, H, I, ht⟩)⟩
def tThenF (t u : TGf) : TGf := fun D i σ H => t { D with nx := fun i' σ' H' => u D i' σ' H' } i σ H
theorem gfs_cons {t u : TGf} (a : GF X A N env xs N₀ st t) (b : GFs X A N env xs N₀ rest u) : GFs X A N env xs N₀ (st :: rest) (tThenF t u) := by
  refine ⟨fun n i s₀ c fs Kc Jc gd lv s σ H D g hn k I ht => seg_execs_cons ?_⟩
  refine a.run n i s₀ c fs _ Jc gd lv s σ H { D with nx := fun i' σ' H' => u D i' σ' H' } g hn (fun n' i' s₀' s' f hn' hs => ?_) I ht
  cases f with
  | next =>
    obtain ⟨σ', H', I', q⟩ := hs
    exact b.run n' i' s₀' c fs Kc Jc gd lv s' σ' H' D g hn' k I' q
  | brk => exact k n' i' s₀' s' .brk hn' hs
  | cont => exact k n' i' s₀' s' .cont hn' hs
  | ret u => exact k n' i' s₀' s' (.ret u) hn' hs
/-! ### yield -/
def tYieldF (xs : List V) (te : TE) : TGf := fun D i σ H => i < xs.length ∧ te σ H fun x _ => xs[i]? = some x ∧ ∀ H', D.nx (i + 1) σ H'
theorem gf_yield {e : Expr} {yp pos : Pos} {te : TE} (hN : xs.length < N₀) (he : ∀ s₀, PE (rx0 X A N env s₀) e te) (hco : env.scope.isCoroutine = false := by rfl) (hi : interactive env = false := by rfl) : GF X A N env xs N₀ (.Expr (.Yield (some e) yp) pos) (tYieldF xs te) := by
  refine ⟨fun n i s₀ c fs Kc Jc gd lv s σ H D g hn k I ht => ?_⟩
  obtain ⟨hil, ht⟩ := ht
  obtain ⟨n, rfl⟩ : ∃ m, n = m + 1 := ⟨n - 1, by omega⟩
  refine seg_Expr_Yield g.split g.gd g.guard ?_ hco hi
  rw [g.over]
  refine wpAny_mono ((he s₀).run _ s σ H _ I ht) (fun v s' hv => ?_) fun x s' hx => hx.elim
  obtain ⟨x, H1, I1, rv, hx, q⟩ := hv
  intro kap hk
  refine ⟨i, x, σ, H1, hn, rv, hx, I1, fun v' hv' s'' I2 => ?_⟩
  have z := k n (i + 1) s'' s'' .next (by omega) ⟨σ, _, I2, q _⟩
  rcases hv' with rfl | rfl
  · exact hk .none s'' z
  · exact hk (.bool true) s'' z
/-! ### while -/
theorem fc_loop {c c' : Code} {fs : List Frame} {gd : Bool → Bool} {k : Result → Sem PySem.Fin} {l kp : List Value} {p : Pos} (g : FC A env c fs gd) (hw : c'.weight = 0) (hu : c'.cUnits = 0) : FC A env c' (.ret k none (gd false) l c p kp :: fs) id where
  over := (over_loop hw hu).trans g.over
  split := by
    show (splitAtGen fs).map _ = none
    rw [g.split] <;> rfl
  guard := by
    show (gd false || fs.any Frame.guarded) = false
    rw [g.gd, g.guard] <;> rfl
  gd := rfl
def tWhileF (c : TT) (tb : TGf) : TGf := fun D i σ H => ∃ W : Nat → Nat → L2.St → Hp → Prop, (∃ m, W m i σ H) ∧ ∀ m i σ H, W m i σ H →
  c σ H fun b H1 => if b = true then ∃ Nx : Nat → L2.St → Hp → Prop, (∀ i' σ' H', Nx i' σ' H' → ∃ m', m' < m ∧ W m' i' σ' H') ∧ tb { D with nx := Nx, ct := Nx, bk := D.nx } i σ H1 else D.nx i σ H1
theorem gf_while {test : Expr} {body : List Stmt} {pos : Pos} {tc : TT} {tb : TGf} (hc : ∀ s₀, PT (rx0 X A N env s₀) test tc) (hb : GFs X A N env xs N₀ body tb) : GF X A N env xs N₀ (.While test body [] pos) (tWhileF tc tb) := by
  refine ⟨fun n i s₀ c fs Kc Jc gd lv s σ H D g hn k I ht => ?_⟩
  obtain ⟨W, ⟨m0, w0⟩, turn⟩ := ht
  refine seg_While fun p => ?_
  have gl := fun (kk : Result → Sem PySem.Fin) => fc_loop (k := kk) (c' := .whileLoop test body [] env) (l := lv []) (kp := []) (p := p) g rfl rfl
  have loop : ∀ (m n i : Nat) (s₀ s : Shared) (σ : L2.St) (H : Hp), n + i = N₀ → W m i σ H → Inv (rx0 X A N env s₀) [] σ H s →
      Seg (model X.prog X.w) A (RF X A N env xs N₀) (YF X A N env xs N₀) n s₀ (.whileLoop test body [] env) ((model X.prog X.w).den (.whileLoop test body [] env))
        (.ret (fun r => ((match r with | .ok f => (.pure f : Sem Flow) | .error e => .raise e).onRaise (cameBack env)).wrap Kc Jc gd lv) none (gd false) (lv []) c p [] :: fs) s := by
    intro m
    induction m using Nat.strongRecOn with
    | ind m ih =>
      intro n i s₀ s σ H hn w I
      refine seg_whileLoop ?_
      rw [(gl _).over]
      refine wpAny_mono ((hc s₀).run _ s σ H _ I (turn m i σ H w)) (fun b s' hb' => ?_) fun x s' hx => hx.elim
      obtain ⟨H2, I2, q2⟩ := hb'
      cases b with
      | true =>
        obtain ⟨Nx, hNx, q2⟩ := q2
        rw [if_pos rfl]
        refine hb.run n i s₀ _ _ _ _ id id s' σ H2 { D with nx := Nx, ct := Nx, bk := D.nx } (gl _) hn (fun n' i' s₀' s3 f hn' hs => ?_) I2 q2
        have next : (∃ σ3 H3, Inv (rx0 X A N env s₀') [] σ3 H3 s3 ∧ Nx i' σ3 H3) → ∃ m', m' < m ∧ ∃ σ3 H3, Inv (rx0 X A N env s₀') [] σ3 H3 s3 ∧ W m' i' σ3 H3 := fun ⟨σ3, H3, I3, n3⟩ => by
          obtain ⟨m', hm, w3⟩ := hNx i' σ3 H3 n3
          exact ⟨m', hm, σ3, H3, I3, w3⟩
        cases f with
        | next =>
          obtain ⟨m', hm, σ3, H3, I3, w3⟩ := next hs
          exact seg_again rfl (ih m' hm n' i' s₀' s3 σ3 H3 hn' w3 I3)
        | cont =>
          obtain ⟨m', hm, σ3, H3, I3, w3⟩ := next hs
          exact seg_again rfl (ih m' hm n' i' s₀' s3 σ3 H3 hn' w3 I3)
        | brk => exact seg_leaf (.ok .next) (k n' i' s₀' s3 .next hn' hs)
        | ret v => exact seg_leaf (.ok (.ret v)) (k n' i' s₀' s3 (.ret v) hn' hs)
      | false =>
        rw [if_neg Bool.false_ne_true]
        refine seg_execs_nil ?_
        exact seg_leaf (.ok .next) (k n i s₀ s' .next hn ⟨σ, H2, I2, q2⟩)
  exact loop m0 n i s₀ s σ H hn w0 I
end
end Ks

/-! A generator's whole body, and one turn of a loop over it. -/
namespace Ks
open PySem PySem.Spec L2 GenW
open PyProof.Rows hiding St
/-- how a body ends that hands out xs -/
def endF (xs : List V) : GE := { nx := fun i _ _ => i = xs.length, rt := fun i v _ => v = .non ∧ i = xs.length }
section
variable {X : Cx} {A : Around} {N : List Str} {env : Env} {xs : List V} {N₀ : Nat} {body : List Stmt} {t : TGf}
/-- a generator that no one has woken -/
theorem body_goes (b : GFs X A N env xs N₀ body t) {σ : L2.St} {s : Shared} {H : Hp} (I : Inv (rx0 X A N env s) [] σ H s) (ht : t (endF xs) 0 σ H) :
    GenState.Goes (model X.prog X.w) A (RF X A N env xs N₀) (YF X A N env xs N₀) N₀ (.fresh (.func body env)) (.send .none) s := by
  refine ⟨rfl, seg_func ?_⟩
  refine b.run N₀ 0 s _ [] _ _ id id s σ H (endF xs) ⟨over_func, rfl, rfl, rfl⟩ (Nat.add_zero _) (fun n i s₀ s' f hn hs => ?_) I ht
  cases f with
  | next =>
    obtain ⟨σ', H', I', q⟩ := hs
    have q' : i = xs.length := q
    exact seg_end (.ok (.ret .none)) ⟨rfl, σ', H', by omega, I'⟩
  | brk => obtain ⟨_, _, _, q⟩ := hs; exact False.elim q
  | cont => obtain ⟨_, _, _, q⟩ := hs; exact False.elim q
  | ret u =>
    obtain ⟨v, σ', H', I', rv, q1, q2⟩ := hs
    subst q1
    have eu : u = Value.none := rv
    subst eu
    exact seg_end (.ok (.ret .none)) ⟨rfl, σ', H', by omega, I'⟩
end
section
variable {X : Cx} {N : List Str} {env : Env} {xs : List V} {N₀ : Nat} {pins : List (Addr × Obj)} {σ : L2.St} {H : Hp} {s : Shared}
/-- where the frame at L stands among the consumer's -/
structure Beside (X : Cx) (env : Env) (pins : List (Addr × Obj)) (H : Hp) : Prop where
  free : H env.locals = none
  young : X.env.locals < env.locals
  cell : ∀ x c, X.env.cells.lookup x = some c → c ≠ env.locals
  pins : ∀ p ∈ X.pn ++ pins, p.1 ≠ env.locals
  stk : ∀ b ∈ frs X.stack, b < env.locals
  base : X.base.objs.size ≤ env.locals
  nofs : env.locals ∉ X.fs
/-- the frame's slots -/
def Slots (N : List Str) (env : Env) (σg : L2.St) (h : Heap) : Prop := σg.length = N.length ∧ ∃ m, h.Ns env.locals m ∧ ∀ (i : Nat) (x : Str) (v : V), N[i]? = some x → σg[i]? = some (some v) → Vis env.scope x → ∃ u, RelV v u ∧ m x = some u
theorem Inv.gens {g : Nat} {gs : GenState} (I : Inv X pins σ H s) (hb : AllBare (s.setGen g gs).gens) : Inv X pins σ H (s.setGen g gs) :=
  I.call' (ch := []) rfl (Un.kept fun _ _ e => e) I.hok hb fun b hb => nomatch hb
theorem bare_running {g : Nat} (h : AllBare s.gens) : AllBare (s.setGen g .running).gens := allBare_setGen h rfl
theorem seg_in {s' : Shared} {H' : Hp} {pins' : List (Addr × Obj)} {σ' σg : L2.St} {A : Around} (I : Inv X pins' σ' H' s') (hc : X.calm = true) (hf : A.frames = X.A.frames) (hh : A.handled = X.A.handled) (G : GEnv N env) (B : Beside X env pins H) (S : Slots N env σg s'.heap) :
    Inv (rx0 X A N env s') [] σg (exact env.locals s'.heap) s' := by
  have hl : env.locals < s'.heap.objs.size := by
    obtain ⟨_, m, h1, _⟩ := S
    exact h1.lt
  exact rx0_in I hc hf hh G hl B.stk B.base S.2 S.1
/-- one turn -/
theorem next_turn {a : Addr} {g m : Nat} {gs : GenState} {Q : Option Value → Shared → Prop} {E : Value → Shared → Prop} (I : Inv X pins σ H s) (hc : X.calm = true) (hroom : X.A.depth < recursionLimit) (ro : RestOk s.gens) (G : GEnv N env) (B : Beside X env pins H)
    (hg : s.heap.IsGen a g) (hgs : s.gens[g]? = some gs)
    (hgo : gs.Goes (model X.prog X.w) X.A.in1 (RF X X.A.in1 N env xs N₀) (YF X X.A.in1 N env xs N₀) (m + 1) (.send .none) (s.setGen g .running))
    (hY : ∀ v x i σg s' gs', m + 1 + i = N₀ → RelV x v → xs[i]? = some x → s'.gens[g]? = some gs' → (∃ k l c p fs cl, gs' = .suspended k l c p fs cl) → RestOk s'.gens → Inv X pins σ H s' → Slots N env σg s'.heap →
      (∀ s'', Inv (rx0 X X.A.in1 N env s'') [] σg (exact env.locals s''.heap) s'' → gs'.Goes (model X.prog X.w) X.A.in1 (RF X X.A.in1 N env xs N₀) (YF X X.A.in1 N env xs N₀) m (.send .none) s'') → Q (some v) s')
    (hN : m + 1 + xs.length = N₀ → ∀ s', RestOk s'.gens → Inv X pins σ H s' → Q none s') : wpAny (model X.prog X.w) X.A (pyNext (.ref a)) Q E s := by
  have hgl : g < s.gens.size := (Array.getElem?_eq_some_iff.mp hgs).1
  have I0 : Inv X pins σ H (s.setGen g .running) := Inv.gens I (bare_running I.bare)
  have out : ∀ {σg : L2.St} {H1 : Hp} {s1 : Shared}, Inv (rx0 X X.A.in1 N env (s.setGen g .running)) [] σg H1 s1 → Inv X pins σ H s1 := fun J => rx0_out I0 B.free B.young B.cell B.pins J
  refine wpAny_rest ro (wpAny_gsz (n := g + 1) hgl (wpAny_pyNext_gen (P := PF X X.A.in1 N env xs N₀) (I.ok.hd hc) I.nolimit hroom hg hgs hgo (fun v s1 gs' hy hsz hr => ?_) (fun s1 hp h' hk hsz hr => ?_)))
  · obtain ⟨i, x, σg, H1, hn, rv, hx, J, hk⟩ := hy
    have q : (s1.setGen g gs').gens.size = s1.gens.size := setGen_size _ _ _
    have hsz' : g + 1 ≤ (s1.setGen g gs').gens.size := hsz
    have hsz1 : g < s1.gens.size := by omega
    have S1 : Slots N env σg (s1.setGen g gs').heap := ⟨J.len, (rx0_loc G J : ∃ m, s1.heap.Ns env.locals m ∧ _)⟩
    have I1 := Inv.gens (out J) hr.bare
    have K1 := seg_in (A := X.A.in1) I1 hc rfl rfl G B S1
    have hsu : ∃ k l c p fs cl, gs' = .suspended k l c p fs cl := by
      have z := hk (.bool true) (.inr rfl) _ K1
      cases gs' with
      | fresh c => exact nomatch z.1
      | suspended k l c p fs cl => exact ⟨k, l, c, p, fs, cl, rfl⟩
      | running => exact z.elim
      | finished => exact z.elim
    exact hY v x i σg _ gs' hn rv hx (setGen_at hsz1) hsu hr I1 S1 fun s'' K => hk .none (.inl rfl) s'' K
  · obtain ⟨σg, H1, hn, J⟩ := hp
    have J1 := out J
    exact hN hn _ hr (J1.call' (ch := []) rfl (Un.kept hk) (J1.hok.kept hk) hr.bare fun b hb => nomatch hb)
end
end Ks

/-! A loop over a generator. -/
namespace Ks
open PySem PySem.Spec L2 GenW
open PyProof.Rows hiding St
/-- what is handed out, turn by turn -/
def Itg (xs : List V) : It := { go := fun i _ => i < xs.length, yld := fun i H x H' => H' = H ∧ xs[i]? = some x, stop := fun i _ => i = xs.length }
section
variable (X : Cx) (N : List Str) (env : Env) (xs : List V) (N₀ : Nat)
/-- the generator at g rests, i handed out -/
structure GLoop (g : Nat) (pins : List (Addr × Obj)) (i : Nat) (σ : L2.St) (H : Hp) (s : Shared) : Prop where
  inv : Inv X pins σ H s
  rest : RestOk s.gens
  side : Beside X env pins H
  le : i ≤ xs.length
  gen : ∃ gs σg, s.gens[g]? = some gs ∧ Slots N env σg s.heap ∧ ∀ s'', Inv (rx0 X X.A.in1 N env s'') [] σg (exact env.locals s''.heap) s'' → gs.Goes (model X.prog X.w) X.A.in1 (RF X X.A.in1 N env xs N₀) (YF X X.A.in1 N env xs N₀) (N₀ - i) (.send .none) s''
end
section
variable {X : Cx} {N : List Str} {env : Env} {xs : List V} {N₀ : Nat} {pins : List (Addr × Obj)} {σ : L2.St} {H : Hp} {s : Shared}
theorem loopG {tg : Expr} {body : List Stmt} {gg : TG} {tb : TS} {D : Ends} {a : Addr} {oa : Obj} {g : Nat} (hc : X.calm = true) (hx : ∀ e s', X.xe e s' → False) (hroom : X.A.depth < recursionLimit) (G : GEnv N env) (hN : xs.length < N₀)
    (hg : PG X tg gg) (hb : PRs X body tb) (hpa : (a, oa) ∈ pins) (hoa : ∃ nm qn, oa.cls = .type "generator" ∧ oa.data = .fields #[.int g 0, nm, qn] ∧ oa.slots = #[]) (L : GLoop X N env xs N₀ g pins 0 σ H s)
    (rd : ∃ W : Nat → Nat → L2.St → Hp → Prop, (∃ m, W 0 m σ H) ∧ ∀ i m σ H, W i m σ H → ((Itg xs).stop i H ∧ D.nx σ H) ∨ ((Itg xs).go i H ∧ ∃ Nx : L2.St → Hp → Prop, (∀ σ' H', Nx σ' H' → ∃ m', m' < m ∧ W (i + 1) m' σ' H') ∧ ∀ x H', (Itg xs).yld i H x H' → gg x σ H' fun σ2 H2 => tb { D with nx := Nx, ct := Nx, bk := D.nx } σ2 H2)) :
    codeAny (model X.prog X.w) X.A (.forLoop tg (.ref a) body [] X.env) (fun r s' => match r with | .ok f => SP X pins D f s' | .error e => cameBackBy (model X.prog X.w) X.A X.env X.xe e s') s := by
  obtain ⟨W, ⟨m0, w0⟩, turn⟩ := rd
  obtain ⟨nm, qn, oc, od, os⟩ := hoa
  have hp : PassesOwn (model X.prog X.w) X.A X.env X.xe := fun e s' z => (hx e s' z).elim
  refine codeAny_forLoop_any (fun n s' => ∃ i σ' H', GLoop X N env xs N₀ g pins i σ' H' s' ∧ W i n σ' H') ?_ m0 ⟨0, σ, H, L, w0⟩
  rintro n s3 ⟨i, σ3, H3, ⟨I3, ro3, B3, le3, gs, σg, hgs, S3, go3⟩, w3⟩
  have hgo := go3 (s3.setGen g .running) (seg_in (Inv.gens I3 (bare_running I3.bare)) hc rfl rfl G B3 S3)
  obtain ⟨m1, hm1⟩ : ∃ m1, N₀ - i = m1 + 1 := ⟨N₀ - i - 1, by omega⟩
  rw [hm1] at hgo
  have hga : ∀ {s' : Shared} {σ' : L2.St} {H' : Hp}, Inv X pins σ' H' s' → s'.heap.get? a = some oa := fun I => (I.pin (a, oa) (List.mem_append_right _ hpa)).1
  refine next_turn I3 hc hroom ro3 G B3 ⟨oa, nm, qn, hga I3, oc, od, os⟩ hgs hgo (fun v x j σg' s5 gs' hj rv hxs hg5 hsu ro5 I5 S5 k5 => ?_) (fun hn s5 ro5 I5 => ?_)
  · have ej : j = i := by omega
    subst ej
    have jl : j < xs.length := (List.getElem?_eq_some_iff.mp hxs).1
    rcases turn j n σ3 H3 w3 with ⟨stop, qn'⟩ | ⟨go, Nx, hNx, step⟩
    · have e : j = xs.length := stop
      exact absurd jl (by omega)
    refine go_of (hga I5) oc od (by decide) ?_
    obtain ⟨k, l, c, p, fs, cl, rfl⟩ := hsu
    obtain ⟨sl, mL, ⟨oL, es, ep, eL, dL, rL⟩, lk⟩ := S5
    have rk : noGen fs ∧ cl = false := ro5 g _ hg5
    have es5 : (s5.setGen g (dead l c p fs cl)).setGen g (live k l c p fs cl) = s5 := by
      have hl : g < s5.gens.size := (Array.getElem?_eq_some_iff.mp hg5).1
      have : (s5.gens.setIfInBounds g (dead l c p fs cl)).setIfInBounds g (live k l c p fs cl) = s5.gens := by
        refine Array.ext_getElem? fun q => ?_
        rw [Array.getElem?_setIfInBounds]
        by_cases hq : g = q
        · subst hq
          rw [if_pos rfl, if_pos (by simpa using hl)]
          exact hg5.symm
        · rw [if_neg hq, Array.getElem?_setIfInBounds, if_neg hq]
      show { s5 with gens := (s5.gens.setIfInBounds g (dead l c p fs cl)).setIfInBounds g (live k l c p fs cl) } = s5
      rw [this]
    have rod : RestOk (s5.setGen g (dead l c p fs cl)).gens := rest_set ro5 rk
    have cd : (s5.setGen g (dead l c p fs cl)).gens[g]? = some (dead l c p fs cl) := get_eq hg5
    have Id : Inv X (pins ++ [(env.locals, oL)]) σ3 H3 (s5.setGen g (dead l c p fs cl)) := by
      refine (Inv.gens I5 rod.bare).pins_of fun p' hp' => ?_
      rcases List.mem_append.mp hp' with z | z
      · exact (Inv.gens I5 rod.bare).pin p' (List.mem_append_right _ z)
      · rw [List.mem_singleton.mp z]
        exact ⟨eL, B3.free, Nat.ne_of_gt B3.young, B3.nofs, fun v q => by rw [dL] at q; cases q⟩
    have key := wpAny_kept (k₀ := k) rod cd (hg.run _ _ σ3 H3 x v _ Id rv (step x H3 ⟨rfl, hxs⟩))
    rw [es5] at key
    refine wpAny_mono key (fun _ z hz => ?_) (fun e z hz => ?_)
    · obtain ⟨s6, ⟨rfl, c6, ro6⟩, σ6, H6, I6, q6⟩ := hz
      refine wpAny_mono (wpAny_kept (k₀ := k) ro6 c6 (hb.run _ s6 σ6 H6 _ I6 ro6 q6)) (fun f z hz => ?_) (fun e z hz => ?_)
      · obtain ⟨s7, ⟨rfl, c7, ro7⟩, q7⟩ := hz
        have roz : RestOk (s7.setGen g (live k l c p fs cl)).gens := rest_set ro7 rk
        have Iz : ∀ {σ7 : L2.St} {H7 : Hp}, Inv X (pins ++ [(env.locals, oL)]) σ7 H7 s7 → Inv X pins σ7 H7 (s7.setGen g (live k l c p fs cl)) := fun I7 => Inv.gens I7.unpinned roz.bare
        have again : ∀ {σ7 : L2.St} {H7 : Hp}, Inv X (pins ++ [(env.locals, oL)]) σ7 H7 s7 → Nx σ7 H7 → ∃ m, m < n ∧ ∃ i σ' H', GLoop X N env xs N₀ g pins i σ' H' (s7.setGen g (live k l c p fs cl)) ∧ W i m σ' H' := fun {σ7 H7} I7 n7 => by
          obtain ⟨m', hm, w7⟩ := hNx σ7 H7 n7
          have pL := I7.pin (env.locals, oL) (List.mem_append_right _ (List.mem_append_right _ (List.mem_singleton.mpr rfl)))
          refine ⟨m', hm, j + 1, σ7, H7, ⟨Iz I7, roz, ⟨pL.2.1, B3.young, B3.cell, B3.pins, B3.stk, B3.base, B3.nofs⟩, jl, live k l c p fs cl, σg', get_eq c7, ⟨sl, mL, ⟨oL, es, ep, pL.1, dL, rL⟩, lk⟩, ?_⟩, w7⟩
          have e1 : N₀ - (j + 1) = m1 := by omega
          rw [e1]
          exact k5
        cases f with
        | next => obtain ⟨σ7, H7, I7, n7⟩ := q7; exact again I7 n7
        | cont => obtain ⟨σ7, H7, I7, n7⟩ := q7; exact again I7 n7
        | brk => obtain ⟨σ7, H7, I7, q7⟩ := q7; exact ⟨σ7, H7, Iz I7, q7⟩
        | ret v => obtain ⟨x7, σ7, H7, I7, r7, q7⟩ := q7; exact ⟨x7, σ7, H7, Iz I7, r7, q7⟩
      · obtain ⟨s7, _, q⟩ := hz
        exact (hx e s7 q).elim
    · obtain ⟨s6, _, q⟩ := hz
      exact (hx e s6 q).elim
  · rcases turn i n σ3 H3 w3 with ⟨stop, qn'⟩ | ⟨go, Nx, hNx, step⟩
    · exact wpAny_execs_nil ⟨σ3, H3, I5, qn'⟩
    · have hlt : i < xs.length := go
      exact absurd hlt (by omega)
end
end Ks

/-! A generator def: what its call makes. -/
namespace Ks
open PySem PySem.Spec L2 GenW
open PyProof.Rows hiding St
/-- a generator has come: its frame and its slots, and what it hands out from any consumer's loop -/
def MadeF (P : Program) (w : World) (K : PySem.W.Frag) (mg : Str → Option Value) (base : Heap) (k : Nat) (N : List Str) (xs : List V) (s : Shared) (u : Value) (s' : Shared) : Prop :=
  ∃ (a g : Nat) (oa : Obj) (nm qn : Value) (env : Env) (gs : GenState) (σg : L2.St), u = .ref a ∧ s.heap.objs.size ≤ a ∧ s'.heap.get? a = some oa ∧ oa.cls = .type "generator" ∧ oa.data = .fields #[.int g 0, nm, qn] ∧ oa.slots = #[] ∧
    s'.gens[g]? = some gs ∧ s'.os = s.os ∧ RestOk s'.gens ∧ (∀ b o, s.heap.get? b = some o → s'.heap.get? b = some o) ∧ GEnv N env ∧ s.heap.objs.size ≤ env.locals ∧ env.locals ≠ a ∧ Slots N env σg s'.heap ∧
    ∀ (X : Cx) (s'' : Shared), X.prog = P → X.w = w → X.K = K → X.mg = mg → X.base = base → X.calm = true → Room (k + 2) X.A → Inv (rx0 X X.A.in1 N env s'') [] σg (exact env.locals s''.heap) s'' →
      gs.Goes (model X.prog X.w) X.A.in1 (RF X X.A.in1 N env xs (xs.length + 1)) (YF X X.A.in1 N env xs (xs.length + 1)) (xs.length + 1) (.send .none) s''
structure GFnF (P : Program) (w : World) (K : PySem.W.Frag) (mg : Str → Option Value) (base : Heap) (k : Nat) (f : Addr) (fd : FuncData) (ps N : List Str) (sp : List V → List V → Prop) : Prop where
  len : ∀ vs xs, sp vs xs → vs.length = ps.length
  run : ∀ (A : Around) (outer : List Env) (s : Shared) (H : Hp) (args : Args) (us : List Value) (vs xs : List V), Room k A → Env0 P w K mg base A outer s H → RestOk s.gens → BindsTo s fd args (ps.zip us) → Vals vs us → sp vs xs →
    codeAny (model P w) A (.call (.ref f) args) (fun r s' => match r with | .ok (.ret u) => MadeF P w K mg base k N xs s u s' | _ => False) s
theorem gfnF_of {P : Program} {w : World} {K : PySem.W.Frag} {mg : Str → Option Value} {base : Heap} {k : Nat} {f : Addr} {name qual : Str} {params : Arguments} {body : List Stmt} {scope : Scope} {dV kV doc pm cdv ct oc : Value} {an od : Option Addr}
    {osl : Array (Option Value)} {N ps : List Str} {sp : List V → List V → Prop} (lk : K.lookup f = some ⟨oc, od, .func (PySem.W.fnOf name qual params body scope dV kV doc pm an cdv ct), osl⟩) (hcd : PySem.W.codeIn K cdv qual = true) (S : GScope N ps scope)
    (hG : ∀ L, GEnv N (envOfC qual scope L f cdv)) (len : ∀ vs xs, sp vs xs → vs.length = ps.length)
    (hbody : ∀ (X : Cx) (L : Addr) (vs xs : List V), X.prog = P → X.w = w → X.K = K → X.mg = mg → X.base = base → X.calm = true → Room k (X.A.in1.deeper (envOfC qual scope L f cdv)) → sp vs xs →
      ∃ t, GFs X X.A.in1 N (envOfC qual scope L f cdv) xs (xs.length + 1) body t ∧ ∀ H, t (endF xs) 0 (start N vs) H) :
    GFnF P w K mg base k f (PySem.W.fnOf name qual params body scope dV kV doc pm an cdv ct) ps N sp := by
  refine ⟨len, fun A outer s H args us vs xs hr e0 ro hb r hsp => ?_⟩
  have hl := len _ _ hsp
  have KX : K.In s.heap := e0.mod.kin.keeps fun b o e => (e0.bs b o e).1
  have lim : s.heap.NoLimit := e0.mod.nolimit.keeps fun b o e => (e0.bs b o e).1
  have hkind : ∀ y ∈ ps.zip us, scope.names.lookup y.1 = some .local ∨ (scope.names.lookup y.1 = some .cell ∧ ((cellsFrom (s.heap.objs.size + 1) scope.names []).lookup y.1).isSome = true) := fun ⟨n, v⟩ hy => by
    rcases S.par n (List.of_mem_zip hy).1 with q | q
    · exact .inl q
    · exact .inr ⟨q, PySem.W.cellsFrom_some _ _ _ (.inl q)⟩
  refine codeAny_call_generator hr.depth (KX _ _ lk) rfl S.co S.gen rfl (PySem.W.codeRec_of KX hcd) (hb _ _ _ _ ?_)
  refine wpAny_newFunctionEnv_cells S.kind hkind fun env he s1 x => ?_
  subst he
  have lim1 : s1.heap.NoLimit := lim.keeps x.toInCall.keep
  refine ⟨lim1, ?_⟩
  obtain ⟨h1, tk, es1, hk1⟩ := x.done
  have os1 : s1.os = s.os := by rw [es1]
  have gen1 : s1.gens = s.gens := by rw [es1]
  have lt1 : s.heap.objs.size < s1.heap.objs.size := x.toInCall.ns.lt
  have sz1 : s.heap.objs.size ≤ s1.heap.objs.size := Nat.le_of_lt lt1
  have kp1 : ∀ b o, s.heap.get? b = some o → s1.heap.get? b = some o := x.toInCall.keep
  have I1 : Inv (gcxOf P w K mg base N qual scope f cdv A outer s H (fun _ _ _ => False) []) [] (start N vs) H s1 := inv_startG S hr.hd e0 hl r x
  have main : ∀ (go : Obj) (nm qn : Value) (tk2 : Nat), go.cls = .type "generator" → go.data = .fields #[.int s1.gens.size 0, nm, qn] → go.slots = #[] → (∀ h : Heap, (h.push go).get? h.objs.size = some go) →
      MadeF P w K mg base k N xs s (.ref s1.heap.objs.size) { s1 with gens := s1.gens.push (.fresh (.func body (envOfC qual scope s.heap.objs.size f cdv))), toks := tk2, heap := s1.heap.push go } := by
    intro go nm qn tk2 hgc hgd0 hgs hgp
    have kp2 : ∀ b o, s1.heap.get? b = some o → (s1.heap.push go).get? b = some o := fun b o e => Heap.get?_push_of_some _ e
    refine ⟨s1.heap.objs.size, s1.gens.size, go, nm, qn, _, _, start N vs, rfl, sz1, hgp _, hgc, hgd0, hgs, Array.getElem?_push_size .., os1, rest_push (by rw [gen1]; exact ro) trivial, fun b o e => kp2 b o (kp1 b o e), hG s.heap.objs.size, Nat.le_refl _, Nat.ne_of_lt lt1, ?_, ?_⟩
    · refine ⟨I1.len, ?_⟩
      obtain ⟨m, h2, h3⟩ := I1.loc
      refine ⟨m, h2.at' fun o e => kp2 _ o e, fun i x v hx hv vis => ?_⟩
      obtain ⟨u, ru, lk⟩ := h3 i x v hx hv vis
      refine ⟨u, ru, ?_⟩
      rcases lk with lk | ⟨kk, c, hc, _⟩
      · exact lk.2
      · have e : (envOfC qual scope s.heap.objs.size f cdv).cells.lookup x = some c := hc
        rw [(hG s.heap.objs.size).cells] at e
        cases e
    · intro X s'' e1 e2 e3 e4 e5 hc hrX J
      obtain ⟨t, ht, hq⟩ := hbody X s.heap.objs.size vs xs e1 e2 e3 e4 e5 hc (hrX.in1.deeper _) hsp
      exact body_goes ht J (hq _)
  exact main _ _ _ _ rfl rfl rfl fun h => Heap.get?_push_size _ rfl
end Ks

/-! for x in g(...): of a generator def. -/
namespace Ks
open PySem PySem.Spec L2 GenW
open PyProof.Rows hiding St
def tForG (dvs : List V) (sp : List V → List V → Prop) (t : TA) (g : TG) (tb : TS) : TS := fun D σ H => t σ H fun vs H1 => ∃ xs, sp (vs ++ dvs) xs ∧ ∃ W : Nat → Nat → L2.St → Hp → Prop, (∃ m, W 0 m σ H1) ∧ ∀ i m σ H, W i m σ H →
  ((Itg xs).stop i H ∧ D.nx σ H) ∨ ((Itg xs).go i H ∧ ∃ Nx : L2.St → Hp → Prop, (∀ σ' H', Nx σ' H' → ∃ m', m' < m ∧ W (i + 1) m' σ' H') ∧ ∀ x H', (Itg xs).yld i H x H' → g x σ H' fun σ2 H2 => tb { D with nx := Nx, ct := Nx, bk := D.nx } σ2 H2)
section
variable {X : Cx} {N : List Str} {pins pl : List (Addr × Obj)} {σ : L2.St} {H : Hp} {s : Shared}
theorem sp_unpin {D : Ends} {f : Flow} (h : SP X (pins ++ pl) D f s) : SP X pins D f s := by
  cases f with
  | next => obtain ⟨σ, H, I, q⟩ := h; exact ⟨σ, H, I.unpinned, q⟩
  | brk => obtain ⟨σ, H, I, q⟩ := h; exact ⟨σ, H, I.unpinned, q⟩
  | cont => obtain ⟨σ, H, I, q⟩ := h; exact ⟨σ, H, I.unpinned, q⟩
  | ret u => obtain ⟨v, σ, H, I, r, q⟩ := h; exact ⟨v, σ, H, I.unpinned, r, q⟩
theorem stk_lt (I : Inv X pins σ H s) {b : Addr} (hb : b ∈ frs X.stack) : b < s.heap.objs.size := by
  refine Nat.lt_of_not_le fun z => ?_
  rcases List.mem_cons.mp (I.stkSub b hb) with q | q
  · exact absurd I.lt (by rw [← q]; exact Nat.not_lt.mpr z)
  · exact I.nofs z q
theorem made_loop {k : Nat} {xs : List V} {u : Value} {s' : Shared} {tg : Expr} {body : List Stmt} {gg : TG} {tb : TS} {D : Ends} (hr : Room (k + 2) X.A) (hc : X.calm = true) (hx : ∀ e s', X.xe e s' → False) (hg : PG X tg gg) (hb : PRs X body tb)
    (I : Inv X pins σ H s) (M : MadeF X.prog X.w X.K X.mg X.base k N xs s u s')
    (rd : ∃ W : Nat → Nat → L2.St → Hp → Prop, (∃ m, W 0 m σ H) ∧ ∀ i m σ H, W i m σ H → ((Itg xs).stop i H ∧ D.nx σ H) ∨ ((Itg xs).go i H ∧ ∃ Nx : L2.St → Hp → Prop, (∀ σ' H', Nx σ' H' → ∃ m', m' < m ∧ W (i + 1) m' σ' H') ∧ ∀ x H', (Itg xs).yld i H x H' → gg x σ H' fun σ2 H2 => tb { D with nx := Nx, ct := Nx, bk := D.nx } σ2 H2)) :
    wpAny (model X.prog X.w) X.A (pyIter u) (fun it s2 => codeAny (model X.prog X.w) X.A (.forLoop tg it body [] X.env) (fun r s' => match r with | .ok f => SP X pins D f s' | .error e => cameBackBy (model X.prog X.w) X.A X.env X.xe e s') s2) X.xe s' := by
  obtain ⟨a, g, oa, nm, qn, env, gs, σg, rfl, ha, hoa, oc, od, os, hgs, hos, ro, kp, G, hL, hLa, S, go⟩ := M
  refine wpAny_pyIter_gen (g := g) ⟨oa, nm, qn, hoa, oc, od, os⟩ ?_
  have I1 : Inv X pins σ H s' := I.call' (ch := []) hos (Un.kept kp) (I.hok.kept kp) ro.bare fun b hb => nomatch hb
  have I2 : Inv X (pins ++ [(a, oa)]) σ H s' := by
    refine I1.pins_of fun p hp => ?_
    rcases List.mem_append.mp hp with z | z
    · exact I1.pin p (List.mem_append_right _ z)
    · rw [List.mem_singleton.mp z]
      exact ⟨hoa, I.hok.fresh ha, Nat.ne_of_gt (Nat.lt_of_lt_of_le I.lt ha), I.nofs ha, fun v q => by rw [od] at q; cases q⟩
  have B : Beside X env (pins ++ [(a, oa)]) H := by
    refine ⟨I.hok.fresh hL, Nat.lt_of_lt_of_le I.lt hL, fun x c e z => ?_, fun p hp z => ?_, fun b hb => Nat.lt_of_lt_of_le (stk_lt I hb) hL, Nat.le_trans I.env0.bsz hL, I.nofs hL⟩
    · obtain ⟨v, q⟩ := I.cell x c e
      exact absurd (Nat.lt_of_lt_of_le q.lt (by rw [z]; exact hL)) (Nat.lt_irrefl _)
    · have old : ∀ {p : Addr × Obj}, p ∈ X.pn ++ pins → p.1 = env.locals → False := fun {p} hp z => absurd (Nat.lt_of_lt_of_le (Heap.lt_size (I.pin p hp).1) (by rw [z]; exact hL)) (Nat.lt_irrefl _)
      rcases List.mem_append.mp hp with q | q
      · exact old (List.mem_append_left _ q) z
      · rcases List.mem_append.mp q with q | q
        · exact old (List.mem_append_right _ q) z
        · rw [List.mem_singleton.mp q] at z
          exact hLa z.symm
  have L : GLoop X N env xs (xs.length + 1) g (pins ++ [(a, oa)]) 0 σ H s' := ⟨I2, ro, B, Nat.zero_le _, gs, σg, hgs, S, fun s'' J => go X s'' rfl rfl rfl rfl rfl hc hr J⟩
  refine codeAny_mono (loopG hc hx hr.depth G (Nat.lt_succ_self _) hg hb (List.mem_append_right _ (List.mem_singleton.mpr rfl)) ⟨nm, qn, oc, od, os⟩ L rd) fun r s2 hq => ?_
  cases r with
  | error e => exact hq
  | ok f => exact sp_unpin hq
/-- THE RULE -/
theorem pr_forG {k : Nat} {f : Addr} {fd : FuncData} {ps : List Str} {sp : List V → List V → Prop} {x : Str} {p cpos pos : Pos} {e tg : Expr} {es : List Expr} {body : List Stmt} {t : TA} {gg : TG} {tb : TS} {ds : List Value} {dvs : List V}
    (F : GFnF X.prog X.w X.K X.mg X.base k f fd ps N sp) (hr : Room (k + 2) X.A) (hc : X.calm = true) (hx : ∀ e s', X.xe e s' → False) (hg : Gl X x) (hm : X.mg x = some (.ref f)) (hk : PySem.W.keepIn X.K (.ref f) = true) (hb : Binds X.K fd ps ds) (hd : Vals dvs ds)
    (ha : PA X (e :: es) t) (hpg : PG X tg gg) (hbd : PRs X body tb) (hdb : (x == ("__debug__" : Str)) = false := by decide) (he : starEach (e :: es) X.env = (false, eval e X.env) :: starEach es X.env := by rfl) (hpl : (backTo cpos (starEach es X.env)).any (·.1) = false := by rfl)
    (hs : ∀ y, foldedSetIterable (.Call (.Name x p) (e :: es) [] cpos) X.env y = pure y := by intro _; rfl) :
    PR X (.For tg (.Call (.Name x p) (e :: es) [] cpos) body [] pos) (tForG dvs sp t gg tb) := by
  refine ⟨fun pins s σ H D I ro h => ?_⟩
  refine wpAny_For ?_ hs
  refine wpAny_Call_Name_kw (ld_glob I hg hm ?_ hdb)
  refine PySem.W.callWith_K (h₀ := X.base) I.ok.mod.kin hk (wpAny_rest ro (wpAny_mono (ha.run cpos pins s σ H _ I h) (fun us s1 z ro1 => ?_) fun _ _ z _ => z)) he hpl
  obtain ⟨vs, H1, I1, r, xs, hsp, rd⟩ := z
  refine ⟨I1.kIn, ?_⟩
  have r2 : Vals (vs ++ dvs) (us ++ ds) := r.append hd
  have hl2 : (us ++ ds).length = ps.length := by rw [← r2.length]; exact F.len _ _ hsp
  refine wpAny_call (codeAny_mono (F.run X.A X.stack s1 H1 ⟨us, []⟩ (us ++ ds) (vs ++ dvs) xs (hr.mono (by omega)) I1.env0 ro1 (hb s1 us I1.kIn hl2) r2 hsp) fun r s' hq => ?_)
  cases r with
  | error e => exact False.elim hq
  | ok fl =>
    cases fl with
    | ret u => exact made_loop hr hc hx hpg hbd I1 hq rd
    | next => exact False.elim hq
    | brk => exact False.elim hq
    | cont => exact False.elim hq
end
end Ks

/-! Loops, defs and the law's call where no resting generator has another one's frame in it. -/
namespace Ks
open PySem PySem.Spec L2 GenW
open PyProof.Rows hiding St
theorem thnR {α : Type} {M : Model} {A : Around} {E : Value → Shared → Prop} {s : Shared} {t : Sem α} {Q Q' : α → Shared → Prop} (ro : RestOk s.gens) (h : wpAny M A t Q E s) (hQ : ∀ a s', RestOk s'.gens → Q a s' → Q' a s') : wpAny M A t Q' E s :=
  wpAny_rest ro (wpAny_mono h (fun a s' q r => hQ a s' r q) fun _ _ z _ => z)
section
variable {X : Cx} {tg : Expr}
theorem pr_for {iter : Expr} {body : List Stmt} {wi : TI} {g : TG} {tb : TS} {pos : Pos} (hp : PassesOwn (model X.prog X.w) X.A X.env X.xe) (hc : X.calm = true) (hi : PI X tg iter wi) (hg : PG X tg g) (hb : PRs X body tb)
    (hs : ∀ x, foldedSetIterable iter X.env x = pure x := by intro _; rfl) : PR X (.For tg iter body [] pos) (tFor wi g tb) := by
  refine ⟨fun pins s σ H D I ro h => ?_⟩
  refine wpAny_For (thnR ro (hi.run pins s σ H _ I h) fun v s1 ro1 h1 => thnR ro1 h1 fun itv s2 ro2 h2 => ?_) hs
  obtain ⟨it, fp, tn, J, H2, e, I2, T, st2, f2, W, ⟨m0, w0⟩, turn⟩ := h2
  subst e
  have stat : ∀ {H' : Hp}, (∀ b ∈ fp, H' b = none) → ∀ b ∈ fp, FpOk X pins H' b := fun hn b hb => ⟨hn b hb, (f2 b hb).2⟩
  refine codeAny_forLoop_any (fun n s' => ∃ i σ' H', RestOk s'.gens ∧ Inv X pins σ' H' s' ∧ tn i s'.heap ∧ (∀ b ∈ fp, H' b = none) ∧ W i n σ' H') ?_ m0 ⟨0, σ, H2, ro2, I2, st2, fun b hb => (f2 b hb).1, w0⟩
  rintro n s3 ⟨i, σ3, H3, ro3, I3, st3, fr3, w3⟩
  rcases turn i n σ3 H3 w3 with ⟨stop, qn⟩ | ⟨go, N, hN, step⟩
  · refine wpAny_passesOwn hp (thn (T.done X rfl rfl rfl hc i pins s3 σ3 H3 X.xe I3 (stat fr3) st3 stop) fun r s4 ⟨hr, I4⟩ => ?_)
    subst hr
    exact wpAny_execs_nil ⟨σ3, H3, I4, qn⟩
  · refine wpAny_passesOwn hp (thnR ro3 (T.item X rfl rfl rfl hc i pins s3 σ3 H3 X.xe I3 (stat fr3) st3 go) fun r s4 ro4 ⟨u, hr, h4⟩ => ?_)
    subst hr
    refine wpAny_passesOwn hp (thnR ro4 h4 fun _ s5 ro5 ⟨x, H5, I5, r5, y5, st5, fr5⟩ => ?_)
    have I5' := I5.pinned (stat fr5) (T.obj _ _ st5)
    refine wpAny_passesOwn hp (thnR ro5 (hg.run _ s5 σ3 H5 x u _ I5' r5 (step x H5 y5)) fun _ s6 ro6 ⟨σ6, H6, I6, q6⟩ => ?_)
    refine wpAny_passesOwn hp (thnR ro6 (hb.run _ s6 σ6 H6 _ I6 ro6 q6) fun f s7 ro7 q7 => ?_)
    have again : ∀ {σ7 : L2.St} {H7 : Hp}, Inv X (pins ++ pinsAt fp s5.heap) σ7 H7 s7 → N σ7 H7 → ∃ m, m < n ∧ ∃ i σ' H', RestOk s7.gens ∧ Inv X pins σ' H' s7 ∧ tn i s7.heap ∧ (∀ b ∈ fp, H' b = none) ∧ W i m σ' H' := fun {σ7 H7} I7 n7 => by
      obtain ⟨m', hm, w7⟩ := hN σ7 H7 n7
      refine ⟨m', hm, i + 1, σ7, H7, ro7, I7.unpinned, T.keep _ _ _ st5 fun b hb o e => (I7.pin (b, o) (List.mem_append_right _ (List.mem_append_right _ (mem_pinsAt hb e)))).1, fun b hb => ?_, w7⟩
      obtain ⟨o, e, d⟩ := T.obj _ _ st5 b hb
      exact (I7.pin (b, o) (List.mem_append_right _ (List.mem_append_right _ (mem_pinsAt hb e)))).2.1
    cases f with
    | next => obtain ⟨σ7, H7, I7, n7⟩ := q7; exact again I7 n7
    | cont => obtain ⟨σ7, H7, I7, n7⟩ := q7; exact again I7 n7
    | brk => obtain ⟨σ7, H7, I7, q7⟩ := q7; exact ⟨σ7, H7, I7.unpinned, q7⟩
    | ret v => obtain ⟨x7, σ7, H7, I7, r7, q7⟩ := q7; exact ⟨x7, σ7, H7, I7.unpinned, r7, q7⟩
theorem prs_nil : PRs X [] tNext := PRs.of pss_nil
end
/-- a def's promise, kept wherever nothing is being shown -/
structure FnQ (P : Program) (w : World) (K : PySem.W.Frag) (mg : Str → Option Value) (base : Heap) (CX : CXT) (k : Nat) (f : Addr) (fd : FuncData) (ps : List Str) (sp : Sp) : Prop where
  len : ∀ vs H Q E, sp vs H Q E → vs.length = ps.length
  go : ∀ (A : Around) (outer : List Env) (s : Shared) (H : Hp) (args : Args) (us : List Value) (vs : List V) (Q : VK) (E : XK), Room k A → A.guards = some [] → RestOk s.gens → Env0 P w K mg base A outer s H →
    BindsTo s fd args (ps.zip us) → Vals vs us → sp vs H Q E → codeAny (model P w) A (.call (.ref f) args) (CR CX outer P w H s Q E) s

section
variable {P : Program} {w : World} {K : PySem.W.Frag} {mg : Str → Option Value} {base : Heap} {CX : CXT} {j k : Nat} {f : Addr} {fd : FuncData} {ps : List Str} {sp : Sp}
theorem FnQ.ofOk (F : FnOk P w K mg base CX k f fd ps sp) : FnQ P w K mg base CX k f fd ps sp := ⟨F.len, fun A outer s H args us vs Q E hr _ _ => F.run A outer s H args us vs Q E hr⟩
theorem FnQ.mono (F : FnQ P w K mg base CX j f fd ps sp) (h : j ≤ k) : FnQ P w K mg base CX k f fd ps sp := ⟨F.len, fun A outer s H args us vs Q E hr => F.go A outer s H args us vs Q E (hr.mono h)⟩
end

/-- a def by its body -/
theorem fnq_of {CX : CXT} {P : Program} {w : World} {K : PySem.W.Frag} {mg : Str → Option Value} {base : Heap} {k : Nat} {x qual : Str} {st : Stmt} {f : Addr} {fd : FuncData} {N ps : List Str} {sp : Sp} (F : Fun K x qual st f fd) (S : FnScope N ps (defScope st))
    (len : ∀ vs H Q E, sp vs H Q E → vs.length = ps.length)
    (hbody : ∀ (cdv : Value) (A : Around) (outer : List Env) (s : Shared) (H : Hp) (vs : List V) (Q : VK) (E : XK), Room k (A.deeper (envOfC qual (defScope st) s.heap.objs.size f cdv)) → A.guards = some [] → sp vs H Q E →
      ∃ t, PRs (cxOf CX P w K mg base N qual (defScope st) f cdv A outer s H E).nox (defBody st) t ∧ t { nx := fun _ H' => Q .non H', rt := Q } (start N vs) H) : FnQ P w K mg base CX (k + 1) f fd ps sp := by
  obtain ⟨oc, od, kV, doc, pm, an, cdv, ct, osl, rfl, lk, hcd⟩ := F.ex
  refine ⟨len, ?_⟩
  intro A outer s H args us vs Q E hr hG ro e0 hb r hsp
  have keep := fun b o e => (e0.bs b o e).1
  have par : ∀ y ∈ ps.zip us, (defScope st).names.lookup y.1 = some .local ∨ ((defScope st).names.lookup y.1 = some .cell ∧ ((cellsFrom (s.heap.objs.size + 1) (defScope st).names []).lookup y.1).isSome = true) := by
    rintro ⟨n, v⟩ hy
    have q := S.par n (List.of_mem_zip hy).1
    exact q.imp id fun q => ⟨q, PySem.W.cellsFrom_some _ _ _ (.inl q)⟩
  refine codeAny_call_function hr.depth ((e0.mod.kin.keeps keep) _ _ lk) rfl S.co S.gen rfl (PySem.W.codeRec_of (e0.mod.kin.keeps keep) hcd) (hb _ _ _ _ ?_)
  refine wpAny_newFunctionEnv_cells S.kind par ?_
  intro env he s1 hx
  subst he
  refine ⟨(e0.mod.nolimit.keeps keep).keeps hx.toInCall.keep, codeAny_func ?_⟩
  obtain ⟨t, ht, hq⟩ := hbody cdv A outer s H vs Q E (hr.deeper _) hG hsp
  have I := inv_start (CX := CX) (E := E) (cd := cdv) S hr.hd e0 (len _ _ _ _ hsp) r hx
  have ro1 : RestOk s1.gens := by
    obtain ⟨h1, tk, es1, hk1⟩ := hx.done
    rw [show s1.gens = s.gens by rw [es1]]
    exact ro
  refine wpAny_mono (ht.run [] s1 (start N vs) H _ (I.wish _) ro1 hq) ?_ (fun _ _ z => False.elim z)
  intro fl s' hs
  cases fl with
  | next => exact hs.elim fun σ' z => z.elim fun H' z => ⟨V.non, H', z.1.os, z.1.bare, z.1.base, z.1.hok, rfl, z.2⟩
  | ret u => exact hs.elim fun v z => z.elim fun σ' z => z.elim fun H' z => ⟨v, H', z.1.os, z.1.bare, z.1.base, z.1.hok, z.2.1, z.2.2⟩
  | brk => exact hs.elim fun _ z => z.elim fun _ z => z.2.elim
  | cont => exact hs.elim fun _ z => z.elim fun _ z => z.2.elim

/-- the law's call, its script the one thing that is tracked -/
theorem law_callQ {P : Program} {w : World} {K : PySem.W.Frag} {mg mb : Str → Option Value} {CX : CXT} {k : Nat} {fa a : Addr} {fd : FuncData} {x : Str} {sp : Sp} {s1 : Shared} {vs : List Value} {ns : List Int}
    (KX : K.In s1.heap) (hns : s1.heap.Ns mainGlobals mg) (hb : s1.heap.Ns builtinsNs mb) (hbb : ∀ x : Str, x ≠ "__name__" → mb x = bootBuiltins x) (hlim : s1.heap.NoLimit) (hg : s1.gens = #[])
    (ha : s1.heap.get? a = some { cls := .type "list", data := .seq vs.toArray }) (hi : IntsAre vs ns) (hl : ns.length ≤ sizeLine) (hr : Room k callerA)
    (F : ∀ base : Heap, K.In base → base.Ns mainGlobals mg → FnQ P w K mg base CX k fa fd [x] sp) (hbind : ∀ (s : Shared) (u : Value), BindsTo s fd ⟨[u], []⟩ [(x, u)])
    (hsp : ∀ H : Hp, Only H → SqL K H a (ns.map V.int) → sp [.ref a] H (fun v _ => v = .bl true) fun _ _ _ => False)
    (hCX : ∀ H e s', CX [] H s1 (fun _ _ _ => False) e s' → False) :
    codeAny (model P w) callerA (.call (.ref fa) ⟨[.ref a], []⟩) (fun r s' => r = .ok (.ret (.bool true)) ∧ OldK s1.heap s'.heap ∧ s'.os = s1.os ∧ AllBare s'.gens) s1 := by
  have rv := vals_ints hi
  have lenV := hi.length
  have core : ∀ H : Hp, Only H → SqL K H a (ns.map V.int) → HOk P w H s1.heap → (∀ b, H b ≠ none → b = a) → (H a ≠ none → K.lookup a = none) →
      codeAny (model P w) callerA (.call (.ref fa) ⟨[.ref a], []⟩) (fun r s' => r = .ok (.ret (.bool true)) ∧ OldK s1.heap s'.heap ∧ s'.os = s1.os ∧ AllBare s'.gens) s1 := by
    intro H hO hS hok hA hK
    have at_a : ∀ {b : Addr} {u : HO}, H b = some u → b = a := fun {b u} q => hA b (by rw [q]; exact fun z => nomatch z)
    have free : ∀ {b : Addr} {o : Obj} {es : Array DictEntry} {ep : Nat}, s1.heap.get? b = some o → o.data = .dict es ep → H b = none := by
      intro b o es ep e d
      cases q : H b with
      | none => rfl
      | some u =>
        rw [at_a q, ha] at e
        cases e
        exact nomatch d
    have ns1 : ∀ {b : Addr} {m : Str → Option Value}, s1.heap.Ns b m → (hidT s1.heap H).Ns b m := fun {b m} ⟨o, es, ep, e, d, r⟩ => ⟨o, es, ep, hidT_get e (free e d), d, r⟩
    have kin : K.In (hidT s1.heap H) := by
      intro b o e
      refine hidT_get (KX b o e) ?_
      cases q : H b with
      | none => rfl
      | some u =>
        have eb := at_a q
        rw [eb] at q e
        rw [hK (by rw [q]; exact fun z => nomatch z)] at e
        cases e
    have lim2 : (hidT s1.heap H).NoLimit := by
      obtain ⟨mc, h1, h2⟩ := hlim
      exact ⟨mc, ns1 h1, h2⟩
    have e0 : Env0 P w K mg (hidT s1.heap H) callerA [] s1 H :=
      ⟨rfl, ⟨kin, ns1 hns, ⟨mb, ns1 hb, hbb⟩, lim2⟩, fun b o e => of_hidT e, Nat.le_of_eq (hidT_size _ _), trivial, fun b z => absurd z List.not_mem_nil, hok, .of_eq hg⟩
    refine codeAny_mono ((F _ kin (ns1 hns)).go callerA [] s1 H ⟨[.ref a], []⟩ [.ref a] [.ref a] _ _ hr rfl (fun i x z => by rw [hg] at z; exact nomatch z) e0 (hbind s1 (.ref a)) (.cons rfl .nil) (hsp H hO hS)) ?_
    intro r s' h
    cases r with
    | error e => exact (hCX H e s' h).elim
    | ok fl =>
      cases fl with
      | next => exact h.elim
      | brk => exact h.elim
      | cont => exact h.elim
      | ret u =>
        obtain ⟨v, H', os, bare, un, hok', r', q⟩ := h
        cases (show v = .bl true from q)
        cases (show u = Value.bool true from r')
        refine ⟨rfl, OldK.of_keep ?_, os, bare⟩
        intro b o e
        cases q : H b with
        | none => exact un.keep b o e q List.not_mem_nil List.not_mem_nil
        | some u =>
          rcases hO b with z | ⟨ob, xs, z⟩
          · rw [q] at z
            cases z
          · have e1 := (hok b _ z).1
            have e2 := (hok' b _ (un.frzs b ob _ z)).1
            rw [e] at e1
            cases e1
            exact e2
  cases hk : K.lookup a with
  | some o =>
    have e := KX a o hk
    rw [ha] at e
    cases e
    have sq : SqL K (fun _ => none) a (ns.map V.int) := .inr ⟨_, vs.toArray, _, hk, rfl, rfl, rfl, by rw [List.size_toArray, lenV]; exact hl, by simpa using rv⟩
    exact core (fun _ => none) (fun _ => .inl rfl) sq (fun b u z => nomatch z) (fun b z => absurd rfl z) fun z => absurd rfl z
  | none =>
    have at1 : (fun b => if b = a then some (HO.frz { cls := .type "list", data := .seq vs.toArray } (.lst (ns.map V.int))) else none) a = some (.frz { cls := .type "list", data := .seq vs.toArray } (.lst (ns.map V.int))) := if_pos rfl
    refine core (fun b => if b = a then some (.frz { cls := .type "list", data := .seq vs.toArray } (.lst (ns.map V.int))) else none) ?_ (.inl (.inr ⟨_, at1⟩)) ?_ ?_ fun _ => hk
    · intro b
      by_cases hb : b = a
      · exact .inr ⟨_, _, if_pos hb⟩
      · exact .inl (if_neg hb)
    · intro b u z
      by_cases hb : b = a
      · subst hb
        cases at1.symm.trans z
        exact ⟨ha, by rw [List.length_map]; exact hl, vs, _, rv, ha⟩
      · cases (if_neg hb).symm.trans z
    · intro b z
      by_cases hb : b = a
      · exact hb
      · exact absurd (if_neg hb) z

theorem walk_ofQ {l : PySem.W.OpenLaw} {n k : Nat} {q : Program} {loose : List Str} {XP : (Str → Option Value) → Heap → Prop} {YP : World → Heap → Prop} {d : DefRec} {K : Params → PySem.W.Frag} {CX : World → CXT} {sp : World → Sp} {x : Str}
    (hn : l.most = some n) (hn2 : n ≤ sizeLine) (hdf : d.params.defaults = []) (hr : Room k callerA)
    (hY : ∀ (w : World) (h : Heap), YP w h → (K w.params).In h)
    (F : ∀ (w : World) (mg : Str → Option Value) (fa : Addr) (h : Heap), (K w.params).In h → h.Ns mainGlobals mg → mg d.name = some (.ref fa) →
      ∃ fd : FuncData, (∀ (s : Shared) (u : Value), BindsTo s fd ⟨[u], []⟩ [(x, u)]) ∧
        ∀ base : Heap, (K w.params).In base → base.Ns mainGlobals mg → FnQ l.prog w (K w.params) mg base (CX w) k fa fd [x] (sp w))
    (hsp : ∀ (w : World) (H : Hp) (a : Addr) (ns : List Int), ns.length ≤ n → Only H → SqL (K w.params) H a (ns.map V.int) → sp w [.ref a] H (fun v _ => v = .bl true) fun _ _ _ => False)
    (hCX : ∀ (w : World) (H : Hp) (s : Shared) (e : Value) (s' : Shared), CX w [] H s (fun _ _ _ => False) e s' → False) :
    PySem.W.WalkO q loose XP YP l.row.toRowW d [] (fun f vs => PySem.call f vs) := by
  refine Att.attach_call hn hdf ?_
  intro w s₀ s₁ mg mb fa o pm cd doc a vs ns G Y ho hd hcd hmg hobj hints hlen hg
  have KX := hY w _ Y
  obtain ⟨fd, hb, hF⟩ := F w mg fa _ KX G.T.g hmg
  exact law_callQ KX G.T.g G.T.b G.T.builtins G.T.nolimit hg hobj hints (Nat.le_trans hlen hn2) hr hF hb (fun H hO hS => hsp w H a ns hlen hO hS) fun H e s' => hCX w H s₁ e s'
end Ks

namespace K01
open PySem PySem.Spec L2
open PyProof.Rows hiding St
def topS (i : Nat) : Stmt := PySem.Challenge.pw_mayrows_k01_whole_texts.main.body.getD i (.Pass ⟨0, 0, 0, 0⟩)
abbrev sInvalidnumberInit : Stmt := inClass (topS 3) 0
theorem scInvalidnumberInit : FnScope ["self", "given"] ["self", "given"] (defScope sInvalidnumberInit) := ⟨rfl, rfl, rfl, by decide +kernel, rfl, by decide +kernel, by decide +kernel⟩
abbrev sIsNumber : Stmt := topS 5
theorem scIsNumber : FnScope ["value", "low", "high"] ["value", "low", "high"] (defScope sIsNumber) := ⟨rfl, rfl, rfl, by decide +kernel, rfl, by decide +kernel, by decide +kernel⟩
abbrev sCheckNumber : Stmt := topS 6
theorem scCheckNumber : FnScope ["given", "low", "high"] ["given", "low", "high"] (defScope sCheckNumber) := ⟨rfl, rfl, rfl, by decide +kernel, rfl, by decide +kernel, by decide +kernel⟩
abbrev sIsText : Stmt := topS 9
theorem scIsText : FnScope ["value", "letters"] ["value", "letters"] (defScope sIsText) := ⟨rfl, rfl, rfl, by decide +kernel, rfl, by decide +kernel, by decide +kernel⟩
abbrev sTextsOf : Stmt := topS 10
abbrev sComesAhead : Stmt := topS 11
theorem scComesAhead : FnScope ["one", "other"] ["one", "other"] (defScope sComesAhead) := ⟨rfl, rfl, rfl, by decide +kernel, rfl, by decide +kernel, by decide +kernel⟩
abbrev sCheckWidth : Stmt := topS 12
theorem scCheckWidth : FnScope ["width"] ["width"] (defScope sCheckWidth) := ⟨rfl, rfl, rfl, by decide +kernel, rfl, by decide +kernel, by decide +kernel⟩
abbrev sCheckText : Stmt := topS 13
theorem scCheckText : FnScope ["text", "lines"] ["text", "lines"] (defScope sCheckText) := ⟨rfl, rfl, rfl, by decide +kernel, rfl, by decide +kernel, by decide +kernel⟩
abbrev sCheckLetters : Stmt := topS 14
theorem scCheckLetters : FnScope ["letters"] ["letters"] (defScope sCheckLetters) := ⟨rfl, rfl, rfl, by decide +kernel, rfl, by decide +kernel, by decide +kernel⟩
abbrev sLbag : Stmt := topS 16
theorem scLbag : FnScope ["_law_script", "_law_at", "_law_cell", "_law_great", "_law_mixed"] ["_law_script", "_law_at"] (defScope sLbag) := ⟨rfl, rfl, rfl, by decide +kernel, rfl, by decide +kernel, by decide +kernel⟩
abbrev sLdraw : Stmt := topS 17
theorem scLdraw : FnScope ["_law_bag_here", "_law_total", "_law_found", "_law_one", "_law_two"] ["_law_bag_here", "_law_total"] (defScope sLdraw) := ⟨rfl, rfl, rfl, by decide +kernel, rfl, by decide +kernel, by decide +kernel⟩
abbrev sLoneOf : Stmt := topS 18
theorem scLoneOf : FnScope ["_law_bag_here", "_law_items"] ["_law_bag_here", "_law_items"] (defScope sLoneOf) := ⟨rfl, rfl, rfl, by decide +kernel, rfl, by decide +kernel, by decide +kernel⟩
abbrev sLtext : Stmt := topS 19
theorem scLtext : FnScope ["_law_bag_here", "_law_letters", "_law_width", "_law_turn"] ["_law_bag_here", "_law_letters", "_law_width"] (defScope sLtext) := ⟨rfl, rfl, rfl, by decide +kernel, rfl, by decide +kernel, by decide +kernel⟩
abbrev sLtexts : Stmt := topS 20
theorem scLtexts : FnScope ["_law_letters", "_law_width", "_law_found", "_law_turn", "_law_longer", "_law_text_here", "_law_letter"] ["_law_letters", "_law_width"] (defScope sLtexts) := ⟨rfl, rfl, rfl, by decide +kernel, rfl, by decide +kernel, by decide +kernel⟩
abbrev sLnearText : Stmt := topS 21
theorem scLnearText : FnScope ["_law_bag_here", "_law_letters", "_law_width", "_law_text_here", "_law_at", "_law_sign", "_law_right", "_law_one"] ["_law_bag_here", "_law_letters"] (defScope sLnearText) := ⟨rfl, rfl, rfl, by decide +kernel, rfl, by decide +kernel, by decide +kernel⟩
abbrev sLareTexts : Stmt := topS 22
theorem scLareTexts : FnScope ["_law_bag_here", "_law_letters", "_law_turn", "_law_text_here", "_law_near", "_law_is_right", "_law_odd", "_law_one"] ["_law_bag_here", "_law_letters"] (defScope sLareTexts) := ⟨rfl, rfl, rfl, by decide +kernel, rfl, by decide +kernel, by decide +kernel⟩
abbrev sLareAll : Stmt := topS 23
theorem scLareAll : FnScope ["_law_bag_here", "_law_letters", "_law_width", "_law_due", "_law_first", "_law_one", "_law_wide", "_law_digit"] ["_law_bag_here", "_law_letters"] (defScope sLareAll) := ⟨rfl, rfl, rfl, by decide +kernel, rfl, by decide +kernel, by decide +kernel⟩
abbrev sLahead : Stmt := topS 24
theorem scLahead : FnScope ["_law_one", "_law_other", "_law_mine", "_law_theirs"] ["_law_one", "_law_other"] (defScope sLahead) := ⟨rfl, rfl, rfl, by decide +kernel, rfl, by decide +kernel, by decide +kernel⟩
abbrev sLareOrdered : Stmt := topS 25
theorem scLareOrdered : FnScope ["_law_bag_here", "_law_some", "_law_at", "_law_one", "_law_other", "_law_turn"] ["_law_bag_here"] (defScope sLareOrdered) := ⟨rfl, rfl, rfl, by decide +kernel, rfl, by decide +kernel, by decide +kernel⟩
abbrev sLaw : Stmt := topS 26
theorem scLaw : FnScope ["_law_script", "_law_at", "_law_bag_here", "_law_letters"] ["_law_script"] (defScope sLaw) := ⟨rfl, rfl, rfl, by decide +kernel, rfl, by decide +kernel, by decide +kernel⟩
theorem scTextsOf : GScope ["letters", "width", "greatest", "text", "head"] ["letters", "width"] (defScope sTextsOf) := ⟨rfl, rfl, rfl, by decide +kernel, rfl, by decide +kernel, by decide +kernel⟩
theorem look_mem {l : List (Str × NameKind)} {x : Str} {k : NameKind} (h : l.lookup x = some k) : (x, k) ∈ l := by
  induction l with
  | nil => cases h
  | cons a r ih =>
    obtain ⟨y, z⟩ := a
    rw [List.lookup_cons] at h
    by_cases e : (x == y) = true
    · rw [e] at h
      have e2 : x = y := by simpa using e
      cases h
      rw [e2]
      exact List.mem_cons_self
    · rw [Bool.eq_false_iff.mpr e] at h
      exact List.mem_cons_of_mem _ (ih h)
theorem envTextsOf (f : Addr) (cd : Value) (L : Nat) : Ks.GEnv ["letters", "width", "greatest", "text", "head"] (envOfC "texts_of" (defScope sTextsOf) L f cd) := by
  have nc : ∀ y ∈ (defScope sTextsOf).names, y.2 ≠ .cell ∧ y.2 ≠ .free := by decide +kernel
  have lc : ∀ x ∈ (["letters", "width", "greatest", "text", "head"] : List Str), (defScope sTextsOf).names.lookup x = some .local := by decide +kernel
  exact ⟨rfl, rfl, rfl, rfl, rfl, fun x => ⟨fun h => (nc _ (look_mem h)).1 rfl, fun h => (nc _ (look_mem h)).2 rfl⟩, fun x hx => lc x hx⟩
end K01

namespace K01
open PySem PySem.Spec L2 Ks
open PyProof.Rows hiding St
section
variable {P : Program} {w : World} {K : PySem.W.Frag} {mg : Str → Option Value} {base : Heap}

/-! ### is_number -/
def spIsNumber : Sp := fun vs H Q _ => ∃ x lo hi, vs = [x, .int lo, .int hi] ∧ AnyV H x ∧ Q (.bl (isNum lo hi x)) H
theorem okIsNumber {f : Addr} {fd : FuncData} (D : Dn K mg "is_number" sIsNumber ["value", "low", "high"] f fd) (T : Bx mg) : FnOk P w K mg base CX0 1 f fd ["value", "low", "high"] spIsNumber := by
  refine D.F.ok scIsNumber (fun vs H Q E h => ?_) (fun cdv A outer s H vs Q E hr h => ?_)
  · obtain ⟨x, lo, hi, rfl, _⟩ := h
    rfl
  · obtain ⟨x, lo, hi, rfl, hx, q⟩ := h
    refine ⟨_, (pss_one (ps_ret (pe_and (pe_callB call_isi (by rfl) T.m_isinstance (by decide +kernel) (pa_cons (pv 0) (pa_cons (pe_bltn (v := .ty "int") (by rfl) T.m_int (by decide +kernel) rfl) pa_nil))) (pe_and (pe_not (pe_callB call_isi (by rfl) T.m_isinstance (by decide +kernel) (pa_cons (pv 0) (pa_cons (pe_bltn (v := .ty "bool") (by rfl) T.m_bool (by decide +kernel) rfl) pa_nil)))) (pe_one (pe_chain op_le op_le (pv 1) (pv 0) (pv 2))))))), ?_⟩
    obtain ⟨t, ty, k1, k2, _⟩ := hx.typed (K := K)
    refine ⟨x, rfl, x, .ty "int", .type t, .type "int", isI x, rfl, .ty "int", ty, kit_ty k1, isI x, rfl, ite2 (fun e1 => ?_) (fun e1 => ?_)⟩
    · refine ⟨x, rfl, x, .ty "bool", .type t, .type "bool", isB x, rfl, .ty "bool", ty, kit_ty k2, isB x, rfl, !isB x, rfl, ite2 (fun e2 => ?_) (fun e2 => ?_)⟩
      · cases hx with
        | int i =>
          refine ⟨_, rfl, _, rfl, lo, i, rfl, rfl, decide (lo ≤ i), rfl, ite2 (fun e3 => ?_) (fun e3 => ?_)⟩
          · refine ⟨_, rfl, i, hi, rfl, rfl, ?_⟩
            have e : isNum lo hi (.int i) = decide (i ≤ hi) := by
              show (decide (lo ≤ i) && decide (i ≤ hi)) = _
              rw [e3, Bool.true_and]
            rw [e] at q
            exact q
          · have e : isNum lo hi (.int i) = false := by
              show (decide (lo ≤ i) && decide (i ≤ hi)) = _
              rw [Bool.eq_false_iff.mpr e3, Bool.false_and]
            rw [e] at q
            exact q
        | bl b => cases e2
        | non => cases e1
        | str z => cases e1
        | lst _ => cases e1
        | tup _ => cases e1
        | dct _ => cases e1
      · have e : isNum lo hi x = false := by
          cases hx <;> first | rfl | exact absurd rfl e2
        rw [e] at q
        exact q
    · have e : isNum lo hi x = false := by
        cases hx <;> first | rfl | exact absurd rfl e1
      rw [e] at q
      exact q

/-! ### InvalidNumber -/
abbrev ixB : List Value := [.type "IndexError", .type "LookupError", .type "Exception", .type "BaseException", .type "object"]
abbrev INum (K : PySem.W.Frag) (mg : Str → Option Value) (C fI : Addr) (fd : FuncData) : Prop := KeepE K mg "InvalidNumber" "given" C fI fd ["self", "given"] "IndexError" ixB "IndexError.__new__" "IndexError.__init__"
theorem okInit {C f : Addr} {fd : FuncData} (F : Fun K "__init__" "InvalidNumber.__init__" sInvalidnumberInit f fd) (I : INum K mg C f fd) : FnOk P w K mg base CX0 1 f fd ["self", "given"] (spKeep C "given") := by
  refine F.ok scInvalidnumberInit (fun vs H Q E h => ?_) (fun cdv A outer s H vs Q E hr h => ?_)
  · obtain ⟨a, y, rfl, _⟩ := h
    rfl
  · obtain ⟨a, y, rfl, ha, q⟩ := h
    refine ⟨_, (pss_one (ps_keep I.T I.n (pv 0) (pv 1))), ?_⟩
    exact ⟨y, rfl, .ref a, rfl, a, rfl, ha, fun dx hd ne => q dx hd ne⟩
/-- the way out with an InvalidNumber that keeps x -/
def RNum (C : Addr) (E : XK) (H : Hp) (x : V) : Prop := ∀ d, H d = none → E (.ref C) (some d) (upd H d (.xd [("given", x)]))

/-! ### check_number -/
def spCheckNumber (C : Addr) : Sp := fun vs H Q E => ∃ x lo hi, vs = [x, .int lo, .int hi] ∧ AnyV H x ∧ (isNum lo hi x = true → Q .non H) ∧ (isNum lo hi x = false → RNum C E H x)
theorem okCheckNumber {C fI f f1 : Addr} {fdI fd fd1 : FuncData} (D : Dn K mg "check_number" sCheckNumber ["given", "low", "high"] f fd) (T : Bx mg) (DIsNumber : Dn K mg "is_number" sIsNumber ["value", "low", "high"] f1 fd1)
    (FI : Fun K "__init__" "InvalidNumber.__init__" sInvalidnumberInit fI fdI) (IInvalidNumber : INum K mg C fI fdI) : FnOk P w K mg base (L2.CX P w) 3 f fd ["given", "low", "high"] (spCheckNumber C) := by
  have GIsNumber : FnOk P w K mg base CX0 1 _ _ _ _ := okIsNumber DIsNumber T
  have GInvalidnumberInit : FnOk P w K mg base CX0 1 _ _ _ _ := okInit FI IInvalidNumber
  refine D.F.okX scCheckNumber (fun vs H Q E h => ?_) (fun cdv A outer s H vs Q E hr h => ?_)
  · obtain ⟨x, lo, hi, rfl, _⟩ := h
    rfl
  · obtain ⟨x, lo, hi, rfl, hx, q, r⟩ := h
    refine ⟨_, (pss_one (ps_if (pt_not (pt_val (pe_call GIsNumber (hr.mono (by decide)) (by rfl) DIsNumber.g DIsNumber.F.kp DIsNumber.b .nil pass0 (pa_cons (pv 0) (pa_cons (pv 1) (pa_cons (pv 2) pa_nil)))))) (pss_one (ps_raise rfl (takes_of rfl rfl rfl rfl) (Ks.pmk_keep IInvalidNumber.T IInvalidNumber.i IInvalidNumber.t GInvalidnumberInit (hr.mono (by decide)) IInvalidNumber.b passZ (by rfl) IInvalidNumber.g (pa_cons (pv 0) pa_nil)))) pss_nil)), ?_⟩
    refine ⟨_, rfl, _, rfl, _, rfl, x, lo, hi, rfl, hx, isNum lo hi x, rfl, ite2 (fun e => ?_) (fun e => ?_)⟩
    · exact ⟨x, rfl, x, rfl, fun d hd => r (by simpa using e) d hd⟩
    · exact q (by simpa using e)
end
end K01

namespace K01
open PySem PySem.Spec L2 Ks
open PyProof.Rows hiding St
def Fit (x : V) : Prop := ∀ z, x = .str z → z.length ≤ sizeLine
def lettersOk (x : V) : Bool := isNum 2 2 x || isNum 4 4 x
def isTxt (n : Int) : V → Bool
  | .str z => txt n z
  | _ => false
section
variable {P : Program} {w : World} {K : PySem.W.Frag} {mg : Str → Option Value} {base : Heap}
/-- the errors' classes -/
structure Er (K : PySem.W.Frag) (mg : Str → Option Value) (CN CT fI : Addr) (fdI : FuncData) : Prop where
  FI : Fun K "__init__" "InvalidNumber.__init__" sInvalidnumberInit fI fdI
  IN : INum K mg CN fI fdI
  OT : OwnE K mg "InvalidText" CT
/-- the defs of the package's first two files -/
structure Ds (K : PySem.W.Frag) (mg : Str → Option Value) (fN fC fL fT fX fW : Addr) (dN dC dL dT dX dW : FuncData) : Prop where
  isN : Dn K mg "is_number" sIsNumber ["value", "low", "high"] fN dN
  chN : Dn K mg "check_number" sCheckNumber ["given", "low", "high"] fC dC
  chL : Dn K mg "_check_letters" sCheckLetters ["letters"] fL dL
  isT : Dn K mg "is_text" sIsText ["value", "letters"] fT dT
  chT : Dn K mg "check_text" sCheckText ["text", "lines"] fX dX
  chW : Dn K mg "check_width" sCheckWidth ["width"] fW dW
  wid : ∃ t, mg "MAX_WIDTH" = some (.int 200 t)

variable {CN CT fI fN fC fL fT fX fW : Addr} {fdI dN dC dL dT dX dW : FuncData}
/-! ### _check_letters -/
def spCheckLetters (C : Addr) : Sp := fun vs H Q E => ∃ x, vs = [x] ∧ AnyV H x ∧ (lettersOk x = true → Q .non H) ∧ (lettersOk x = false → RNum C E H x)
theorem okCheckLetters (S : Ds K mg fN fC fL fT fX fW dN dC dL dT dX dW) (T : Bx mg) (R : Er K mg CN CT fI fdI) : FnOk P w K mg base (L2.CX P w) 3 fL dL ["letters"] (spCheckLetters CN) := by
  have DIsNumber := S.isN
  have IInvalidNumber := R.IN
  have GIsNumber : FnOk P w K mg base CX0 1 _ _ _ _ := okIsNumber DIsNumber T
  have GInvalidnumberInit : FnOk P w K mg base CX0 1 _ _ _ _ := okInit R.FI IInvalidNumber
  refine S.chL.F.okX scCheckLetters (fun vs H Q E h => ?_) (fun cdv A outer s H vs Q E hr h => ?_)
  · obtain ⟨x, rfl, _⟩ := h
    rfl
  · obtain ⟨x, rfl, hx, q, r⟩ := h
    refine ⟨_, ((pss_one (ps_if (PW.pt (pw_and (pt_not (pt_val (pe_call GIsNumber (hr.mono (by decide)) (by rfl) DIsNumber.g DIsNumber.F.kp DIsNumber.b .nil pass0 (pa_cons (pv 0) (pa_cons pe_int (pa_cons pe_int pa_nil)))))) (pw_and1 (pt_not (pt_val (pe_call GIsNumber (hr.mono (by decide)) (by rfl) DIsNumber.g DIsNumber.F.kp DIsNumber.b .nil pass0 (pa_cons (pv 0) (pa_cons pe_int (pa_cons pe_int pa_nil))))))))) (pss_one (ps_raise rfl (takes_of rfl rfl rfl rfl) (Ks.pmk_keep IInvalidNumber.T IInvalidNumber.i IInvalidNumber.t GInvalidnumberInit (hr.mono (by decide)) IInvalidNumber.b passZ (by rfl) IInvalidNumber.g (pa_cons (pv 0) pa_nil)))) pss_nil))), ?_⟩
    refine ⟨_, rfl, x, 2, 2, rfl, hx, isNum 2 2 x, rfl, ite2 (fun e => ?_) (fun e => ?_)⟩
    · refine ⟨_, rfl, x, 4, 4, rfl, hx, isNum 4 4 x, rfl, ite2 (fun e2 => ?_) (fun e2 => ?_)⟩
      · exact ⟨x, rfl, x, rfl, fun d hd => r (by unfold lettersOk; simpa using And.intro e e2) d hd⟩
      · exact q (by unfold lettersOk; simp at e2; rw [e2]; simp)
    · exact iteF (q (by unfold lettersOk; simp at e; rw [e]; simp))
/-! ### check_width -/
def spCheckWidth (C : Addr) : Sp := fun vs H Q E => ∃ x, vs = [x] ∧ AnyV H x ∧ (isNum 0 200 x = true → Q .non H) ∧ (isNum 0 200 x = false → RNum C E H x)
theorem okCheckWidth (S : Ds K mg fN fC fL fT fX fW dN dC dL dT dX dW) (T : Bx mg) (R : Er K mg CN CT fI fdI) : FnOk P w K mg base (L2.CX P w) 4 fW dW ["width"] (spCheckWidth CN) := by
  have DCheckNumber := S.chN
  have GCheckNumber : FnOk P w K mg base (L2.CX P w) 3 _ _ _ _ := okCheckNumber DCheckNumber T S.isN R.FI R.IN
  obtain ⟨tW, hW⟩ := S.wid
  refine S.chW.F.okX scCheckWidth (fun vs H Q E h => ?_) (fun cdv A outer s H vs Q E hr h => ?_)
  · obtain ⟨x, rfl, _⟩ := h
    rfl
  · obtain ⟨x, rfl, hx, q, r⟩ := h
    refine ⟨_, (pss_one (ps_expr (pe_call GCheckNumber (hr.mono (by decide)) (by rfl) DCheckNumber.g DCheckNumber.F.kp DCheckNumber.b .nil (passes_call (takes_of rfl rfl rfl rfl) (fun _ _ _ _ z => z)) (pa_cons (pv 0) (pa_cons pe_int (pa_cons (pe_glob (v := .int 200) rfl hW ⟨_, rfl⟩) pa_nil)))))), ?_⟩
    exact ⟨_, rfl, x, 0, 200, rfl, hx, q, r⟩
/-! ### is_text -/
def spIsText (C : Addr) : Sp := fun vs H Q E => ∃ x y, vs = [x, y] ∧ AnyV H x ∧ Fit x ∧ AnyV H y ∧ (lettersOk y = false → RNum C E H y) ∧ (∀ n : Int, y = .int n → n = 2 ∨ n = 4 → Q (.bl (isTxt n x)) H)
theorem okIsText (S : Ds K mg fN fC fL fT fX fW dN dC dL dT dX dW) (T : Bx mg) (R : Er K mg CN CT fI fdI) : FnOk P w K mg base (L2.CX P w) 4 fT dT ["value", "letters"] (spIsText CN) := by
  have DCheckLetters := S.chL
  have GCheckLetters : FnOk P w K mg base (L2.CX P w) 3 _ _ _ _ := okCheckLetters S T R
  obtain ⟨tW, hW⟩ := S.wid
  refine S.isT.F.okX scIsText (fun vs H Q E h => ?_) (fun cdv A outer s H vs Q E hr h => ?_)
  · obtain ⟨x, y, rfl, _⟩ := h
    rfl
  · obtain ⟨x, y, rfl, hx, fx, hy, r, q⟩ := h
    refine ⟨_, (pss_cons (ps_expr (pe_call GCheckLetters (hr.mono (by decide)) (by rfl) DCheckLetters.g DCheckLetters.F.kp DCheckLetters.b .nil (passes_call (takes_of rfl rfl rfl rfl) (fun _ _ _ _ z => z)) (pa_cons (pv 1) pa_nil)))
  (pss_one (ps_ret (pe_and (pe_callB call_isi (by rfl) T.m_isinstance (by decide +kernel) (pa_cons (pv 0) (pa_cons (pe_bltn (v := .ty "str") (by rfl) T.m_str (by decide +kernel) rfl) pa_nil))) (pe_and (pe_cmpR op_le (pe_callB call_len (by rfl) T.m_len (by decide +kernel) (pa_cons (pv 0) pa_nil)) (pe_glob (v := .int 200) rfl hW ⟨_, rfl⟩) (nomark _)) (pe_one (pe_cmpR op_eq (pe_bm PySem.F.plainAttrs_str PySem.F.slot_str_strip PySem.F.type_str_strip mt_stripChars (pv 0) (pa_cons (pe_slice sl_str pe_str po_none (po_some (pv 1))) pa_nil)) pe_str (nomark _)))))))), ?_⟩
    refine ⟨y, rfl, y, rfl, hy, fun ok => ?_, r⟩
    obtain ⟨n, rfl, hn⟩ : ∃ n : Int, y = .int n ∧ (n = 2 ∨ n = 4) := by
      cases hy with
      | int i =>
        refine ⟨i, rfl, ?_⟩
        unfold lettersOk isNum at ok
        simp only [Bool.or_eq_true, Bool.and_eq_true, decide_eq_true_eq] at ok
        omega
      | _ => cases ok
    have q := q n rfl hn
    obtain ⟨t, ty, _, _, k3⟩ := hx.typed (K := K)
    refine ⟨x, rfl, x, .ty "str", .type t, .type "str", isS x, rfl, .ty "str", ty, kit_ty k3, isS x, rfl, ite2 (fun e1 => ?_) (fun e1 => ?_)⟩
    · cases hx with
      | str z =>
        have fz := fx z rfl
        refine ⟨_, rfl, .str z, z.length, rfl, ⟨fz, rfl⟩, _, _, rfl, rfl, _, rfl, ite2 (fun e2 => ?_) (fun e2 => ?_)⟩
        · refine ⟨_, rfl, rfl, _, rfl, n, rfl, ("0123" : Str), rfl, by decide, z, _, rfl, rfl, fz, rfl, ?_⟩
          have e : isTxt n (.str z) = decide (V.str (Txt.stripChars z (cutS "0123" none (some n))) = V.str ("" : Str)) := by
            have h3 : ((z.length : Int) ≤ 200) := by simpa using e2
            rw [strip_empty]
            show (decide (z.length ≤ 200) && _) = _
            rw [decide_eq_true (by omega), Bool.true_and]
            rfl
          rw [e] at q
          exact q
        · have e : isTxt n (.str z) = false := by
            have h3 : ¬ ((z.length : Int) ≤ 200) := by simpa using e2
            show (decide (z.length ≤ 200) && _) = false
            rw [decide_eq_false (by omega), Bool.false_and]
          rw [e] at q
          exact q
      | _ => cases e1
    · have e : isTxt n x = false := by
        cases hx <;> first | rfl | exact absurd rfl e1
      rw [e] at q
      exact q
/-! ### check_text -/
def spCheckText (C : Addr) : Sp := fun vs H Q E => ∃ x l, vs = [x, .int l] ∧ AnyV H x ∧ Fit x ∧ (l = 1 ∨ l = 2) ∧ (isTxt (2 * l) x = true → Q .non H) ∧ (isTxt (2 * l) x = false → E (.ref C) none H)
theorem okCheckText (S : Ds K mg fN fC fL fT fX fW dN dC dL dT dX dW) (T : Bx mg) (R : Er K mg CN CT fI fdI) : FnOk P w K mg base (L2.CX P w) 5 fX dX ["text", "lines"] (spCheckText CT) := by
  have DIsText := S.isT
  have OInvalidText := R.OT
  have GIsText : FnOk P w K mg base (L2.CX P w) 4 _ _ _ _ := okIsText S T R
  refine S.chT.F.okX scCheckText (fun vs H Q E h => ?_) (fun cdv A outer s H vs Q E hr h => ?_)
  · obtain ⟨x, l, rfl, _⟩ := h
    rfl
  · obtain ⟨x, l, rfl, hx, fx, hl, q, r⟩ := h
    refine ⟨_, ((pss_one (ps_if (pt_not (pt_val (pe_call GIsText (hr.mono (by decide)) (by rfl) DIsText.g DIsText.F.kp DIsText.b .nil (passes_call (takes_of rfl rfl rfl rfl) (fun _ _ _ _ z => z)) (pa_cons (pv 0) (pa_cons (pe_op op_shl pe_int (pv 1)) pa_nil))))) (pss_one (ps_raise rfl (takes_of rfl rfl rfl rfl) (pmk_own PySem.F.excBase_ValueError OInvalidText.x OInvalidText.g OInvalidText.k (raises_own OInvalidText.b OInvalidText.t) rfl))) pss_nil))), ?_⟩
    have e2 : (1 : Int) * 2 ^ l.toNat = 2 * l ∧ (2 * l = 2 ∨ 2 * l = 4) := by
      rcases hl with rfl | rfl <;> exact ⟨by decide, by decide⟩
    refine ⟨x, rfl, .int l, rfl, 1, l, rfl, rfl, ⟨by omega, by omega, by decide⟩, x, .int (1 * 2 ^ l.toNat), rfl, hx, fx, .int _, fun bad => ?_, fun n en hn => ?_⟩
    · exfalso
      rw [e2.1] at bad
      unfold lettersOk isNum at bad
      rcases e2.2 with e | e <;> rw [e] at bad <;> exact absurd bad (by decide)
    · rw [e2.1] at en
      cases en
      refine ⟨_, rfl, ite2 (fun e => ?_) (fun e => ?_)⟩
      · exact r (by simpa using e)
      · exact q (by simpa using e)
end
end K01

/-! All texts of a width, by their numbers. -/
namespace Ks
open PySem PySem.Spec L2
open PyProof.Rows hiding St
/-- the digits of i, the last one first -/
def ld (n : Nat) : Nat → Nat → List Nat
  | 0, _ => []
  | w + 1, i => i % n :: ld n w (i / n)
def sc (n : Nat) : List Nat → List Nat
  | [] => []
  | d :: r => if d = n - 1 then 0 :: sc n r else (d + 1) :: r
theorem ld_len {n : Nat} : ∀ (w i : Nat), (ld n w i).length = w
  | 0, _ => rfl
  | w + 1, i => by rw [ld, List.length_cons, ld_len w]
theorem ld_lt {n : Nat} (hn : 1 < n) : ∀ (w i : Nat), ∀ d ∈ ld n w i, d < n
  | 0, _, d, h => nomatch h
  | w + 1, i, d, h => by
    rw [ld] at h
    rcases List.mem_cons.mp h with rfl | h
    · exact Nat.mod_lt _ (by omega)
    · exact ld_lt hn w _ d h
theorem ld_zero {n : Nat} : ∀ w : Nat, ld n w 0 = List.replicate w 0
  | 0 => rfl
  | w + 1 => by rw [ld, Nat.zero_mod, Nat.zero_div, ld_zero w, List.replicate_succ]
theorem ld_succ {n : Nat} (hn : 1 < n) : ∀ (w i : Nat), ld n w (i + 1) = sc n (ld n w i)
  | 0, _ => rfl
  | w + 1, i => by
    have h0 : 0 < n := by omega
    have hi := Nat.div_add_mod i n
    have hm := Nat.mod_lt i h0
    rw [ld, ld, sc]
    by_cases e : i % n = n - 1
    · rw [if_pos e]
      have e1 : i + 1 = n * (i / n + 1) := by rw [Nat.mul_add]; omega
      rw [e1, Nat.mul_mod_right, Nat.mul_div_cancel_left _ h0, ld_succ hn w]
    · rw [if_neg e]
      have e1 : i + 1 = (i % n + 1) + n * (i / n) := by omega
      have e2 : (i + 1) % n = i % n + 1 := by
        rw [e1, Nat.add_mul_mod_self_left]
        exact Nat.mod_eq_of_lt (by omega)
      have e3 : (i + 1) / n = i / n := by
        rw [e1, Nat.add_mul_div_left _ _ h0, Nat.div_eq_of_lt (by omega : i % n + 1 < n), Nat.zero_add]
      rw [e2, e3]
/-- how many of the last digits are the greatest one -/
def lead (n : Nat) (l : List Nat) : Nat := (l.takeWhile (fun d => d == n - 1)).length
theorem sc_drop {n d : Nat} {r : List Nat} : ∀ (l : List Nat), l.drop (lead n l) = d :: r → sc n l = List.replicate (lead n l) 0 ++ (d + 1) :: r ∧ d ≠ n - 1
  | [], h => by cases h
  | a :: l, h => by
    unfold lead at h ⊢
    rw [List.takeWhile_cons] at h ⊢
    by_cases e : a = n - 1
    · rw [if_pos (by simpa using e)] at h ⊢
      rw [List.length_cons, List.drop_succ_cons] at h
      obtain ⟨h1, h2⟩ := sc_drop l h
      rw [sc, if_pos e, h1, List.length_cons, List.replicate_succ]
      exact ⟨rfl, h2⟩
    · rw [if_neg (by simpa using e)] at h ⊢
      cases h
      rw [sc, if_neg e]
      exact ⟨rfl, e⟩
theorem ld_end {n : Nat} (hn : 1 < n) : ∀ (w i : Nat), i < n ^ w → ((ld n w i).drop (lead n (ld n w i)) = [] ↔ i + 1 = n ^ w)
  | 0, i, h => by
    have : i = 0 := by simpa using h
    subst this
    exact ⟨fun _ => rfl, fun _ => rfl⟩
  | w + 1, i, h => by
    have h0 : 0 < n := by omega
    have hi := Nat.div_add_mod i n
    have hm := Nat.mod_lt i h0
    have hq : i / n < n ^ w := by
      rw [Nat.div_lt_iff_lt_mul h0]
      exact h
    have ih := ld_end hn w (i / n) hq
    rw [Nat.pow_succ, Nat.mul_comm]
    unfold lead at ih ⊢
    rw [ld, List.takeWhile_cons]
    by_cases e : i % n = n - 1
    · rw [if_pos (by simpa using e), List.length_cons, List.drop_succ_cons, ih]
      constructor
      · intro z
        rw [← z, Nat.mul_add]
        omega
      · intro z
        have e1 : n * (i / n + 1) = n * n ^ w := by rw [Nat.mul_add]; omega
        exact Nat.eq_of_mul_eq_mul_left h0 e1
    · rw [if_neg (by simpa using e)]
      constructor
      · intro z; cases z
      · intro z
        exfalso
        have h1 : n * (i / n + 1) ≤ n * n ^ w := Nat.mul_le_mul_left n hq
        rw [Nat.mul_add] at h1
        omega
/-- a text by its digits, the last one first -/
def tx (l : List Nat) : Str := ⟨(l.reverse.map (48 + ·)).toArray⟩
theorem cl_tx (l : List Nat) : cl (tx l) = l.reverse.map (48 + ·) := rfl
theorem tx_len (l : List Nat) : (tx l).length = l.length := by
  rw [← cl_len, cl_tx, List.length_map, List.length_reverse]
end Ks

namespace Ks
open PySem PySem.Spec L2
open PyProof.Rows hiding St
theorem cl_append (x y : Str) : cl (x ++ y) = cl x ++ cl y := Array.toList_append
theorem rstrip_tx {n : Nat} (l : List Nat) : Txt.rstripChars (tx l) ⟨#[48 + (n - 1)]⟩ = tx (l.drop (lead n l)) := by
  have e : Txt.rstripChars (tx l) ⟨#[48 + (n - 1)]⟩ = PySem.W.stripped (⟨#[48 + (n - 1)]⟩ : Str).cps.contains false true (tx l) := PySem.W.stripBy_eq _ _ _ _
  rw [e]
  apply str_ext
  unfold PySem.W.stripped
  simp only [if_true, Bool.false_eq_true, if_false]
  show ((tx l).cps.extract 0 ((tx l).length - ((List.takeWhile (#[48 + (n - 1)] : Array Nat).contains ((cl (tx l)).drop 0).reverse).length))).toList = _
  have h1 : ((cl (tx l)).drop 0).reverse = l.map (48 + ·) := by rw [List.drop_zero, cl_tx, ← List.map_reverse, List.reverse_reverse]
  have h2 : (List.takeWhile (#[48 + (n - 1)] : Array Nat).contains (l.map (48 + ·))).length = lead n l := by
    rw [List.takeWhile_map, List.length_map]
    unfold lead
    congr 2
    funext d
    show (#[48 + (n - 1)] : Array Nat).contains (48 + d) = (d == n - 1)
    simp only [List.contains_toArray, List.contains_cons, List.contains_nil, Bool.or_false]
    rw [Bool.eq_iff_iff, beq_iff_eq, beq_iff_eq]
    omega
  rw [h1, h2, tx_len, Array.toList_extract]
  show List.take _ (List.drop 0 (cl (tx l))) = _
  rw [List.drop_zero, cl_tx, cl_tx, ← List.map_take, Nat.sub_zero]
  congr 1
  rw [List.reverse_drop]
theorem tx_nil : tx [] = ("" : Str) := by decide
theorem tx_cons_ne {d : Nat} {r : List Nat} : tx (d :: r) ≠ ("" : Str) := fun h => by
  have := congrArg Str.length h
  rw [tx_len] at this
  exact absurd this (by rw [List.length_cons]; exact Nat.succ_ne_zero _)
theorem cl_tx_cons {d : Nat} {r : List Nat} : cl (tx (d :: r)) = cl (tx r) ++ [48 + d] := by
  rw [cl_tx, cl_tx, List.reverse_cons, List.map_append]
  rfl
theorem cut_tx {d : Nat} {r : List Nat} : cutS (tx (d :: r)) none (some (-1)) = tx r := by
  apply str_ext
  unfold cutS
  show (List.take (HT.sIx (tx (d :: r)).length (tx (d :: r)).length (some (-1)) - 0) (List.drop 0 (cl (tx (d :: r))))) = _
  have h1 : HT.sIx (tx (d :: r)).length (tx (d :: r)).length (some (-1)) = r.length := by
    rw [tx_len]
    show (if (-1 : Int) < 0 then ((-1 : Int) + (((d :: r).length : Nat) : Int)).toNat else min (-1 : Int).toNat (d :: r).length) = _
    rw [if_pos (by decide), List.length_cons]
    omega
  rw [h1, List.drop_zero, Nat.sub_zero, cl_tx_cons]
  have h2 : r.length = (cl (tx r)).length := by rw [cl_len, tx_len]
  rw [h2, List.take_left]
theorem last_tx {d : Nat} {r : List Nat} : atI (tx (d :: r)).cps.toList (-1) = some (48 + d) := by
  show atI (cl (tx (d :: r))) (-1) = _
  rw [cl_tx_cons]
  unfold atI ixN
  have hl : (cl (tx r) ++ [48 + d]).length = r.length + 1 := by rw [List.length_append, cl_len, tx_len]; rfl
  rw [hl, if_neg (by decide)]
  have : ((-1 : Int) + ((r.length + 1 : Nat) : Int)).toNat = r.length := by omega
  first
    | (rw [if_pos (by omega), Option.bind_some, this, List.getElem?_append_right (by rw [cl_len, tx_len]; exact Nat.le_refl _), cl_len, tx_len, Nat.sub_self]; rfl)
    | (simp [this])
theorem ljust_tx {d w : Nat} {r : List Nat} (h : r.length + 1 ≤ w) : Txt.ljustF (tx r ++ ⟨#[48 + d]⟩) (w : Int) 48 = tx (List.replicate (w - (r.length + 1)) 0 ++ d :: r) := by
  have hl : (tx r ++ (⟨#[48 + d]⟩ : Str)).length = r.length + 1 := by
    rw [← cl_len, cl_append, List.length_append, cl_len, tx_len]; rfl
  have hr : cl (tx (List.replicate (w - (r.length + 1)) 0 ++ d :: r)) = cl (tx r) ++ [48 + d] ++ List.replicate (w - (r.length + 1)) 48 := by
    rw [cl_tx, cl_tx, List.reverse_append, List.reverse_cons, List.map_append, List.map_append, List.reverse_replicate, List.map_replicate]
    rfl
  apply str_ext
  rw [hr]
  unfold Txt.ljustF
  rw [hl]
  by_cases e : (w : Int) ≤ ((r.length + 1 : Nat) : Int)
  · rw [if_pos e, cl_append]
    have : w - (r.length + 1) = 0 := by omega
    rw [this, List.replicate_zero, List.append_nil]
  · rw [if_neg e, Int.toNat_natCast]
    unfold Builtin.Str.padded
    show (#[] ++ _ ++ _ : Array Nat).toList = _
    rw [Array.toList_append, Array.toList_append, Array.toList_replicate]
    show [] ++ cl (tx r ++ (⟨#[48 + d]⟩ : Str)) ++ _ = _
    rw [List.nil_append, cl_append]
theorem mul_tx (w : Nat) : Txt.mul "0" (w : Int) = tx (List.replicate w 0) := by
  apply str_ext
  rw [cl_tx, List.reverse_replicate, List.map_replicate]
  unfold Txt.mul
  by_cases e : (w : Int) < 1
  · rw [if_pos e]
    have : w = 0 := by omega
    subst this
    rfl
  · rw [if_neg e]
    by_cases e2 : (((w : Int) == 1) || (("0" : Str).length == 0)) = true
    · rw [if_pos e2]
      have : w = 1 := by
        have h0 : (("0" : Str).length == 0) = false := by decide
        rw [h0, Bool.or_false, beq_iff_eq] at e2
        omega
      subst this
      decide
    · rw [if_neg e2, Int.toNat_natCast]
      have : ∀ (k : Nat) (acc : Array Nat), ((List.replicate k (("0" : Str).cps)).foldl (· ++ ·) acc).toList = acc.toList ++ List.replicate k 48 := by
        intro k
        induction k with
        | zero => intro acc; simp
        | succ k ih =>
          intro acc
          rw [List.replicate_succ, List.foldl_cons, ih, Array.toList_append, List.append_assoc]
          rfl
      show ((List.replicate w (("0" : Str).cps)).foldl (· ++ ·) #[]).toList = _
      rw [this w #[]]
      rfl
/-- a text, its width and what fills it -/
theorem mt_ljustF {X : Cx} : MtR X "str.ljust" (fun x xs H Q => ∃ (a b : Str) (i : Int), x = .str a ∧ xs = [.int i, .str b] ∧ PadOk i = true ∧ b.length = 1 ∧ Q (.str (Txt.ljustF a i (b.cps.getD 0 0))) H) := by
  intro pins s σ H x xs v us Q I rx rs h
  obtain ⟨a, b, i, rfl, rfl, hp, hf, h⟩ := h
  obtain ⟨t, rfl⟩ := rx
  cases rs with
  | cons r1 rs =>
    cases rs with
    | cons r2 rs =>
      cases rs
      obtain ⟨u, rfl⟩ := r1
      obtain ⟨z, rfl⟩ := r2
      exact ljust_fill hp hf fun t' k => ⟨.str _, H, I.tok k, ⟨t', rfl⟩, h⟩
end Ks

namespace Ks
open PySem PySem.Spec L2
open PyProof.Rows hiding St
/-- a text some times -/
def rMulS : R2 := fun x y H Q => ∃ z n, x = .str z ∧ y = .int n ∧ MulOk z n ∧ Q (.str (Txt.mul z n)) H
theorem op_mul_str {X : Cx} : OpR X (binaryOp .Mult) rMulS := by
  intro pins s σ H x y v u Q I rx ry h
  obtain ⟨z, n, rfl, rfl, ok, q⟩ := h
  obtain ⟨t, rfl⟩ := rx
  obtain ⟨t', rfl⟩ := ry
  exact SB.mul ok fun t' k => ⟨.str (Txt.mul z n), H, I.tok _, ⟨_, rfl⟩, q⟩
end Ks
namespace K01
open PySem PySem.Spec L2 Ks
open PyProof.Rows hiding St
theorem int_digit {r : Nat} (h : r < 4) : intText? ⟨#[48 + r]⟩ = some (r : Int) := by
  match r, h with
  | 0, _ => decide +kernel
  | 1, _ => decide +kernel
  | 2, _ => decide +kernel
  | 3, _ => decide +kernel
theorem lg_digit {d : Nat} (h : d + 1 < 4) : ((d : Int) + 1).natAbs.log2 < 1920 := by
  match d, h with
  | 0, _ => decide
  | 1, _ => decide
  | 2, _ => decide
theorem line200 {n : Nat} (h : n ≤ 200) : n ≤ sizeLine := Nat.le_trans h (by decide)
section
variable {P : Program} {w : World} {K : PySem.W.Frag} {mg : Str → Option Value} {base : Heap}
variable {CN CT CO fI fN fC fL fT fX fW : Addr} {fdI dN dC dL dT dX dW : FuncData}
/-- the text number i -/
def tn (n w i : Nat) : Str := tx (ld n w i)
def allTexts (n w : Nat) : List V := (List.range (n ^ w)).map fun i => .str (tn n w i)
def spTextsOf : List V → List V → Prop := fun vs xs => ∃ n w : Nat, vs = [.int n, .int w] ∧ (n = 2 ∨ n = 4) ∧ w ≤ 200 ∧ xs = allTexts n w
theorem okTextsOf {f : Addr} {fd : FuncData} (D : Dn K mg "texts_of" sTextsOf ["letters", "width"] f fd) (S : Ds K mg fN fC fL fT fX fW dN dC dL dT dX dW) (T : Bx mg) (R : Er K mg CN CT fI fdI) :
    GFnF P w K mg base 6 f fd ["letters", "width"] ["letters", "width", "greatest", "text", "head"] spTextsOf := by
  obtain ⟨oc, od, kV, doc, pm, an, cdv, ct, osl, rfl, lk, hcd⟩ := D.F.ex
  refine gfnF_of lk hcd scTextsOf (envTextsOf f cdv) (fun vs xs h => ?_) (fun X L vs xs e1 e2 e3 e4 e5 hc hr h => ?_)
  · obtain ⟨n, w, rfl, _⟩ := h
    rfl
  · obtain ⟨n, wd, rfl, hn, hw, rfl⟩ := h
    subst e1 e2 e3 e4 e5
    have DCheckLetters := S.chL
    have GCheckLetters : FnOk X.prog X.w X.K X.mg X.base (L2.CX X.prog X.w) 3 _ _ _ _ := okCheckLetters S T R
    have DCheckWidth := S.chW
    have GCheckWidth : FnOk X.prog X.w X.K X.mg X.base (L2.CX X.prog X.w) 4 _ _ _ _ := okCheckWidth S T R
    have hN : (allTexts n wd).length < (allTexts n wd).length + 1 := Nat.lt_succ_self _
    refine ⟨_, gfs_cons (gf_ps fun s₀ => ps_expr (pe_call (E := fun _ _ _ => False) GCheckLetters (hr.mono (by decide)) (by rfl) DCheckLetters.g DCheckLetters.F.kp DCheckLetters.b .nil passL (pa_cons (pv 0) pa_nil)))
      (gfs_cons (gf_ps fun s₀ => ps_expr (pe_call (E := fun _ _ _ => False) GCheckWidth (hr.mono (by decide)) (by rfl) DCheckWidth.g DCheckWidth.F.kp DCheckWidth.b .nil passL (pa_cons (pv 1) pa_nil)))
      (gfs_cons (gf_ps fun s₀ => ps_set (i := 2) scTextsOf.nd rfl (Or.inl rfl) (pe_callTy (X := rx0 X X.A.in1 ["letters", "width", "greatest", "text", "head"] (envOfC "texts_of" (defScope sTextsOf) L f cdv) s₀) call_str_int (by rfl) T.m_str (by decide +kernel) (pa_cons (pe_op op_sub (pv 0) pe_int) pa_nil)))
      (gfs_cons (gf_ps fun s₀ => ps_set (i := 3) scTextsOf.nd rfl (Or.inl rfl) (pe_op Ks.op_mul_str pe_str (pv 1)))
      (gfs_cons (gf_while (fun s₀ => pt_val pe_bl) (gfs_cons (gf_yield hN (fun s₀ => pv 3)) (gfs_pss fun s₀ =>
          pss_cons (ps_set (i := 4) scTextsOf.nd rfl (Or.inl rfl) (show PE (rx0 X X.A.in1 ["letters", "width", "greatest", "text", "head"] (envOfC "texts_of" (defScope sTextsOf) L f cdv) s₀) _ (tBM X.K _ _ _ _) from pe_bm (X := rx0 X X.A.in1 ["letters", "width", "greatest", "text", "head"] (envOfC "texts_of" (defScope sTextsOf) L f cdv) s₀) PySem.F.plainAttrs_str PySem.F.slot_str_rstrip PySem.F.type_str_rstrip mt_rstripChars (pv 3) (pa_cons (pv 2) pa_nil)))
          (pss_cons (ps_if (pt_cmpR op_eq (pv 4) pe_str (nomark _)) (pss_one ps_retN) pss_nil)
          (pss_one (ps_set (i := 3) scTextsOf.nd rfl (Or.inl rfl) (show PE (rx0 X X.A.in1 ["letters", "width", "greatest", "text", "head"] (envOfC "texts_of" (defScope sTextsOf) L f cdv) s₀) _ (tBM X.K _ _ _ _) from pe_bm (X := rx0 X X.A.in1 ["letters", "width", "greatest", "text", "head"] (envOfC "texts_of" (defScope sTextsOf) L f cdv) s₀) PySem.F.plainAttrs_str PySem.F.slot_str_ljust PySem.F.type_str_ljust mt_ljustF (pe_op op_add_str (pe_slice sl_str (pv 4) po_none (po_some (pe_un un_neg pe_int))) (pe_callTy (X := rx0 X X.A.in1 ["letters", "width", "greatest", "text", "head"] (envOfC "texts_of" (defScope sTextsOf) L f cdv) s₀) call_str_int (by rfl) T.m_str (by decide +kernel) (pa_cons (pe_op op_add (pe_callTy (X := rx0 X X.A.in1 ["letters", "width", "greatest", "text", "head"] (envOfC "texts_of" (defScope sTextsOf) L f cdv) s₀) call_int_str (by rfl) T.m_int (by decide +kernel) (pa_cons (pe_ix ix_str (pv 4) (pe_un un_neg pe_int) (fun _ _ => rfl)) pa_nil)) pe_int) pa_nil))) (pa_cons (pv 1) (pa_cons pe_str pa_nil)))))))))
      gfs_nil)))), fun H => ?_⟩
    have lok : lettersOk (.int (n : Int)) = true := by rcases hn with rfl | rfl <;> decide
    have wok : isNum 0 200 (.int (wd : Int)) = true := by
      show (decide ((0 : Int) ≤ wd) && decide ((wd : Int) ≤ 200)) = true
      rw [Bool.and_eq_true, decide_eq_true_eq, decide_eq_true_eq]
      omega
    refine ⟨.int n, rfl, .int n, rfl, .int _, fun _ => ?_, fun e => by rw [lok] at e; cases e⟩
    refine ⟨.int wd, rfl, .int wd, rfl, .int _, fun _ => ?_, fun e => by rw [wok] at e; cases e⟩
    have hn1 : 1 < n := by rcases hn with rfl | rfl <;> decide
    have hg : Str.ofString (toString ((n : Int) - 1)) = ⟨#[48 + (n - 1)]⟩ := by rcases hn with rfl | rfl <;> decide +kernel
    refine ⟨.int n, rfl, (n : Int), 1, rfl, rfl, (n : Int) - 1, rfl, by rcases hn with rfl | rfl <;> decide, ?_⟩
    have mok : MulOk "0" (wd : Int) := by
      refine ⟨?_, fun _ _ => ?_, fun _ _ => ?_⟩
      · rw [Bool.or_eq_false_iff, decide_eq_false_iff_not, decide_eq_false_iff_not]
        omega
      · show ¬ (((1 : Nat) : Int) > (2 ^ 63 - 1) / (wd : Int))
        have h1 : (1 : Int) ≤ (2 ^ 63 - 1) / (wd : Int) := Int.le_ediv_of_mul_le (by omega) (by omega)
        omega
      · show Builtin.Str.tooLong (1 * ((wd : Int)).toNat) = false
        rw [Int.toNat_natCast, Nat.one_mul]
        have : wd ≤ 200 := hw
        unfold Builtin.Str.tooLong
        exact decide_eq_false (by have : sizeLine = 16777216 := sizeLine_eq; omega)
    refine ⟨.int wd, rfl, "0", (wd : Int), rfl, rfl, mok, ?_⟩
    refine ⟨fun m i σ H => i < n ^ wd ∧ m = n ^ wd - i ∧ ∃ hd, σ = [some (.int n), some (.int wd), some (.str ⟨#[48 + (n - 1)]⟩), some (.str (tn n wd i)), hd], ⟨n ^ wd, Nat.pow_pos (by omega), rfl, none, ?_⟩, ?_⟩
    · show [some (V.int n), some (V.int wd), some (V.str (Str.ofString (toString ((n : Int) - 1)))), some (V.str (Txt.mul "0" (wd : Int))), none] = _
      rw [hg, mul_tx, tn, ld_zero]
    · rintro m i σ H ⟨hi, rfl, hd, rfl⟩
      have hlen : (tn n wd i).length ≤ sizeLine := by rw [tn, tx_len, ld_len]; exact line200 hw
      have hxs : (allTexts n wd).length = n ^ wd := by rw [allTexts, List.length_map, List.length_range]
      refine ⟨true, rfl, (if_pos rfl).mpr ?_⟩
      refine ⟨fun i' σ' H' => i' = i + 1 ∧ i + 1 < n ^ wd ∧ ∃ hd, σ' = [some (.int n), some (.int wd), some (.str ⟨#[48 + (n - 1)]⟩), some (.str (tn n wd (i + 1))), hd], fun i' σ' H' h => ?_, ?_⟩
      · obtain ⟨rfl, h1, hd', rfl⟩ := h
        exact ⟨n ^ wd - (i + 1), by omega, h1, rfl, hd', rfl⟩
      · have hget : (allTexts n wd)[i]? = some (.str (tn n wd i)) := by
          rw [allTexts, List.getElem?_map, List.getElem?_range hi]
          rfl
        refine ⟨by omega, .str (tn n wd i), rfl, hget, fun H' => ?_⟩
        refine ⟨.str (tn n wd i), rfl, rfl, .str ⟨#[48 + (n - 1)]⟩, rfl, tn n wd i, ⟨#[48 + (n - 1)]⟩, rfl, rfl, hlen, ?_⟩
        have e1 : Txt.rstripChars (tn n wd i) ⟨#[48 + (n - 1)]⟩ = tx ((ld n wd i).drop (lead n (ld n wd i))) := rstrip_tx _
        rw [e1]
        have he := ld_end hn1 wd i hi
        have hlt := ld_lt hn1 wd i
        cases hdp : (ld n wd i).drop (lead n (ld n wd i)) with
        | nil =>
          refine ⟨_, rfl, rfl, _, rfl, ite2 (fun _ => ?_) (fun e => absurd (by rw [tx_nil]; exact decide_eq_true rfl) e)⟩
          refine ⟨rfl, ?_⟩
          rw [hxs]
          exact he.mp hdp
        | cons d r =>
          refine ⟨_, rfl, rfl, _, rfl, ite2 (fun e => absurd (V.str.inj (of_decide_eq_true e)) tx_cons_ne) (fun _ => ?_)⟩
          have hmem : d ∈ ld n wd i := List.mem_of_mem_drop (by rw [hdp]; exact List.mem_cons_self)
          have hd1 : d < n := hlt d hmem
          obtain ⟨hsc, hdn⟩ := sc_drop (ld n wd i) hdp
          have hd4 : d < 4 := by rcases hn with rfl | rfl <;> omega
          have hd5 : d + 1 < 4 := by rcases hn with rfl | rfl <;> omega
          have hrl : r.length + 1 + lead n (ld n wd i) = wd := by
            have h1 := congrArg List.length hdp
            rw [List.length_drop, ld_len, List.length_cons] at h1
            omega
          have hl2 : (tx (d :: r)).length ≤ sizeLine := by rw [tx_len, List.length_cons]; exact line200 (by omega)
          have pok : PadOk (wd : Int) = true := (by decide +kernel : ∀ w : Nat, w ≤ 200 → PadOk (w : Int) = true) wd hw
          have hlast : atI (tx (d :: r)).cps.toList (-1) = some (48 + d) := last_tx
          refine ⟨.str (tx (d :: r)), rfl, 1, rfl, -1, rfl, tx (d :: r), rfl, hl2, ?_⟩
          refine ⟨.str (tx (d :: r)), rfl, 1, rfl, tx (d :: r), -1, 48 + d, rfl, rfl, hl2, hlast, ⟨#[48 + d]⟩, (d : Int), rfl, int_digit hd4, (show 1 ≤ 640 by decide), (d : Int), 1, rfl, rfl, (d : Int) + 1, rfl, ?_, ?_⟩
          · exact lg_digit hd5
          · have ec : cutS (tx (d :: r)) none (some (-1)) = tx r := cut_tx
            have es : Str.ofString (toString ((d : Int) + 1)) = ⟨#[48 + (d + 1)]⟩ := digit_str (d + 1) hd5
            rw [ec, es]
            have hne : i + 1 ≠ n ^ wd := fun z => by
              have := he.mpr z
              rw [hdp] at this
              cases this
            refine ⟨tx r, ⟨#[48 + (d + 1)]⟩, rfl, rfl, ?_, rfl, .int wd, rfl, tx r ++ ⟨#[48 + (d + 1)]⟩, "0", (wd : Int), rfl, rfl, pok, rfl, rfl, by omega, some (.str (tx (d :: r))), ?_⟩
            · rw [tx_len]
              exact line200 (show r.length + 1 ≤ 200 by omega)
            · have ej : Txt.ljustF (tx r ++ ⟨#[48 + (d + 1)]⟩) (wd : Int) 48 = tn n wd (i + 1) := by
                rw [ljust_tx (by omega), tn, ld_succ hn1, hsc]
                congr 3
                omega
              show [some (V.int n), some (V.int wd), some (V.str ⟨#[48 + (n - 1)]⟩), some (V.str (Txt.ljustF (tx r ++ ⟨#[48 + (d + 1)]⟩) (wd : Int) 48)), some (V.str (tx (d :: r)))] = _
              rw [ej]
end
end K01

namespace K01
open PySem PySem.Spec L2 Ks
open PyProof.Rows hiding St
/-- a text by its digits -/
def tf (ds : List Nat) : Str := ⟨(ds.map (48 + ·)).toArray⟩
theorem cl_tf (ds : List Nat) : cl (tf ds) = ds.map (48 + ·) := rfl
theorem tf_len (ds : List Nat) : (tf ds).length = ds.length := by rw [← cl_len, cl_tf, List.length_map]
theorem tn_tf (n w i : Nat) : tn n w i = tf (ld n w i).reverse := rfl
theorem isTxt_tf {n : Nat} (hn : n = 2 ∨ n = 4) {ds : List Nat} (hd : ∀ d ∈ ds, d < n) (hl : ds.length ≤ 200) : isTxt n (.str (tf ds)) = true := by
  show (decide ((tf ds).length ≤ 200) && (cl (tf ds)).all fun c => (alpha n).cps.contains c) = true
  rw [Bool.and_eq_true, decide_eq_true_eq, tf_len, List.all_eq_true, cl_tf]
  refine ⟨hl, fun c hc => ?_⟩
  obtain ⟨d, hm, rfl⟩ := List.mem_map.mp hc
  have h := hd d hm
  rcases hn with rfl | rfl
  · rw [show alpha ((2 : Nat) : Int) = ⟨#[48, 49]⟩ from alpha2]
    match d, h with
    | 0, _ => decide +kernel
    | 1, _ => decide +kernel
  · rw [show alpha ((4 : Nat) : Int) = ⟨#[48, 49, 50, 51]⟩ from alpha4]
    match d, h with
    | 0, _ => decide +kernel
    | 1, _ => decide +kernel
    | 2, _ => decide +kernel
    | 3, _ => decide +kernel
/-- texts of one letter, put together -/
theorem join_ones (ds : List Nat) : Txt.join ("" : Str) (ds.map fun d => (⟨#[48 + d]⟩ : Str)) = tf ds := by
  apply str_ext
  rw [join_empty, cl_tf, List.map_map]
  induction ds with
  | nil => rfl
  | cons a r ih =>
    rw [List.map_cons, List.flatten_cons, ih, List.map_cons]
    rfl
theorem ones_sum (ds : List Nat) : ((ds.map fun d => (⟨#[48 + d]⟩ : Str)).map (·.length)).sum = ds.length := by
  induction ds with
  | nil => rfl
  | cons a r ih =>
    rw [List.map_cons, List.map_cons, List.sum_cons, ih, List.length_cons]
    show 1 + r.length = _
    omega
def bt (y d : Nat) : Nat := if y = 0 then d % 2 else d / 2
theorem bt_at {y d : Nat} (hy : y < 2) (hd : d < 4) : atI (if y = 0 then ("0101" : Str) else "0011").cps.toList (d : Int) = some (48 + bt y d) := by
  match y, hy, d, hd with
  | 0, _, 0, _ => decide
  | 0, _, 1, _ => decide
  | 0, _, 2, _ => decide
  | 0, _, 3, _ => decide
  | 1, _, 0, _ => decide
  | 1, _, 1, _ => decide
  | 1, _, 2, _ => decide
  | 1, _, 3, _ => decide
theorem same_new {H : Hp} {p : Addr} {o : HO} (np : H p = none) : Same H (upd H p o) := fun b x e => by
  rw [upd_ne (ne_of_none e np)]
  exact e
/-- one row of digits ahead of another one -/
def lexN : List Nat → List Nat → Bool
  | _, [] => false
  | [], _ :: _ => true
  | a :: r, b :: q => if a = b then lexN r q else decide (a < b)
def aheadN (ds es : List Nat) : Bool := if ds.length = es.length then lexN ds es else decide (ds.length < es.length)
theorem lexN_self : ∀ ds, lexN ds ds = false
  | [] => rfl
  | a :: r => by rw [lexN, if_pos rfl, lexN_self r]
theorem lexN_tri : ∀ ds es : List Nat, ds.length = es.length → ds ≠ es → lexN es ds = !lexN ds es
  | [], [], _, h => absurd rfl h
  | a :: r, b :: q, hl, h => by
    rw [lexN, lexN]
    by_cases e : a = b
    · subst e
      rw [if_pos rfl, if_pos rfl]
      exact lexN_tri r q (by simpa using hl) (fun z => h (by rw [z]))
    · rw [if_neg e, if_neg (Ne.symm e)]
      by_cases l : a < b
      · rw [decide_eq_true l, decide_eq_false (by omega)]
        rfl
      · rw [decide_eq_false l, decide_eq_true (by omega)]
        rfl
  | [], _ :: _, hl, _ => by cases hl
  | _ :: _, [], hl, _ => by cases hl
theorem ahead_self (ds : List Nat) : aheadN ds ds = false := by rw [aheadN, if_pos rfl, lexN_self]
theorem ahead_tri {ds es : List Nat} (h : ds ≠ es) : aheadN es ds = !aheadN ds es := by
  unfold aheadN
  by_cases e : ds.length = es.length
  · rw [if_pos e, if_pos e.symm]
    exact lexN_tri ds es e h
  · rw [if_neg e, if_neg (Ne.symm e)]
    by_cases l : ds.length < es.length
    · rw [decide_eq_true l, decide_eq_false (by omega)]
      rfl
    · rw [decide_eq_false l, decide_eq_true (by omega)]
      rfl
theorem lt_cps : ∀ ds es : List Nat, lexN ds es = decide ((ds.map (48 + ·)) < (es.map (48 + ·)))
  | _, [] => by simp [lexN]
  | [], b :: q => by simp [lexN]
  | a :: r, b :: q => by
    rw [lexN, List.map_cons, List.map_cons, lt_cps r q]
    by_cases e : a = b
    · subst e
      rw [if_pos rfl]
      simp
    · rw [if_neg e]
      rw [decide_eq_decide, List.cons_lt_cons_iff]
      omega
theorem ahead_data (ds es : List Nat) : PySem.W.dataLt (.tuple [.int ds.length, .str (tf ds)]) (.tuple [.int es.length, .str (tf es)]) = aheadN ds es := by
  rw [PySem.W.dataLt_tuple]
  unfold aheadN
  by_cases e : ds.length = es.length
  · rw [if_pos e, e, PySem.W.dataLt_all_yes (by rfl) (by simp [PyData.eqv])]
    by_cases h : ds = es
    · subst h
      rw [PySem.W.dataLt_all_yes (by rfl) (by simp [PyData.eqv]), lexN_self]
      rfl
    · have hs : tf ds ≠ tf es := fun z => h (by
        have h2 := congrArg cl z
        rw [cl_tf, cl_tf] at h2
        exact List.map_inj_right (fun a b q => by omega) |>.mp h2)
      rw [PySem.W.dataLt_all_no (by rfl) (by simp [PyData.eqv, hs]), PySem.W.dataLt_str, lt_cps]
      rfl
  · rw [if_neg e, PySem.W.dataLt_all_no (by rfl) (by simp [PyData.eqv]; omega), PySem.W.dataLt_int]
    simp
end K01

namespace K01
open PySem PySem.Spec L2 Ks
open PyProof.Rows hiding St
section
variable {P : Program} {w : World} {K : PySem.W.Frag} {mg : Str → Option Value} {base : Heap}
variable {CN CT CO fI fN fC fL fT fX fW : Addr} {fdI dN dC dL dT dX dW : FuncData}
/-! ### comes_ahead -/
def spAhead : Sp := fun vs H Q _ => ∃ ds es : List Nat, vs = [.str (tf ds), .str (tf es)] ∧ (∀ d ∈ ds, d < 4) ∧ (∀ d ∈ es, d < 4) ∧ ds.length ≤ 200 ∧ es.length ≤ 200 ∧ ∀ H', Same H H' → Q (.bl (aheadN ds es)) H'
theorem okAhead {f : Addr} {fd : FuncData} (D : Dn K mg "comes_ahead" sComesAhead ["one", "other"] f fd) (S : Ds K mg fN fC fL fT fX fW dN dC dL dT dX dW) (T : Bx mg) (R : Er K mg CN CT fI fdI) : FnOk P w K mg base (L2.CX P w) 6 f fd ["one", "other"] spAhead := by
  have DCheckText := S.chT
  have GCheckText : FnOk P w K mg base (L2.CX P w) 5 _ _ _ _ := okCheckText S T R
  refine D.F.okX scComesAhead (fun vs H Q E h => ?_) (fun cdv A outer s H vs Q E hr h => ?_)
  · obtain ⟨ds, es, rfl, _⟩ := h
    rfl
  · obtain ⟨ds, es, rfl, hd, he, ld, le, q⟩ := h
    have t1 := isTxt_tf (n := 4) (.inr rfl) hd ld
    have t2 := isTxt_tf (n := 4) (.inr rfl) he le
    have lz' : (tf ds).length ≤ sizeLine := by rw [tf_len]; exact line200 ld
    have lu' : (tf es).length ≤ sizeLine := by rw [tf_len]; exact line200 le
    refine ⟨_, ((pss_cons (ps_expr (pe_call GCheckText (hr.mono (by decide)) (by rfl) DCheckText.g DCheckText.F.kp DCheckText.b .nil (passes_call (takes_of rfl rfl rfl rfl) (fun _ _ _ _ z => z)) (pa_cons (pv 0) (pa_cons pe_int pa_nil))))
  (pss_cons (ps_expr (pe_call GCheckText (hr.mono (by decide)) (by rfl) DCheckText.g DCheckText.F.kp DCheckText.b .nil (passes_call (takes_of rfl rfl rfl rfl) (fun _ _ _ _ z => z)) (pa_cons (pv 1) (pa_cons pe_int pa_nil))))
  (pss_one (ps_ret (pe_cmpR (Ks.op_ltD ((show ∀ a b : Nat, b + 280 < a → b + 100 < a from fun _ _ h => by omega) _ _ hr.un)) (pe_tup (pa_cons (pe_callB call_len (by rfl) T.m_len (by decide +kernel) (pa_cons (pv 0) pa_nil)) (pa_cons (pv 0) pa_nil))) (pe_tup (pa_cons (pe_callB call_len (by rfl) T.m_len (by decide +kernel) (pa_cons (pv 1) pa_nil)) (pa_cons (pv 1) pa_nil))) (nomark _))))))), ?_⟩
    refine ⟨.str (tf ds), rfl, .str (tf ds), 2, rfl, .str _, (fun z e => by cases e; exact lz'), .inr rfl, fun _ => ?_, fun e => nomatch (t1.symm.trans e : true = false)⟩
    refine ⟨.str (tf es), rfl, .str (tf es), 2, rfl, .str _, (fun z e => by cases e; exact lu'), .inr rfl, fun _ => ?_, fun e => nomatch (t2.symm.trans e : true = false)⟩
    refine ⟨_, rfl, .str (tf ds), (tf ds).length, rfl, ⟨lz', rfl⟩, _, rfl, (show 2 ≤ sizeLine by decide), fun p np => ?_⟩
    refine ⟨_, rfl, .str (tf es), (tf es).length, rfl, ⟨lu', rfl⟩, _, rfl, (show 2 ≤ sizeLine by decide), fun p2 np2 => ?_⟩
    have sm := same_new (o := .tup [.int (tf ds).length, .str (tf ds)]) np
    have sm2 := same_new (o := .tup [.int (tf es).length, .str (tf es)]) np2
    refine ⟨.tuple [.int (tf ds).length, .str (tf ds)], .tuple [.int (tf es).length, .str (tf es)], .tup (.inl (.inl (sm2 _ _ upd_same))) (.cons (.int _) (.cons (.str _) .nil)), .tup (.inl (.inl upd_same)) (.cons (.int _) (.cons (.str _) .nil)), rfl, (fun e => nomatch e), (show 1 ≤ 60 by decide), ?_⟩
    rw [show PySem.W.dataLt (.tuple [.int (tf ds).length, .str (tf ds)]) (.tuple [.int (tf es).length, .str (tf es)]) = aheadN ds es by rw [tf_len, tf_len]; exact ahead_data ds es]
    exact q _ (sm.trans sm2)
end
end K01

namespace K01
open PySem PySem.Spec L2 Ks
open PyProof.Rows hiding St
section
variable {P : Program} {w : World} {K : PySem.W.Frag} {mg : Str → Option Value} {base : Heap}
theorem okLdraw {f : Addr} {fd : FuncData} (D : Dn K mg "_law_draw" sLdraw ["_law_bag_here", "_law_total"] f fd) (T : Bx mg) : FnOk P w K mg base CX0 1 f fd ["_law_bag_here", "_law_total"] spDraw := by
  refine D.F.ok scLdraw (fun vs H Q E h => ?_) (fun cdv A outer s H vs Q E hr h => ?_)
  · obtain ⟨b, t, rfl, _⟩ := h
    rfl
  · obtain ⟨b, t, rfl, ht, hw, ⟨g, m, c, hb⟩, q⟩ := h
    refine ⟨_, ((pss_cons (ps_if (pt_cmpR op_gt (pe_ix ix_list (pv 0) pe_int (fun _ _ => rfl)) pe_int (nomark _)) (pss_cons (ps_set (i := 2) scLdraw.nd rfl (Or.inl rfl) (pe_op op_mod (pe_callTy call_int1 (by rfl) T.m_int (by decide +kernel) (pa_cons (pe_ix ix_list (pv 0) pe_int (fun _ _ => rfl)) pa_nil)) (pv 1)))
  (pss_cons (ps_asg (pe_op op_fdivW (pe_ix ix_list (pv 0) pe_int (fun _ _ => rfl)) (pv 1)) (pg_sub (pv 0) pe_int set_list))
  (pss_one (ps_ret (pv 2))))) pss_nil)
  (pss_cons (ps_asg (pe_op op_add (pe_ix ix_list (pv 0) pe_int (fun _ _ => rfl)) pe_int) (pg_sub (pv 0) pe_int set_list))
  (pss_cons (ps_set (i := 3) scLdraw.nd rfl (Or.inl rfl) (pe_op op_mod (pe_callTy call_int1 (by rfl) T.m_int (by decide +kernel) (pa_cons (pe_op op_add (pe_ix ix_list (pv 0) pe_int (fun _ _ => rfl)) (pe_op op_mul pe_int (pe_ix ix_list (pv 0) pe_int (fun _ _ => rfl)))) pa_nil)) pe_int))
  (pss_cons (ps_set (i := 4) scLdraw.nd rfl (Or.inl rfl) (pe_op op_add (pe_op op_mul (pe_op op_mod (pe_callTy call_int1 (by rfl) T.m_int (by decide +kernel) (pa_cons (pe_op op_mul (pv 3) (pv 3)) pa_nil)) pe_int) (pv 3)) (pe_op op_mul pe_int (pe_ix ix_list (pv 0) pe_int (fun _ _ => rfl)))))
  (pss_one (ps_ret (pe_op op_mod (pe_callTy call_int1 (by rfl) T.m_int (by decide +kernel) (pa_cons (pe_op op_fdivW (pe_op op_mod (pe_callTy call_int1 (by rfl) T.m_int (by decide +kernel) (pa_cons (pv 4) pa_nil)) pe_int) pe_int) pa_nil)) (pv 1))))))))), ?_⟩
    have at0 : ∀ {H' : Hp} {x y z : Int}, H' b = some (.lst [.int x, .int y, .int z]) → SqL K H' b [.int x, .int y, .int z] := fun e => .inl (.inl e)
    have fin : ∀ i : Int, ∃ r : Nat, i % t = (r : Int) ∧ (r : Int) < t := fun i => ⟨(i % t).toNat, by have := Int.emod_nonneg i (Int.ne_of_gt ht); omega, by have := Int.emod_lt_of_pos i ht; have := Int.emod_nonneg i (Int.ne_of_gt ht); omega⟩
    refine ⟨.ref b, rfl, b, _, 0, .int g, rfl, rfl, at0 hb, rfl, g, 0, rfl, rfl, _, rfl, ite2 (fun e => ?_) (fun e => ?_)⟩
    · refine ⟨.ref b, rfl, b, _, 0, .int g, rfl, rfl, at0 hb, rfl, .inl ⟨g, rfl, .int t, rfl, g, t, rfl, rfl, ht, ?_⟩⟩
      refine ⟨.ref b, rfl, b, _, 0, .int g, rfl, rfl, at0 hb, rfl, .int t, rfl, g, t, rfl, rfl, ⟨ht, hw⟩, .ref b, rfl, b, _, 0, 0, rfl, rfl, hb, rfl, ?_⟩
      obtain ⟨r, er, lr⟩ := fin g
      refine ⟨_, rfl, ?_⟩
      have := q r lr _ (Go.put (g := g / t) (m := m) (c := c) (Go.refl ⟨g, m, c, hb⟩))
      rw [← er] at this
      exact this
    · refine ⟨.ref b, rfl, b, _, 2, .int c, rfl, rfl, at0 hb, rfl, c, 1, rfl, rfl, .ref b, rfl, b, _, 2, 2, rfl, rfl, hb, rfl, ?_⟩
      have hb2 : (upd H b (.lst [.int g, .int m, .int (c + 1)])) b = some (.lst [.int g, .int m, .int (c + 1)]) := upd_same
      have s2 := at0 hb2
      refine ⟨.ref b, rfl, b, _, 1, .int m, rfl, rfl, s2, rfl, .ref b, rfl, b, _, 2, .int (c + 1), rfl, rfl, s2, rfl, 1048609, c + 1, rfl, rfl, .inl ⟨by decide, by decide⟩, m, _, rfl, rfl, .inl ⟨_, rfl, _, _, rfl, rfl, (show (0 : Int) < _ by decide), ?_⟩⟩
      refine ⟨_, rfl, _, rfl, _, _, rfl, rfl, ?_, .inl ⟨_, rfl, _, _, rfl, rfl, (show (0 : Int) < _ by decide), ?_⟩⟩
      · have h1 := Int.emod_nonneg (m + 1048609 * (c + 1)) (show (2305843009213693951 : Int) ≠ 0 by decide)
        have h2 := Int.emod_lt_of_pos (m + 1048609 * (c + 1)) (show (0 : Int) < 2305843009213693951 by decide)
        exact .inl ⟨by omega, by omega⟩
      refine ⟨_, rfl, _, _, rfl, rfl, ?_, .ref b, rfl, b, _, 2, .int (c + 1), rfl, rfl, s2, rfl, 8117, c + 1, rfl, rfl, .inl ⟨by decide, by decide⟩, _, _, rfl, rfl, ?_⟩
      · have h1 := Int.emod_nonneg (m + 1048609 * (c + 1)) (show (2305843009213693951 : Int) ≠ 0 by decide)
        have h2 := Int.emod_lt_of_pos (m + 1048609 * (c + 1)) (show (0 : Int) < 2305843009213693951 by decide)
        exact .inr ⟨by show _ < _; omega, by show _ < _; omega⟩
      refine ⟨_, rfl, .inl ⟨_, rfl, _, _, rfl, rfl, (show (0 : Int) < _ by decide), _, _, rfl, rfl, ⟨by decide, (by decide +kernel)⟩, .inl ⟨_, rfl, .int t, rfl, _, t, rfl, rfl, ht, ?_⟩⟩⟩
      obtain ⟨r, er, lr⟩ := fin ((((m + 1048609 * (c + 1)) % 2305843009213693951 * ((m + 1048609 * (c + 1)) % 2305843009213693951)) % 2305843009213693723 * ((m + 1048609 * (c + 1)) % 2305843009213693951) + 8117 * (c + 1)) % 2305843009213693921 / 16384)
      have := q r lr _ (Go.put (g := g) (m := m) (c := c + 1) (Go.refl ⟨g, m, c, hb⟩))
      rw [← er] at this
      exact this
end
end K01

namespace K01
open PySem PySem.Spec L2 Ks
open PyProof.Rows hiding St
theorem digits_txt {n : Int} (hn : n = 2 ∨ n = 4) {rs : List Nat} (h : ∀ r ∈ rs, (r : Int) < n) (hl : rs.length ≤ 200) :
    isTxt n (.str (Txt.join "" (rs.map fun r => (⟨#[48 + r]⟩ : Str)))) = true ∧ (Txt.join "" (rs.map fun r => (⟨#[48 + r]⟩ : Str))).length = rs.length := by
  have e : cl (Txt.join "" (rs.map fun r => (⟨#[48 + r]⟩ : Str))) = rs.map (48 + ·) := by
    rw [join_empty, List.map_map]
    clear h hl
    induction rs with
    | nil => rfl
    | cons a r ih =>
      rw [List.map_cons, List.flatten_cons, ih]
      rfl
  have el : (Txt.join "" (rs.map fun r => (⟨#[48 + r]⟩ : Str))).length = rs.length := by
    rw [← cl_len, e, List.length_map]
  refine ⟨?_, el⟩
  show (decide (_ ≤ 200) && _) = true
  rw [el, decide_eq_true hl, Bool.true_and, e, List.all_eq_true]
  intro c hc
  obtain ⟨r, hr, rfl⟩ := List.mem_map.mp hc
  have := h r hr
  rcases hn with rfl | rfl
  · rw [alpha2]
    rcases (show r = 0 ∨ r = 1 by omega) with rfl | rfl <;> decide +kernel
  · rw [alpha4]
    rcases (show r = 0 ∨ r = 1 ∨ r = 2 ∨ r = 3 by omega) with rfl | rfl | rfl | rfl <;> decide +kernel
def spText : Sp := fun vs H Q _ => ∃ b n k, vs = [.ref b, .int n, .int k] ∧ (n = 2 ∨ n = 4) ∧ (0 : Int) ≤ k ∧ k ≤ 200 ∧ Bag b H ∧ ∀ z : Str, isTxt n (.str z) = true → (z.length : Int) = k → ∀ H', Go b H H' → Q (.str z) H'
section
variable {P : Program} {w : World} {K : PySem.W.Frag} {mg : Str → Option Value} {base : Heap}
theorem cut1L (xs : List V) : cutV xs none (some 1) = xs.take 1 := by
  unfold cutV
  rw [show HT.sIx xs.length xs.length (some 1) = min 1 xs.length from HT.sIx_nat xs.length xs.length 1, HT.sIx_none]
  cases xs with
  | nil => rfl
  | cons x r =>
    rw [show min 1 (x :: r).length = 1 by
      rw [List.length_cons]
      omega]
    rfl
theorem okLbag {f : Addr} {fd : FuncData} (D : Dn K mg "_law_bag" sLbag ["_law_script", "_law_at"] f fd) (T : Bx mg) : FnOk P w K mg base CX0 1 f fd ["_law_script", "_law_at"] (spBag K) := by
  refine D.F.ok scLbag (fun vs H Q E h => ?_) (fun cdv A outer s H vs Q E hr h => ?_)
  · obtain ⟨a, ns, k, rfl, _⟩ := h
    rfl
  · obtain ⟨a, ns, k, rfl, hS, hk, q⟩ := h
    refine ⟨_, ((pss_cons (ps_set (i := 2) scLbag.nd rfl (Or.inl rfl) (pe_ifExp (pt_cmpR op_lt (pv 1) (pe_callB call_len_seq (by rfl) T.m_len (by decide +kernel) (pa_cons (pv 0) pa_nil)) (nomark _)) (pe_ix ix_list (pv 0) (pv 1) (fun _ _ => rfl)) (pe_op op_add (pe_op op_add (pe_callB (cr_sum rfl) (by rfl) T.m_sum (by decide +kernel) (pa_cons (pe_slice sl_list (pv 0) po_none (po_some pe_int)) pa_nil)) (pe_op op_mul pe_int (pv 1))) pe_int)))
  (pss_cons (ps_set (i := 3) scLbag.nd rfl (Or.inl rfl) (pe_op op_mod (pe_callTy call_int1 (by rfl) T.m_int (by decide +kernel) (pa_cons (pe_callB call_abs (by rfl) T.m_abs (by decide +kernel) (pa_cons (pv 2) pa_nil)) pa_nil)) (pe_op Ks.op_powW (pe_op Ks.op_powW pe_int pe_int) pe_int)))
  (pss_cons (ps_set (i := 4) scLbag.nd rfl (Or.inl rfl) (pe_op op_add (pe_op op_add (pe_op op_add (pe_op op_mul (pe_op op_mod (pe_callTy call_int1 (by rfl) T.m_int (by decide +kernel) (pa_cons (pv 3) pa_nil)) pe_int) pe_int) (pe_op op_mul pe_int (pv 1))) (pe_op op_mul pe_int (pe_callTy call_int1 (by rfl) T.m_int (by decide +kernel) (pa_cons (pe_cmpR op_lt (pv 2) pe_int (nomark _)) pa_nil)))) pe_int))
  (pss_one (ps_ret (pe_lst (pa_cons (pe_callB (call_max2 rfl) (by rfl) T.m_max (by decide +kernel) (pa_cons pe_int (pa_cons (pe_op op_sub (pv 3) (pe_op Ks.op_powW pe_int pe_int)) pa_nil))) (pa_cons (pe_op op_mod (pe_callTy call_int1 (by rfl) T.m_int (by decide +kernel) (pa_cons (pv 4) pa_nil)) pe_int) (pa_cons pe_int pa_nil)))))))))), ?_⟩
    have pw : ∀ i : Int, (i = 47 ∨ i = 18) → CPowW 10 i := by
      rintro i (rfl | rfl) <;> exact ⟨by decide, by decide +kernel⟩
    refine ⟨.int k, rfl, .ref a, rfl, a, _, rfl, .inl hS, k, _, rfl, rfl, _, rfl, ite2 (fun e => ?a) (fun e => ?b)⟩
    case a =>
      have hk2 : k.toNat < (ns.map V.int).length := by
        have : k < ((ns.map V.int).length : Int) := of_decide_eq_true e
        omega
      have hk3 : k.toNat < ns.length := by rwa [List.length_map] at hk2
      have sm : Same H H := Same.refl H
      refine ⟨.ref a, rfl, .int k, rfl, a, _, k, .int ns[k.toNat], rfl, rfl, hS, ?_, ?_⟩
      · have := atI_nat (xs := ns.map V.int) (j := k.toNat) (v := .int ns[k.toNat]) (by rw [List.getElem?_map, List.getElem?_eq_getElem hk3]; rfl)
        rwa [Int.toNat_of_nonneg hk] at this
      refine ⟨_, rfl, _, rfl, .inl ⟨_, rfl, _, _, rfl, rfl, pw _ (.inl rfl), _, _, rfl, rfl, ⟨by decide, by decide +kernel⟩, _, _, rfl, rfl, (show (0 : Int) < _ by decide +kernel), ?_⟩⟩
      refine ⟨_, rfl, .inl ⟨_, rfl, _, _, rfl, rfl, (show (0 : Int) < _ by decide), _, _, rfl, rfl, .inr ⟨by decide, by decide⟩, .int k, rfl, _, _, rfl, rfl, .inl ⟨by decide, by decide⟩, _, _, rfl, rfl, ?_⟩⟩
      refine ⟨_, rfl, _, _, rfl, rfl, .inr ⟨_, rfl, _, _, rfl, rfl, .inl ⟨by decide, by decide⟩, _, _, rfl, rfl, _, _, rfl, rfl, ?_⟩⟩
      refine ⟨_, rfl, _, _, rfl, rfl, pw _ (.inr rfl), _, _, rfl, rfl, _, _, rfl, _, rfl, .inl ⟨_, rfl, _, _, rfl, rfl, (show (0 : Int) < _ by decide), (show 3 ≤ sizeLine by decide), fun c nc => ?_⟩⟩
      exact q c _ (sm.free nc) (sm.trans (same_new nc)) ⟨_, _, _, upd_same⟩
    case b =>
      refine ⟨.ref a, rfl, 1, rfl, a, _, rfl, hS, fun p np => ?_⟩
      have sm : Same H (upd H p (.lst (cutV (ns.map V.int) none (some 1)))) := same_new np
      refine ⟨p, ns.take 1, rfl, .inl (.inl ?_), .int k, rfl, 103, k, rfl, rfl, .inl ⟨by decide, by decide⟩, _, _, rfl, rfl, _, _, rfl, rfl, ?_⟩
      · rw [upd_same, cut1L, List.map_take]
      refine ⟨_, rfl, _, rfl, .inl ⟨_, rfl, _, _, rfl, rfl, pw _ (.inl rfl), _, _, rfl, rfl, ⟨by decide, by decide +kernel⟩, _, _, rfl, rfl, (show (0 : Int) < _ by decide +kernel), ?_⟩⟩
      refine ⟨_, rfl, .inl ⟨_, rfl, _, _, rfl, rfl, (show (0 : Int) < _ by decide), _, _, rfl, rfl, .inr ⟨by decide, by decide⟩, .int k, rfl, _, _, rfl, rfl, .inl ⟨by decide, by decide⟩, _, _, rfl, rfl, ?_⟩⟩
      refine ⟨_, rfl, _, _, rfl, rfl, .inr ⟨_, rfl, _, _, rfl, rfl, .inl ⟨by decide, by decide⟩, _, _, rfl, rfl, _, _, rfl, rfl, ?_⟩⟩
      refine ⟨_, rfl, _, _, rfl, rfl, pw _ (.inr rfl), _, _, rfl, rfl, _, _, rfl, _, rfl, .inl ⟨_, rfl, _, _, rfl, rfl, (show (0 : Int) < _ by decide), (show 3 ≤ sizeLine by decide), fun c nc => ?_⟩⟩
      exact q c _ (sm.free nc) (sm.trans (same_new nc)) ⟨_, _, _, upd_same⟩
theorem okLoneOf {f f1 : Addr} {fd fd1 : FuncData} (D : Dn K mg "_law_one_of" sLoneOf ["_law_bag_here", "_law_items"] f fd) (DLdraw : Dn K mg "_law_draw" sLdraw ["_law_bag_here", "_law_total"] f1 fd1) (T : Bx mg) : FnOk P w K mg base CX0 2 f fd ["_law_bag_here", "_law_items"] spOneOf := by
  have GLdraw : FnOk P w K mg base CX0 1 _ _ _ _ := okLdraw DLdraw T
  refine D.F.ok scLoneOf (fun vs H Q E h => ?_) (fun cdv A outer s H vs Q E hr h => ?_)
  · obtain ⟨b, p, xs, rfl, _⟩ := h
    rfl
  · obtain ⟨b, p, xs, rfl, hb, hp, hne, h0, hl, q⟩ := h
    refine ⟨_, ((pss_one (ps_ret (pe_ix ix_list (pv 1) (pe_call GLdraw (hr.mono (by decide)) (by rfl) DLdraw.g DLdraw.F.kp DLdraw.b .nil pass0 (pa_cons (pv 0) (pa_cons (pe_callB call_len_seq (by rfl) T.m_len (by decide +kernel) (pa_cons (pv 1) pa_nil)) pa_nil))) (fun _ _ => rfl))))), ?_⟩
    have hl0 : 0 < xs.length := List.length_pos_iff.mpr h0
    refine ⟨.ref p, rfl, .ref b, rfl, .ref p, rfl, p, xs, rfl, .inl (.inl (.inl hp)), b, _, rfl, by omega, ?_, hb, fun r lr H' go => ?_⟩
    · have h1 := Nat.log2_le_self (xs.length : Int).natAbs
      have h2 : (xs.length : Int).natAbs = xs.length := Int.natAbs_natCast _
      omega
    · have hr : r < xs.length := by omega
      refine ⟨p, xs, (r : Int), xs[r], rfl, rfl, .inl (.inl (go.at hne hp)), atI_nat (List.getElem?_eq_getElem hr), q _ (List.getElem_mem hr) _ go⟩
theorem okLtext {f f1 : Addr} {fd fd1 : FuncData} (D : Dn K mg "_law_text" sLtext ["_law_bag_here", "_law_letters", "_law_width"] f fd) (DLdraw : Dn K mg "_law_draw" sLdraw ["_law_bag_here", "_law_total"] f1 fd1) (T : Bx mg) : FnOk P w K mg base CX0 2 f fd ["_law_bag_here", "_law_letters", "_law_width"] spText := by
  have GLdraw : FnOk P w K mg base CX0 1 _ _ _ _ := okLdraw DLdraw T
  refine D.F.ok scLtext (fun vs H Q E h => ?_) (fun cdv A outer s H vs Q E hr h => ?_)
  · obtain ⟨b, n, k, rfl, _⟩ := h
    rfl
  · obtain ⟨b, n, k, rfl, hn, k0, k1, hb, q⟩ := h
    refine ⟨_, ((pss_one (ps_ret (pe_join pe_str (pe_lc (own := [("_law_turn", 3)]) (g := gName 3) rfl scLtext.nd (pi_range1 (by rfl) T.m_range (pa_cons (pv 2) pa_nil)) (blkOk_by (own := [("_law_turn", 3)]) (N := ["_law_bag_here", "_law_letters", "_law_width", "_law_turn"]) (sc := defScope sLtext) (by decide +kernel)) (fun _ _ _ _ _ => (pg_name (i := 3) scLtext.nd rfl (Or.inl rfl))) (fun _ _ _ _ _ => pts_nil) (fun _ _ _ _ _ => (pe_callTy call_str_int (by rfl) T.m_str (by decide +kernel) (pa_cons (pe_call GLdraw (hr.mono (by decide)) (by rfl) DLdraw.g DLdraw.F.kp DLdraw.b .nil pass0 (pa_cons (pv 0) (pa_cons (pv 1) pa_nil))) pa_nil)))))))), ?_⟩
    have hk : k < 2 ^ 62 := Int.lt_of_le_of_lt k1 (by decide)
    refine ⟨⟨_, rfl⟩, .int k, rfl, k, rfl, by omega, hk, fun D nD => ?_⟩
    have dn := hb.ne nD
    refine lc_it (walk_range (lo := 0) (n := k.toNat)) (fun i H' => Go b H H' ∧ ∃ rs : List Nat, H' D = some (.lst (rs.map fun r => V.str ⟨#[48 + r]⟩)) ∧ rs.length = i ∧ ∀ r ∈ rs, (r : Int) < n)
      ⟨(Go.refl hb).new nD, [], upd_same, rfl, fun r hr => nomatch hr⟩ (fun _ _ _ _ => trivial) (fun i x H1 H2 hi h hy => ?_) (fun H1 h => ?_)
    · obtain ⟨go, rs, eD, lr, ok⟩ := h
      obtain ⟨rfl, rfl⟩ := hy
      refine ⟨rfl, ?_⟩
      refine ⟨.ref b, rfl, .int n, rfl, b, n, rfl, by omega, ?_, go.1, fun r hr H' g2 => ?_⟩
      · rcases hn with rfl | rfl <;> decide
      have r4 : r < 4 := by omega
      refine ⟨(r : Int), rfl, ?_, rs.map (fun r => V.str ⟨#[48 + r]⟩), g2.at dn eD, ?_, ?_⟩
      · have h1 := Nat.log2_le_self (r : Int).natAbs
        omega
      · rw [List.length_map]
        exact Nat.lt_of_lt_of_le (show rs.length < 201 by omega) (by decide)
      · refine ⟨(go.trans g2).set nD hb, rs ++ [r], ?_, ?_, fun t ht => ?_⟩
        · rw [upd_same, digit_str r r4, List.map_append]
          rfl
        · rw [List.length_append, lr]
          rfl
        · rw [List.mem_append] at ht
          rcases ht with ht | ht
          · exact ok t ht
          · have et : t = r := by simpa using ht
            rw [et]
            exact hr
    · obtain ⟨go, rs, eD, lr, ok⟩ := h
      have hl : rs.length ≤ 200 := by omega
      obtain ⟨h1, h2⟩ := digits_txt hn ok hl
      refine ⟨"", D, rs.map (fun r => (⟨#[48 + r]⟩ : Str)), rfl, rfl, .inl (.inl (.inl ?_)), ?_, q _ h1 (by rw [h2]; omega) _ go⟩
      · rw [eD, List.map_map]
        rfl
      · have : (List.map (fun x => x.length) (List.map (fun r => (⟨#[48 + r]⟩ : Str)) rs)).sum = rs.length := by
          clear h1 h2 hl ok lr eD
          induction rs with
          | nil => rfl
          | cons a r ih =>
            rw [List.map_cons, List.map_cons, List.sum_cons, ih, List.length_cons]
            show 1 + r.length = r.length + 1
            omega
        rw [this]
        show rs.length + (List.map _ rs).length * 0 ≤ 16777216
        omega
end
end K01

namespace K01
open PySem PySem.Spec L2 Ks
open PyProof.Rows hiding St
/-- a text's digits -/
theorem txt_tf {n : Nat} (hn : n = 2 ∨ n = 4) {z : Str} (h : isTxt n (.str z) = true) : ∃ ds : List Nat, z = tf ds ∧ (∀ d ∈ ds, d < n) ∧ ds.length = z.length ∧ z.length ≤ 200 := by
  have h' : (decide (z.length ≤ 200) && (cl z).all fun c => (alpha n).cps.contains c) = true := h
  rw [Bool.and_eq_true, decide_eq_true_eq, List.all_eq_true] at h'
  have hc : ∀ c ∈ cl z, 48 ≤ c ∧ c - 48 < n := fun c hm => by
    have h1 := h'.2 c hm
    rcases hn with rfl | rfl
    · rw [show alpha ((2 : Nat) : Int) = ⟨#[48, 49]⟩ from alpha2] at h1
      have h2 : c = 48 ∨ c = 49 := by simpa using h1
      omega
    · rw [show alpha ((4 : Nat) : Int) = ⟨#[48, 49, 50, 51]⟩ from alpha4] at h1
      have h2 : c = 48 ∨ c = 49 ∨ c = 50 ∨ c = 51 := by simpa using h1
      omega
  refine ⟨(cl z).map (· - 48), str_ext ?_, fun d hd => ?_, by rw [List.length_map, cl_len], h'.1⟩
  · rw [cl_tf, List.map_map]
    refine ((List.map_congr_left fun c hm => ?_).trans (List.map_id (cl z))).symm
    have := hc c hm
    show 48 + (c - 48) = c
    omega
  · obtain ⟨c, hm, rfl⟩ := List.mem_map.mp hd
    exact (hc c hm).2
end K01

namespace K01
open PySem PySem.Spec L2 Ks
open PyProof.Rows hiding St
/-- all rows of digits of a width -/
def LT (n : Nat) : Nat → List (List Nat)
  | 0 => [[]]
  | w + 1 => (LT n w).flatMap fun ds => (List.range n).map fun l => ds ++ [l]
theorem range_mul (n : Nat) : ∀ a, (List.range a).flatMap (fun i => (List.range n).map fun l => i * n + l) = List.range (a * n)
  | 0 => by simp
  | a + 1 => by
    rw [List.range_succ, List.flatMap_append, range_mul n a, Nat.succ_mul, List.range_add]
    simp
theorem LT_ld (n : Nat) (hn : 0 < n) : ∀ w, LT n w = (List.range (n ^ w)).map fun i => (ld n w i).reverse
  | 0 => rfl
  | w + 1 => by
    rw [LT, LT_ld n hn w, Nat.pow_succ, ← range_mul n (n ^ w), List.map_flatMap, List.flatMap_map]
    congr 1
    funext i
    rw [List.map_map]
    refine List.map_congr_left fun l hl => ?_
    have hl' : l < n := List.mem_range.mp hl
    show (ld n w i).reverse ++ [l] = (ld n (w + 1) (i * n + l)).reverse
    have e1 : (i * n + l) % n = l := by rw [Nat.mul_comm, Nat.mul_add_mod, Nat.mod_eq_of_lt hl']
    have e2 : (i * n + l) / n = i := by rw [Nat.mul_comm, Nat.mul_add_div hn, Nat.div_eq_of_lt hl', Nat.add_zero]
    show _ = (((i * n + l) % n) :: Ks.ld n w ((i * n + l) / n)).reverse
    rw [e1, e2, List.reverse_cons]
theorem LT_all (n : Nat) (hn : 0 < n) (w : Nat) : (LT n w).map (fun ds => V.str (tf ds)) = allTexts n w := by
  rw [LT_ld n hn w, List.map_map]
  rfl
theorem LT_len {n : Nat} : ∀ {w : Nat} {ds : List Nat}, ds ∈ LT n w → ds.length = w ∧ ∀ d ∈ ds, d < n
  | 0, ds, h => by
    rw [LT, List.mem_singleton] at h
    subst h
    exact ⟨rfl, fun d hd => nomatch hd⟩
  | w + 1, ds, h => by
    rw [LT, List.mem_flatMap] at h
    obtain ⟨es, h1, h2⟩ := h
    obtain ⟨l, hl, rfl⟩ := List.mem_map.mp h2
    obtain ⟨h3, h4⟩ := LT_len h1
    refine ⟨by rw [List.length_append, h3]; rfl, fun d hd => ?_⟩
    rcases List.mem_append.mp hd with z | z
    · exact h4 d z
    · rw [List.mem_singleton.mp z]
      exact List.mem_range.mp hl
theorem LT_size {n : Nat} : ∀ w, (LT n w).length = n ^ w
  | 0 => rfl
  | w + 1 => by
    rw [LT, List.length_flatMap]
    have : (LT n w).map (fun ds => ((List.range n).map fun l => ds ++ [l]).length) = (LT n w).map fun _ => n := by
      refine List.map_congr_left fun ds _ => ?_
      rw [List.length_map, List.length_range]
    rw [this, List.map_const', List.sum_replicate_nat, LT_size w, Nat.pow_succ]
theorem tf_snoc (ds : List Nat) (l : Nat) : tf ds ++ (⟨#[48 + l]⟩ : Str) = tf (ds ++ [l]) := by
  apply str_ext
  show (tf ds ++ (⟨#[48 + l]⟩ : Str)).cps.toList = _
  rw [cl_tf, List.map_append]
  show ((tf ds).cps ++ #[48 + l]).toList = _
  rw [Array.toList_append]
  rfl
section
variable {P : Program} {w : World} {K : PySem.W.Frag} {mg : Str → Option Value} {base : Heap}
def tl (l : List (List Nat)) : List V := l.map fun ds => V.str (tf ds)
def spTexts : Sp := fun vs H Q _ => ∃ n w : Nat, vs = [.int n, .int w] ∧ (n = 2 ∨ n = 4) ∧ w ≤ 5 ∧ n ^ w ≤ 64 ∧ ∀ p H', H p = none → Same H H' → H' p = some (.lst (tl (LT n w))) → Q (.ref p) H'
theorem okLtexts {f : Addr} {fd : FuncData} (D : Dn K mg "_law_texts" sLtexts ["_law_letters", "_law_width"] f fd) (T : Bx mg) : FnOk P w K mg base CX0 1 f fd ["_law_letters", "_law_width"] spTexts := by
  refine D.F.ok scLtexts (fun vs H Q E h => ?_) (fun cdv A outer s H vs Q E hr h => ?_)
  · obtain ⟨n, w, rfl, _⟩ := h
    rfl
  · obtain ⟨n, wd, rfl, hn, hw, hp, q⟩ := h
    refine ⟨_, ((pss_cons (ps_set (i := 2) scLtexts.nd rfl (Or.inl rfl) (pe_lst (pa_cons pe_str pa_nil)))
  (pss_cons (ps_for PassesOwn.never rfl (pi_range1 (by rfl) T.m_range (pa_cons (pv 1) pa_nil)) (pg_name (i := 3) scLtexts.nd rfl (Or.inl rfl)) (pss_cons (ps_set (i := 4) scLtexts.nd rfl (Or.inl rfl) (pe_lst pa_nil))
  (pss_cons (ps_for PassesOwn.never rfl (pi_list (pv 2)) (pg_name (i := 5) scLtexts.nd rfl (Or.inr rfl)) (pss_one (ps_set (i := 4) scLtexts.nd rfl (Or.inl rfl) (pe_op op_cat (pv 4) (pe_lc (own := [("_law_letter", 6)]) (g := gName 6) rfl scLtexts.nd (pi_range1 (by rfl) T.m_range (pa_cons (pv 0) pa_nil)) (blkOk_by (own := [("_law_letter", 6)]) (N := ["_law_letters", "_law_width", "_law_found", "_law_turn", "_law_longer", "_law_text_here", "_law_letter"]) (sc := defScope sLtexts) (by decide +kernel)) (fun _ _ _ _ _ => (pg_name (i := 6) scLtexts.nd rfl (Or.inl rfl))) (fun _ _ _ _ _ => pts_nil) (fun _ _ _ _ _ => (pe_op op_add_str (pv 5) (pe_callTy call_str_int (by rfl) T.m_str (by decide +kernel) (pa_cons (pv 6) pa_nil)))))))))
  (pss_one (ps_set (i := 2) scLtexts.nd rfl (Or.inl rfl) (pv 4))))))
  (pss_one (ps_ret (pv 2)))))), ?_⟩
    have hn4 : n ≤ 4 := by rcases hn with rfl | rfl <;> decide
    have hn2 : 2 ≤ n := by rcases hn with rfl | rfl <;> decide
    refine ⟨(show 1 ≤ sizeLine by decide), fun p np => ?_⟩
    refine ⟨.int wd, rfl, (wd : Int), rfl, by omega, by omega, ?_⟩
    refine for_it (walk_range (lo := 0)) (fun i σ H' => Same H H' ∧ ∃ a y3 y4 y5 y6, H a = none ∧ H' a = some (.lst (tl (LT n i))) ∧ σ = [some (.int n), some (.int wd), some (.ref a), y3, y4, y5, y6]) ⟨same_new np, p, none, none, none, none, np, upd_same, rfl⟩ (fun _ _ _ _ _ => trivial) (fun i x σ H1 H2 hi h hy => ?_) (fun σ H1 h => ?_)
    · obtain ⟨sm, a, y3, y4, y5, y6, na, ea, rfl⟩ := h
      obtain ⟨rfl, rfl⟩ := hy
      refine ⟨(show 0 ≤ sizeLine by decide), fun b nb => ?_⟩
      have nab : a ≠ b := ne_of_none ea nb
      have hb0 : H b = none := sm.free nb
      have Lsz : (LT n i).length ≤ 64 := by
        rw [LT_size]
        exact Nat.le_trans (Nat.pow_le_pow_right (by omega) (by omega)) hp
      refine ⟨.ref a, rfl, a, rfl, ⟨_, .inl (.inl (by rw [upd_ne nab]; exact ea))⟩, ?_⟩
      refine for_it (walk_list (xs := tl (LT n i))) (fun j σ H' => Same H H' ∧ H' a = some (.lst (tl (LT n i))) ∧ ∃ c y5 y6, H c = none ∧ c ≠ a ∧ H' c = some (.lst (tl (((LT n i).take j).flatMap fun ds => (List.range n).map fun l => ds ++ [l]))) ∧ σ = [some (.int n), some (.int wd), some (.ref a), some (.int (0 + (i : Int))), some (.ref c), y5, y6])
        ⟨sm.trans (same_new nb), by rw [upd_ne nab]; exact ea, b, y5, y6, hb0, Ne.symm nab, upd_same, rfl⟩ (fun j σ H' _ h => .inl (.inl h.2.1)) (fun j x σ H3 H4 hj h hy => ?_) (fun σ H3 h => ?_)
      · obtain ⟨s3, ea3, c, z5, z6, nc, nca, ec, rfl⟩ := h
        obtain ⟨rfl, hx⟩ := hy
        have hx' : (tl (LT n i))[j]? = some x := hx
        rw [tl, List.getElem?_map] at hx'
        obtain ⟨ds, hds, rfl⟩ := Option.map_eq_some_iff.mp hx'
        have hdl := (LT_len (List.mem_of_getElem? hds)).1
        have lz : (tf ds).length ≤ 5 := by rw [tf_len, hdl]; omega
        refine ⟨.ref c, rfl, .int n, rfl, (n : Int), rfl, by omega, by omega, fun D nD => ?_⟩
        have ncD : c ≠ D := ne_of_none ec nD
        have naD : a ≠ D := ne_of_none ea3 nD
        refine lc_it (walk_range (lo := 0)) (fun m H' => Same H4 H' ∧ H' D = some (.lst (tl ((List.range m).map fun l => ds ++ [l])))) ⟨same_new nD, upd_same⟩ (fun _ _ _ _ => trivial) (fun m y H5 H6 hm h hy => ?_) (fun H5 h => ?_)
        · obtain ⟨s5, eD⟩ := h
          obtain ⟨rfl, rfl⟩ := hy
          have m4 : m < 4 := by omega
          refine ⟨rfl, .str (tf ds), rfl, .int (0 + (m : Int)), rfl, 0 + (m : Int), rfl, ?_, tf ds, _, rfl, rfl, ?_, _, eD, ?_, ?_, ?_⟩
          · rw [Int.zero_add]
            match m, m4 with
            | 0, _ => decide
            | 1, _ => decide
            | 2, _ => decide
            | 3, _ => decide
          · rw [Int.zero_add, digit_str m m4]
            exact Nat.le_trans (Nat.add_le_add_right lz 1) (by decide)
          · rw [tl, List.length_map, List.length_map, List.length_range]
            exact Nat.lt_of_lt_of_le (show m < 5 by omega) (by decide)
          · exact fun q o e => by
              rw [upd_ne (ne_of_none e nD)]
              exact s5 q o e
          · rw [upd_same, Int.zero_add, digit_str m m4, tf_snoc, List.range_succ, List.map_append]
            simp [tl]
        · obtain ⟨s5, eD⟩ := h
          rw [Int.toNat_natCast] at eD
          refine ⟨c, D, _, _, rfl, rfl, s5 _ _ ec, eD, ?_, fun p3 np3 => ?_⟩
          · have h1 : ((LT n i).take j).length ≤ 64 := by rw [List.length_take]; omega
            have h2 : ∀ l : List (List Nat), (l.flatMap fun ds => (List.range n).map fun l => ds ++ [l]).length = l.length * n := fun l => by
              rw [List.length_flatMap]
              have : (l.map fun ds => ((List.range n).map fun l => ds ++ [l]).length) = l.map fun _ => n := List.map_congr_left fun ds _ => by rw [List.length_map, List.length_range]
              rw [this, List.map_const', List.sum_replicate_nat]
            rw [tl, List.length_map, h2, tl, List.length_map, List.length_map, List.length_range]
            have h3 : ((LT n i).take j).length * n ≤ 64 * 4 := Nat.mul_le_mul h1 hn4
            exact Nat.le_trans (show _ ≤ 64 * 4 + 4 by omega) (by decide)
          · have s6 : Same H4 (upd H5 p3 (.lst (tl (((LT n i).take j).flatMap fun ds => (List.range n).map fun l => ds ++ [l]) ++ tl ((List.range n).map fun l => ds ++ [l])))) := s5.trans (same_new np3)
            refine ⟨s3.trans s6, s6 _ _ ea3, p3, _, _, s3.free (s5.free np3), (ne_of_none (s5 _ _ ea3) np3).symm, ?_, rfl⟩
            rw [upd_same, List.take_add_one, hds]
            simp [tl]
      · obtain ⟨s3, ea3, c, z5, z6, nc, nca, ec, rfl⟩ := h
        have hl : (tl (LT n i)).length = (LT n i).length := List.length_map _
        rw [hl, List.take_length] at ec
        exact ⟨.ref c, rfl, s3, c, _, _, _, _, nc, ec, rfl⟩
    · obtain ⟨sm, a, y3, y4, y5, y6, na, ea, rfl⟩ := h
      rw [Int.toNat_natCast] at ea
      exact ⟨.ref a, rfl, q a H1 na sm ea⟩
end
end K01

namespace Ks
open PySem PySem.Spec L2
open PyProof.Rows hiding St
theorem vals_at : ∀ {xs : List V} {us : List Value}, xs.length = us.length → (∀ (i : Nat) (x : V) (u : Value), xs[i]? = some x → us[i]? = some u → RelV x u) → Vals xs us
  | [], [], _, _ => .nil
  | [], _ :: _, h, _ => by cases h
  | _ :: _, [], h, _ => by cases h
  | x :: xs, u :: us, h, q => .cons (q 0 x u rfl rfl) (vals_at (by simpa using h) fun i y v a b => q (i + 1) y v (by simpa using a) (by simpa using b))
/-- a text's signs -/
def signs (z : Str) : List V := z.cps.toList.map fun c => .str ⟨#[c]⟩
theorem call_list_strS {X : Cx} (hc : X.calm = true) : CallR X (.type "list") (fun xs H Q => ∃ z : Str, xs = [.str z] ∧ z.length ≤ sizeLine ∧ ∀ l, H l = none → Q (.ref l) (upd H l (.lst (signs z)))) := by
  intro pins s σ H xs us Q I r h
  obtain ⟨z, rfl, hz, q⟩ := h
  obtain ⟨u, rfl, rx⟩ := Vals.one r
  obtain ⟨t, rfl⟩ := rx
  refine call_list_str (I.ok.hd hc) z t (fun h' tk acc' c' kp e it => ?_) hz
  have hl : (signs z).length = z.cps.size := by rw [signs, List.length_map, Array.length_toList]
  have rv : Vals (signs z) acc'.toList := by
    refine vals_at (by rw [hl, Array.length_toList, it.1]) fun i x u hx hu => ?_
    obtain ⟨c, t, h1, h2⟩ := it.2 i u (by rw [← hu, Array.getElem?_toList])
    rw [signs, List.getElem?_map, Array.getElem?_toList, h1] at hx
    cases hx
    exact ⟨t, h2⟩
  exact ⟨.ref s.heap.objs.size, _, I.laid (t' := tk) kp (Nat.le_refl _) (show ObjOk X.prog X.w _ h' _ (.lst (signs z)) from ⟨by rw [hl]; exact hz, acc'.toList, c', rv, e⟩), rfl, q _ (I.hok.fresh (Nat.le_refl _))⟩
end Ks

namespace K01
open PySem PySem.Spec L2 Ks
open PyProof.Rows hiding St
theorem cl_cut_pre (z : Str) (i : Nat) (hi : i ≤ z.length) : cl (cutS z none (some (i : Int))) = (cl z).take i := by
  unfold cutS
  have h1 : HT.sIx z.length 0 none = 0 := rfl
  have h2 : HT.sIx z.length z.length (some (i : Int)) = i := by
    show (if (i : Int) < 0 then ((i : Int) + z.length).toNat else min (i : Int).toNat z.length) = i
    rw [if_neg (by omega)]
    omega
  rw [h1, h2]
  show ((((z.cps.toList.drop 0).take (i - 0)).toArray).toList) = z.cps.toList.take i
  simp
theorem cl_cut_post (z : Str) (i : Nat) (hi : i ≤ z.length) : cl (cutS z (some (i : Int)) none) = (cl z).drop i := by
  unfold cutS
  have h1 : HT.sIx z.length 0 (some (i : Int)) = i := by
    show (if (i : Int) < 0 then ((i : Int) + z.length).toNat else min (i : Int).toNat z.length) = i
    rw [if_neg (by omega)]
    omega
  have h2 : HT.sIx z.length z.length none = z.length := rfl
  rw [h1, h2]
  show ((((z.cps.toList.drop i).take (z.length - i)).toArray).toList) = z.cps.toList.drop i
  have : (z.cps.toList.drop i).length = z.length - i := by
    rw [List.length_drop, Array.length_toList]
    rfl
  rw [List.take_of_length_le (by omega)]
theorem near_txt {n : Int} {ds : List Nat} {sg : Str} {i : Nat} (hi : i ≤ ds.length) (ht : isTxt n (.str (tf ds)) = true) :
    (cutS (tf ds) none (some (i : Int)) ++ sg ++ cutS (tf ds) (some (i : Int)) none).length = ds.length + sg.length ∧
    isTxt n (.str (cutS (tf ds) none (some (i : Int)) ++ sg ++ cutS (tf ds) (some (i : Int)) none)) = (decide (ds.length + sg.length ≤ 200) && (cl sg).all fun c => (alpha n).cps.contains c) := by
  have hi' : i ≤ (tf ds).length := by rw [tf_len]; exact hi
  have e : cl (cutS (tf ds) none (some (i : Int)) ++ sg ++ cutS (tf ds) (some (i : Int)) none) = (cl (tf ds)).take i ++ cl sg ++ (cl (tf ds)).drop i := by
    rw [Ks.cl_append, Ks.cl_append, cl_cut_pre _ _ hi', cl_cut_post _ _ hi']
  have hl : (cl (tf ds)).length = ds.length := by rw [cl_len, tf_len]
  have el : (cutS (tf ds) none (some (i : Int)) ++ sg ++ cutS (tf ds) (some (i : Int)) none).length = ds.length + sg.length := by
    rw [← cl_len, e, List.length_append, List.length_append, List.length_take, List.length_drop, hl, cl_len]
    omega
  refine ⟨el, ?_⟩
  have ht' : (decide ((tf ds).length ≤ 200) && (cl (tf ds)).all fun c => (alpha n).cps.contains c) = true := ht
  rw [Bool.and_eq_true, List.all_eq_true] at ht'
  show (decide (_ ≤ 200) && (cl _).all _) = _
  rw [el, e, List.all_append, List.all_append]
  have a1 : ((cl (tf ds)).take i).all (fun c => (alpha n).cps.contains c) = true := List.all_eq_true.mpr fun c hc => ht'.2 c (List.mem_of_mem_take hc)
  have a2 : ((cl (tf ds)).drop i).all (fun c => (alpha n).cps.contains c) = true := List.all_eq_true.mpr fun c hc => ht'.2 c (List.mem_of_mem_drop hc)
  rw [a1, a2, Bool.true_and, Bool.and_true]
theorem dp_signs {K : PySem.W.Frag} {H : Hp} : ∀ cs : List Nat, DpAll K H (cs.map fun c => V.str ⟨#[c]⟩) (cs.map fun c => PyData.str ⟨#[c]⟩)
  | [] => .nil
  | c :: r => .cons (.str _) (dp_signs r)
theorem lay_signs : ∀ cs : List Nat, (∀ c ∈ cs, c < 128) → PyData.canLayAll0 (cs.map fun c => PyData.str ⟨#[c]⟩) = true
  | [], _ => by simp [PyData.canLayAll0]
  | c :: r, h => by
    have h1 : PyData.strOk ⟨#[c]⟩ = true := by
      have : c < 0x110000 := Nat.lt_trans (h c List.mem_cons_self) (by decide)
      simp [PyData.strOk, this]
    rw [List.map_cons, PyData.canLayAll0, PyData.canLay0, h1, lay_signs r fun d m => h d (List.mem_cons_of_mem _ m)]
    rfl
theorem depth_strs : ∀ cs : List Nat, PyData.depthAll (cs.map fun c => PyData.str ⟨#[c]⟩) = 0
  | [] => by simp [PyData.depthAll]
  | c :: r => by
    rw [List.map_cons, PyData.depthAll, depth_strs r]
    simp [PyData.depth]
theorem shaped_signs (cs : List Nat) (h : ∀ c ∈ cs, c < 128) : SeqAt.shaped (.list (cs.map fun c => PyData.str ⟨#[c]⟩)) = true := by
  unfold SeqAt.shaped
  rw [PyData.canLay0, lay_signs cs h, PyData.depth, depth_strs]
  rfl
theorem eqv_signs : ∀ cs : List Nat, PyData.eqv (.list (cs.map fun c => PyData.str ⟨#[c]⟩)) (.list []) = cs.isEmpty
  | [] => by simp [PyData.eqv, PyData.eqvAll]
  | c :: r => by simp [PyData.eqv, PyData.eqvAll]
section
variable {P : Program} {w : World} {K : PySem.W.Frag} {mg : Str → Option Value} {base : Heap}
def spNear : Sp := fun vs H Q _ => ∃ (b : Addr) (n : Nat), vs = [.ref b, .int n] ∧ (n = 2 ∨ n = 4) ∧ Bag b H ∧
  ∀ (ds : List Nat) (Z : Str) (p : Addr) (H' : Hp), (∀ d ∈ ds, d < n) → ds.length ≤ 200 → Z.length ≤ 202 → Go b H H' → H' p = some (.tup [.str (tf ds), .str Z, .bl (isTxt n (.str Z))]) → Q (.ref p) H'
theorem okLnear {f f1 f2 f3 : Addr} {fd fd1 fd2 fd3 : FuncData} (D : Dn K mg "_law_near_text" sLnearText ["_law_bag_here", "_law_letters"] f fd) (DLoneOf : Dn K mg "_law_one_of" sLoneOf ["_law_bag_here", "_law_items"] f1 fd1) (DLdraw : Dn K mg "_law_draw" sLdraw ["_law_bag_here", "_law_total"] f2 fd2)
    (DLtext : Dn K mg "_law_text" sLtext ["_law_bag_here", "_law_letters", "_law_width"] f3 fd3) (T : Bx mg) : FnOk P w K mg base CX0 3 f fd ["_law_bag_here", "_law_letters"] spNear := by
  have GLoneOf : FnOk P w K mg base CX0 2 _ _ _ _ := okLoneOf DLoneOf DLdraw T
  have GLtext : FnOk P w K mg base CX0 2 _ _ _ _ := okLtext DLtext DLdraw T
  have GLdraw : FnOk P w K mg base CX0 1 _ _ _ _ := okLdraw DLdraw T
  refine D.F.ok scLnearText (fun vs H Q E h => ?_) (fun cdv A outer s H vs Q E hr h => ?_)
  · obtain ⟨b, n, rfl, _⟩ := h
    rfl
  · obtain ⟨b, n, rfl, hn, hb, q⟩ := h
    refine ⟨_, ((pss_cons (ps_set (i := 2) scLnearText.nd rfl (Or.inl rfl) (pe_call GLoneOf (hr.mono (by decide)) (by rfl) DLoneOf.g DLoneOf.F.kp DLoneOf.b .nil pass0 (pa_cons (pv 0) (pa_cons (pe_lst (pa_cons pe_int (pa_cons pe_int (pa_cons pe_int (pa_cons pe_int (pa_cons pe_int (pa_cons pe_int (pa_cons pe_int (pa_cons pe_int (pa_cons pe_int (pa_cons pe_int pa_nil))))))))))) pa_nil))))
  (pss_cons (ps_par (i := 3) (j := 4) (by rfl) scLnearText.nd rfl rfl (by decide) rfl rfl (pa_cons (pe_call GLtext (hr.mono (by decide)) (by rfl) DLtext.g DLtext.F.kp DLtext.b .nil pass0 (pa_cons (pv 0) (pa_cons (pv 1) (pa_cons (pv 2) pa_nil)))) (pa_cons (pe_call GLdraw (hr.mono (by decide)) (by rfl) DLdraw.g DLdraw.F.kp DLdraw.b .nil pass0 (pa_cons (pv 0) (pa_cons (pe_op op_add (pv 2) pe_int) pa_nil))) pa_nil)) (by rfl))
  (pss_cons (ps_set (i := 5) scLnearText.nd rfl (Or.inl rfl) (pe_call GLoneOf (hr.mono (by decide)) (by rfl) DLoneOf.g DLoneOf.F.kp DLoneOf.b .nil pass0 (pa_cons (pv 0) (pa_cons (pe_op op_cat (pe_callTy (Ks.call_list_strS rfl) (by rfl) T.m_list (by decide +kernel) (pa_cons pe_str pa_nil)) (pe_lst (pa_cons pe_str (pa_cons pe_str (pa_cons pe_str (pa_cons pe_str (pa_cons pe_str pa_nil))))))) pa_nil))))
  (pss_cons (ps_set (i := 6) scLnearText.nd rfl (Or.inl rfl) (pe_cmpR (op_eqD hr.units) (pe_lc (own := [("_law_one", 7)]) (g := gName 7) rfl scLnearText.nd (pi_str (pv 5)) (blkOk_by (own := [("_law_one", 7)]) (N := ["_law_bag_here", "_law_letters", "_law_width", "_law_text_here", "_law_at", "_law_sign", "_law_right", "_law_one"]) (sc := defScope sLnearText) (by decide +kernel)) (fun _ _ _ _ _ => (pg_name (i := 7) scLnearText.nd rfl (Or.inl rfl))) (fun _ _ _ _ _ => (pts_one (pt_cmpR op_notIn_sign (pv 7) (pe_slice sl_str pe_str po_none (po_some (pv 1))) rfl))) (fun _ _ _ _ _ => (pv 7))) (pe_lst pa_nil) (nomark _)))
  (pss_one (ps_ret (pe_tup (pa_cons (pv 3) (pa_cons (pe_op op_add_str (pe_op op_add_str (pe_slice sl_str (pv 3) po_none (po_some (pv 4))) (pv 5)) (pe_slice sl_str (pv 3) (po_some (pv 4)) po_none)) (pa_cons (pe_and (pv 6) (pe_one (pe_cmpR op_le (pe_op op_add (pv 2) (pe_callB call_len (by rfl) T.m_len (by decide +kernel) (pa_cons (pv 5) pa_nil))) pe_int (nomark _)))) pa_nil))))))))))), ?_⟩
    obtain ⟨g, m, c, eb⟩ := hb
    refine ⟨.ref b, rfl, (show 10 ≤ sizeLine by decide), fun p np => ⟨b, p, _, rfl, ⟨g, m, c, by rw [upd_ne (ne_of_none eb np)]; exact eb⟩, upd_same, (ne_of_none eb np).symm, (fun z => nomatch z), (show 10 ≤ 1000 by decide), fun x hx H1 g1 => ?_⟩⟩
    have hk : ∃ k : Nat, x = .int k ∧ k ≤ 200 := by
      simp only [List.mem_cons, List.mem_nil_iff, or_false] at hx
      rcases hx with rfl | rfl | rfl | rfl | rfl | rfl | rfl | rfl | rfl | rfl
      · exact ⟨0, rfl, by decide⟩
      · exact ⟨1, rfl, by decide⟩
      · exact ⟨2, rfl, by decide⟩
      · exact ⟨3, rfl, by decide⟩
      · exact ⟨5, rfl, by decide⟩
      · exact ⟨8, rfl, by decide⟩
      · exact ⟨60, rfl, by decide⟩
      · exact ⟨198, rfl, by decide⟩
      · exact ⟨199, rfl, by decide⟩
      · exact ⟨200, rfl, by decide⟩
    obtain ⟨k, rfl, hk⟩ := hk
    refine ⟨.ref b, rfl, .int n, rfl, .int k, rfl, b, n, (k : Int), rfl, by omega, by omega, by omega, g1.1, fun z hz lz H2 g2 => ?_⟩
    refine ⟨.ref b, rfl, .int k, rfl, (k : Int), 1, rfl, rfl, b, (k : Int) + 1, rfl, by omega, ?_, g2.1, fun r hr H3 g3 => ?_⟩
    · have h1 := Nat.log2_le_self ((k : Int) + 1).natAbs
      omega
    obtain ⟨ds, rfl, hd, hl, hl2⟩ := txt_tf (n := n) hn hz
    refine ⟨_, _, rfl, ?_⟩
    have G3 : Go b H H3 := ((((Go.refl (⟨g, m, c, eb⟩ : Bag b H)).new np).trans g1).trans g2).trans g3
    have dk : ds.length = k := by rw [tf_len] at lz; omega
    have rk : r ≤ ds.length := by omega
    refine ⟨.ref b, rfl, _, rfl, (show 16 ≤ sizeLine by decide), fun l nl => ⟨(show 5 ≤ sizeLine by decide), fun p2 np2 => ?_⟩⟩
    have el : upd (upd H3 l (.lst (Ks.signs "0123456789 -a/:\n"))) p2 (.lst [.str "00", .str "11", .str "10", .str "23", .str ""]) l = some (.lst (Ks.signs "0123456789 -a/:\n")) := by
      rw [upd_ne (ne_of_none upd_same np2)]
      exact upd_same
    refine ⟨l, p2, _, _, rfl, rfl, el, upd_same, (show 16 + 5 ≤ sizeLine by decide), fun p4 np4 => ?_⟩
    have G3' := (G3.new (o := .lst (Ks.signs "0123456789 -a/:\n")) nl).new (o := .lst [.str "00", .str "11", .str "10", .str "23", .str ""]) np2
    have G4 := ((G3.new (o := .lst (Ks.signs "0123456789 -a/:\n")) nl).new (o := .lst [.str "00", .str "11", .str "10", .str "23", .str ""]) np2).new (o := .lst (Ks.signs "0123456789 -a/:\n" ++ [.str "00", .str "11", .str "10", .str "23", .str ""])) np4
    refine ⟨b, p4, _, rfl, G4.1, upd_same, ?_, (fun z => nomatch (List.append_eq_nil_iff.mp z).2), (show 16 + 5 ≤ 1000 by decide), fun x hx H5 g5 => ?_⟩
    · exact G3'.1.ne np4
    obtain ⟨sg, rfl, hsg, sgc⟩ : ∃ sg : Str, x = .str sg ∧ sg.length ≤ 2 ∧ ∀ c ∈ cl sg, c < 128 := by
      rcases List.mem_append.mp hx with hx | hx
      · obtain ⟨c, hc, rfl⟩ := List.mem_map.mp hx
        refine ⟨_, rfl, (show 1 ≤ 2 by decide), fun d hd => ?_⟩
        rw [show d = c from List.mem_singleton.mp hd]
        exact (show ∀ c ∈ ("0123456789 -a/:\n" : Str).cps.toList, c < 128 by decide) c hc
      · simp only [List.mem_cons, List.mem_nil_iff, or_false] at hx
        rcases hx with rfl | rfl | rfl | rfl | rfl
        · exact ⟨_, rfl, by decide, by decide⟩
        · exact ⟨_, rfl, by decide, by decide⟩
        · exact ⟨_, rfl, by decide, by decide⟩
        · exact ⟨_, rfl, by decide, by decide⟩
        · exact ⟨_, rfl, by decide, by decide⟩
    refine ⟨.str sg, rfl, sg, rfl, fun D nD => ?_⟩
    have G5 := G4.trans g5
    refine lc_it (walk_str (z := sg)) (fun i H' => Go b H H' ∧ H' D = some (.lst ((((cl sg).take i).filter fun c => !decide (c ∈ (alpha n).cps.toList)).map fun c => V.str ⟨#[c]⟩))) ⟨G5.new nD, upd_same⟩ (fun _ _ _ _ => trivial) (fun i x H6 H7 hi h hy => ?_) (fun H6 h => ?_)
    · obtain ⟨g6, eD⟩ := h
      obtain ⟨rfl, c, hc, rfl⟩ := hy
      refine ⟨rfl, .str ⟨#[c]⟩, rfl, .int n, rfl, (n : Int), rfl, ("0123" : Str), rfl, by decide, c, _, rfl, rfl, _, rfl, ?_⟩
      have hc2 : (cl sg)[i]? = some c := by
        show sg.cps.toList[i]? = _
        rw [Array.getElem?_toList]
        exact hc
      have et : (cl sg).take (i + 1) = (cl sg).take i ++ [c] := by rw [List.take_add_one, hc2]; rfl
      have ea : cutS ("0123" : Str) none (some (n : Int)) = alpha n := rfl
      rw [ea, et, List.filter_append, List.map_append]
      refine ite2 (fun e => ?_) (fun e => ?_)
      · refine ⟨.str ⟨#[c]⟩, rfl, _, eD, ?_, g6.set (G5.free ⟨g, m, _, eb⟩ nD) ⟨g, m, _, eb⟩, ?_⟩
        · rw [List.length_map]
          have h1 := List.length_filter_le (fun c => !decide (c ∈ (alpha n).cps.toList)) ((cl sg).take i)
          have h2 : ((cl sg).take i).length ≤ i := by rw [List.length_take]; omega
          have h3 : i < 2 := Nat.lt_of_lt_of_le hi hsg
          exact Nat.lt_of_le_of_lt (show _ ≤ 2 by omega) (by decide)
        · rw [upd_same]
          rw [List.filter_cons, if_pos e, List.filter_nil]
          rfl
      · refine ⟨g6, ?_⟩
        rw [List.filter_cons, if_neg e, List.filter_nil, List.map_nil, List.append_nil]
        exact eD
    · obtain ⟨g6, eD⟩ := h
      have sgl : (cl sg).length = sg.length := cl_len sg
      rw [show sg.cps.size = (cl sg).length from sgl.symm, List.take_length] at eD
      refine ⟨(show 0 ≤ sizeLine by decide), fun e0 ne0 => ?_⟩
      have eD2 : upd H6 e0 (.lst []) D = some (.lst (((cl sg).filter fun c => !decide (c ∈ (alpha n).cps.toList)).map fun c => V.str ⟨#[c]⟩)) := by
        rw [upd_ne (ne_of_none eD ne0)]
        exact eD
      refine ⟨.list (((cl sg).filter fun c => !decide (c ∈ (alpha n).cps.toList)).map fun c => PyData.str ⟨#[c]⟩), .list [], .lst (.inl (.inl eD2)) (dp_signs _), .lst (.inl (.inl upd_same)) .nil, shaped_signs _ (fun c hc => sgc c (List.mem_filter.mp hc).1), rfl, ?_⟩
      rw [eqv_signs]
      obtain ⟨R, hR⟩ : ∃ R, R = ((cl sg).filter fun c => !decide (c ∈ (alpha n).cps.toList)).isEmpty := ⟨_, rfl⟩
      have hR2 : R = (cl sg).all fun c => (alpha n).cps.contains c := by
        rw [hR, Bool.eq_iff_iff, List.isEmpty_iff, List.filter_eq_nil_iff, List.all_eq_true]
        refine forall_congr' fun c => forall_congr' fun _ => ?_
        rw [Array.contains_iff, Bool.not_eq_true, Bool.not_eq_false', decide_eq_true_eq, Array.mem_toList_iff]
      rw [← hR]
      have lds : (tf ds).length ≤ sizeLine := by rw [tf_len]; exact line200 (by omega)
      obtain ⟨hZl, hZt⟩ := near_txt (sg := sg) rk hz
      have G6 : Go b H (upd H6 e0 (.lst [])) := g6.new ne0
      have lcut : (cutS (tf ds) none (some (r : Int))).length ≤ 200 := by
        rw [← cl_len, cl_cut_pre _ _ (by rw [tf_len]; exact rk), List.length_take, cl_len]
        omega
      have lcut2 : (cutS (tf ds) (some (r : Int)) none).length ≤ 200 := by
        rw [← cl_len, cl_cut_post _ _ (by rw [tf_len]; exact rk), List.length_drop, cl_len]
        omega
      have lap : (cutS (tf ds) none (some (r : Int)) ++ sg).length ≤ 202 := by
        rw [← cl_len, Ks.cl_append, List.length_append, cl_len, cl_len]
        omega
      refine ⟨.str (tf ds), rfl, .str (tf ds), rfl, .int r, rfl, (r : Int), rfl, tf ds, rfl, lds, .str sg, rfl, _, _, rfl, rfl, Nat.le_trans (show _ ≤ 202 by omega) (by decide), ?_⟩
      refine ⟨.str (tf ds), rfl, .int r, rfl, (r : Int), rfl, tf ds, rfl, lds, _, _, rfl, rfl, Nat.le_trans (show _ ≤ 402 by omega) (by decide), ?_⟩
      refine ⟨.bl R, rfl, R, rfl, ite2 (fun e => ?_) (fun e => ?_)⟩
      · refine ⟨.int k, rfl, .str sg, rfl, .str sg, sg.length, rfl, ⟨Nat.le_trans hsg (by decide), rfl⟩, _, _, rfl, rfl, _, _, rfl, rfl, (show 3 ≤ sizeLine by decide), fun pp npp => ?_⟩
        refine q ds _ pp _ hd (by omega) (by rw [hZl]; omega) (G6.new npp) ?_
        rw [upd_same, hZt, ← hR2, e, Bool.and_true, dk]
        have e9 : decide ((k : Int) + (sg.length : Int) ≤ 200) = decide (k + sg.length ≤ 200) := by
          rw [decide_eq_decide]
          omega
        show some (HO.tup [_, _, V.bl (decide ((k : Int) + (sg.length : Int) ≤ 200))]) = _
        rw [e9]
      · refine ⟨(show 3 ≤ sizeLine by decide), fun pp npp => ?_⟩
        refine q ds _ pp _ hd (by omega) (by rw [hZl]; omega) (G6.new npp) ?_
        rw [upd_same, hZt, ← hR2, Bool.eq_false_iff.mpr e, Bool.and_false]
end
end K01

namespace K01
open PySem PySem.Spec L2 Ks
open PyProof.Rows hiding St
section
variable {P : Program} {w : World} {K : PySem.W.Frag} {mg : Str → Option Value} {base : Heap}
variable {CN CT CO fI fN fC fL fT fX fW : Addr} {fdI dN dC dL dT dX dW : FuncData}
def spTextsG : SpG := fun vs H Q _ => ∃ n w : Nat, vs = [.int n, .int w] ∧ (n = 2 ∨ n = 4) ∧ w ≤ 5 ∧ n ^ w ≤ 64 ∧ ∀ H', Same H H' → Q (allTexts n w) H'
theorem okTextsG {f : Addr} {fd : FuncData} (D : Dn K mg "texts_of" sTextsOf ["letters", "width"] f fd) (S : Ds K mg fN fC fL fT fX fW dN dC dL dT dX dW) (T : Bx mg) (R : Er K mg CN CT fI fdI) :
    GFn P w K mg base 7 f fd ["letters", "width"] spTextsG := by
  have DCheckLetters := S.chL
  have GCheckLetters : FnOk P w K mg base (L2.CX P w) 3 _ _ _ _ := okCheckLetters S T R
  have DCheckWidth := S.chW
  have GCheckWidth : FnOk P w K mg base (L2.CX P w) 4 _ _ _ _ := okCheckWidth S T R
  obtain ⟨oc, od, kV, doc, pm, an, cdv, ct, osl, rfl, lk, hcd⟩ := D.F.ex
  refine gfn_of lk hcd scTextsOf (fun vs H Q E h => ?_) (fun A outer s H vs Q E pn hr h => ?_)
  · obtain ⟨n, w, rfl, _⟩ := h
    rfl
  · obtain ⟨n, wd, rfl, hn, hw5, hp, q⟩ := h
    have hw : wd ≤ 200 := by omega
    refine ⟨_, gss_cons (gs_ps (ps_expr (pe_call GCheckLetters (hr.mono (by decide)) (by rfl) DCheckLetters.g DCheckLetters.F.kp DCheckLetters.b .nil (passes_call takes_gcx (fun _ _ _ _ z => z)) (pa_cons (pv 0) pa_nil))))
      (gss_cons (gs_ps (ps_expr (pe_call GCheckWidth (hr.mono (by decide)) (by rfl) DCheckWidth.g DCheckWidth.F.kp DCheckWidth.b .nil (passes_call takes_gcx (fun _ _ _ _ z => z)) (pa_cons (pv 1) pa_nil))))
      (gss_cons (gs_ps (ps_set (i := 2) scTextsOf.nd rfl (Or.inl rfl) (pe_callTy call_str_int (by rfl) T.m_str (by decide +kernel) (pa_cons (pe_op op_sub (pv 0) pe_int) pa_nil))))
      (gss_cons (gs_ps (ps_set (i := 3) scTextsOf.nd rfl (Or.inl rfl) (pe_op Ks.op_mul_str pe_str (pv 1))))
      (gss_cons (gs_while owns_gcx (pt_val pe_bl) (gss_cons (gs_yield (pv 3)) (gss_pss (
          pss_cons (ps_set (i := 4) scTextsOf.nd rfl (Or.inl rfl) (pe_bm PySem.F.plainAttrs_str PySem.F.slot_str_rstrip PySem.F.type_str_rstrip mt_rstripChars (pv 3) (pa_cons (pv 2) pa_nil)))
          (pss_cons (ps_if (pt_cmpR op_eq (pv 4) pe_str (nomark _)) (pss_one ps_retN) pss_nil)
          (pss_one (ps_set (i := 3) scTextsOf.nd rfl (Or.inl rfl) (pe_bm PySem.F.plainAttrs_str PySem.F.slot_str_ljust PySem.F.type_str_ljust mt_ljustF (pe_op op_add_str (pe_slice sl_str (pv 4) po_none (po_some (pe_un un_neg pe_int))) (pe_callTy call_str_int (by rfl) T.m_str (by decide +kernel) (pa_cons (pe_op op_add (pe_callTy call_int_str (by rfl) T.m_int (by decide +kernel) (pa_cons (pe_ix ix_str (pv 4) (pe_un un_neg pe_int) (fun _ _ => rfl)) pa_nil)) pe_int) pa_nil))) (pa_cons (pv 1) (pa_cons pe_str pa_nil))))))))))
      gss_nil)))), ?_⟩
    have lok : lettersOk (.int (n : Int)) = true := by rcases hn with rfl | rfl <;> decide
    have wok : isNum 0 200 (.int (wd : Int)) = true := by
      show (decide ((0 : Int) ≤ wd) && decide ((wd : Int) ≤ 200)) = true
      rw [Bool.and_eq_true, decide_eq_true_eq, decide_eq_true_eq]
      omega
    refine ⟨.int n, rfl, .int n, rfl, .int _, fun _ => ?_, fun e => by rw [lok] at e; cases e⟩
    refine ⟨.int wd, rfl, .int wd, rfl, .int _, fun _ => ?_, fun e => by rw [wok] at e; cases e⟩
    have hn1 : 1 < n := by rcases hn with rfl | rfl <;> decide
    have hg : Str.ofString (toString ((n : Int) - 1)) = ⟨#[48 + (n - 1)]⟩ := by rcases hn with rfl | rfl <;> decide +kernel
    refine ⟨.int n, rfl, (n : Int), 1, rfl, rfl, (n : Int) - 1, rfl, by rcases hn with rfl | rfl <;> decide, ?_⟩
    have mok : MulOk "0" (wd : Int) := by
      refine ⟨?_, fun _ _ => ?_, fun _ _ => ?_⟩
      · rw [Bool.or_eq_false_iff, decide_eq_false_iff_not, decide_eq_false_iff_not]
        omega
      · show ¬ (((1 : Nat) : Int) > (2 ^ 63 - 1) / (wd : Int))
        have h1 : (1 : Int) ≤ (2 ^ 63 - 1) / (wd : Int) := Int.le_ediv_of_mul_le (by omega) (by omega)
        omega
      · show Builtin.Str.tooLong (1 * ((wd : Int)).toNat) = false
        rw [Int.toNat_natCast, Nat.one_mul]
        have : wd ≤ 200 := hw
        unfold Builtin.Str.tooLong
        exact decide_eq_false (by have : sizeLine = 16777216 := sizeLine_eq; omega)
    refine ⟨.int wd, rfl, "0", (wd : Int), rfl, rfl, mok, ?_⟩
    have hxs : (allTexts n wd).length = n ^ wd := by rw [allTexts, List.length_map, List.length_range]
    refine ⟨fun m ys σ H' => ∃ i, i < n ^ wd ∧ m = n ^ wd - i ∧ ys = (allTexts n wd).take i ∧ Same H H' ∧ ∃ hd, σ = [some (.int n), some (.int wd), some (.str ⟨#[48 + (n - 1)]⟩), some (.str (tn n wd i)), hd], ⟨n ^ wd, 0, Nat.pow_pos (by omega), rfl, rfl, Same.refl H, none, ?_⟩, ?_⟩
    · show [some (V.int n), some (V.int wd), some (V.str (Str.ofString (toString ((n : Int) - 1)))), some (V.str (Txt.mul "0" (wd : Int))), none] = _
      rw [hg, mul_tx, tn, ld_zero]
    · rintro m ys σ H1 ⟨i, hi, rfl, rfl, sm, hd, rfl⟩
      have hlen : (tn n wd i).length ≤ sizeLine := by rw [tn, tx_len, ld_len]; exact line200 hw
      refine ⟨true, rfl, (if_pos rfl).mpr ?_⟩
      have hget : (allTexts n wd)[i]? = some (.str (tn n wd i)) := by
        rw [allTexts, List.getElem?_map, List.getElem?_range hi]
        rfl
      have htk : (allTexts n wd).take i ++ [.str (tn n wd i)] = (allTexts n wd).take (i + 1) := by rw [List.take_add_one, hget]; rfl
      refine ⟨fun ys' σ' H' => ys' = (allTexts n wd).take i ++ [.str (tn n wd i)] ∧ i + 1 < n ^ wd ∧ Same H H' ∧ ∃ hd, σ' = [some (.int n), some (.int wd), some (.str ⟨#[48 + (n - 1)]⟩), some (.str (tn n wd (i + 1))), hd], fun ys' σ' H' h => ?_, ?_⟩
      · obtain ⟨rfl, h1, s1, hd', rfl⟩ := h
        exact ⟨n ^ wd - (i + 1), by omega, i + 1, h1, rfl, htk, s1, hd', rfl⟩
      · refine ⟨?_, .str (tn n wd i), rfl, ?_⟩
        · rw [List.length_take, hxs]
          exact Nat.lt_of_le_of_lt (show _ ≤ 64 by omega) (by decide)
        refine ⟨.str (tn n wd i), rfl, rfl, .str ⟨#[48 + (n - 1)]⟩, rfl, tn n wd i, ⟨#[48 + (n - 1)]⟩, rfl, rfl, hlen, ?_⟩
        have e1 : Txt.rstripChars (tn n wd i) ⟨#[48 + (n - 1)]⟩ = tx ((ld n wd i).drop (lead n (ld n wd i))) := rstrip_tx _
        rw [e1]
        have he := ld_end hn1 wd i hi
        have hlt := ld_lt hn1 wd i
        cases hdp : (ld n wd i).drop (lead n (ld n wd i)) with
        | nil =>
          refine ⟨_, rfl, rfl, _, rfl, ite2 (fun _ => ?_) (fun e => absurd (by rw [tx_nil]; exact decide_eq_true rfl) e)⟩
          refine ⟨rfl, ?_⟩
          rw [htk, he.mp hdp, ← hxs, List.take_length]
          exact q _ sm
        | cons d r =>
          refine ⟨_, rfl, rfl, _, rfl, ite2 (fun e => absurd (V.str.inj (of_decide_eq_true e)) tx_cons_ne) (fun _ => ?_)⟩
          have hmem : d ∈ ld n wd i := List.mem_of_mem_drop (by rw [hdp]; exact List.mem_cons_self)
          have hd1 : d < n := hlt d hmem
          obtain ⟨hsc, hdn⟩ := sc_drop (ld n wd i) hdp
          have hd4 : d < 4 := by rcases hn with rfl | rfl <;> omega
          have hd5 : d + 1 < 4 := by rcases hn with rfl | rfl <;> omega
          have hrl : r.length + 1 + lead n (ld n wd i) = wd := by
            have h1 := congrArg List.length hdp
            rw [List.length_drop, ld_len, List.length_cons] at h1
            omega
          have hl2 : (tx (d :: r)).length ≤ sizeLine := by rw [tx_len, List.length_cons]; exact line200 (by omega)
          have pok : PadOk (wd : Int) = true := (by decide +kernel : ∀ w : Nat, w ≤ 200 → PadOk (w : Int) = true) wd hw
          have hlast : atI (tx (d :: r)).cps.toList (-1) = some (48 + d) := last_tx
          refine ⟨.str (tx (d :: r)), rfl, 1, rfl, -1, rfl, tx (d :: r), rfl, hl2, ?_⟩
          refine ⟨.str (tx (d :: r)), rfl, 1, rfl, tx (d :: r), -1, 48 + d, rfl, rfl, hl2, hlast, ⟨#[48 + d]⟩, (d : Int), rfl, int_digit hd4, (show 1 ≤ 640 by decide), (d : Int), 1, rfl, rfl, (d : Int) + 1, rfl, ?_, ?_⟩
          · exact lg_digit hd5
          · have ec : cutS (tx (d :: r)) none (some (-1)) = tx r := cut_tx
            have es : Str.ofString (toString ((d : Int) + 1)) = ⟨#[48 + (d + 1)]⟩ := digit_str (d + 1) hd5
            rw [ec, es]
            have hne : i + 1 ≠ n ^ wd := fun z => by
              have := he.mpr z
              rw [hdp] at this
              cases this
            refine ⟨tx r, ⟨#[48 + (d + 1)]⟩, rfl, rfl, ?_, rfl, .int wd, rfl, tx r ++ ⟨#[48 + (d + 1)]⟩, "0", (wd : Int), rfl, rfl, pok, rfl, rfl, by omega, sm, some (.str (tx (d :: r))), ?_⟩
            · rw [tx_len]
              exact line200 (show r.length + 1 ≤ 200 by omega)
            · have ej : Txt.ljustF (tx r ++ ⟨#[48 + (d + 1)]⟩) (wd : Int) 48 = tn n wd (i + 1) := by
                rw [ljust_tx (by omega), tn, ld_succ hn1, hsc]
                congr 3
                omega
              show [some (V.int n), some (V.int wd), some (V.str ⟨#[48 + (n - 1)]⟩), some (V.str (Txt.ljustF (tx r ++ ⟨#[48 + (d + 1)]⟩) (wd : Int) 48)), some (V.str (tx (d :: r)))] = _
              rw [ej]
end
end K01

namespace Ks
open PySem PySem.Spec L2
open PyProof.Rows hiding St
theorem op_add_bb {X : Cx} : OpR X (binaryOp .Add) (fun x y H Q => ∃ i k, x = .bl i ∧ y = .bl k ∧ Q (.int (b2i i + b2i k)) H) := by
  intro pins s σ H x y v u Q I rx ry h
  obtain ⟨i, k, rfl, rfl, q⟩ := h
  cases rx
  cases ry
  exact add_bool ⟨.int (b2i i + b2i k), H, I.tok _, ⟨_, rfl⟩, q⟩
end Ks
namespace K01
open PySem PySem.Spec L2 Ks
open PyProof.Rows hiding St
theorem two_is {ds : List Nat} (hd : ∀ d ∈ ds, d < 4) (hl : ds.length ≤ 200) : isTxt 2 (.str (tf ds)) = ((!decide (50 ∈ (tf ds).cps.toList)) && !decide (51 ∈ (tf ds).cps.toList)) := by
  have e : (tf ds).cps.toList = ds.map (48 + ·) := cl_tf ds
  show (decide ((tf ds).length ≤ 200) && (cl (tf ds)).all fun c => (alpha 2).cps.contains c) = _
  rw [tf_len, decide_eq_true hl, Bool.true_and, e, show cl (tf ds) = ds.map (48 + ·) from cl_tf ds, Bool.eq_iff_iff, List.all_eq_true, Bool.and_eq_true, Bool.not_eq_true', Bool.not_eq_true', decide_eq_false_iff_not, decide_eq_false_iff_not, alpha2]
  constructor
  · intro h
    refine ⟨fun m => ?_, fun m => ?_⟩
    · have := h _ m
      simp at this
    · have := h _ m
      simp at this
  · rintro ⟨h1, h2⟩ c hc
    obtain ⟨d, hm, rfl⟩ := List.mem_map.mp hc
    have := hd d hm
    have n2 : d ≠ 2 := fun z => h1 (List.mem_map.mpr ⟨d, hm, by rw [z]⟩)
    have n3 : d ≠ 3 := fun z => h2 (List.mem_map.mpr ⟨d, hm, by rw [z]⟩)
    have : d = 0 ∨ d = 1 := by omega
    rcases this with rfl | rfl <;> simp
section
variable {P : Program} {w : World} {K : PySem.W.Frag} {mg : Str → Option Value} {base : Heap}
variable {CN CT CO fI fN fC fL fT fX fW : Addr} {fdI dN dC dL dT dX dW : FuncData}
theorem ist {C : Addr} {H : Hp} {Q : VK} {E : XK} {x : V} {n : Nat} (hn : n = 2 ∨ n = 4) (hx : AnyV H x) (fx : Fit x) (q : Q (.bl (isTxt n x)) H) : spIsText C [x, .int n] H Q E := by
  refine ⟨x, .int n, rfl, hx, fx, .int _, fun e => ?_, fun m em _ => ?_⟩
  · rcases hn with rfl | rfl <;> exact nomatch (show true = false from e)
  · cases em
    exact q
theorem fit_tf {ds : List Nat} (h : ds.length ≤ 200) : Fit (.str (tf ds)) := fun z e => by cases e; rw [tf_len]; exact line200 h
def spAre : Sp := fun vs H Q _ => ∃ (b : Addr) (n : Nat), vs = [.ref b, .int n] ∧ (n = 2 ∨ n = 4) ∧ Bag b H ∧ ∀ H', Go b H H' → Q (.bl true) H'
theorem okLareTexts {f f1 f2 f3 f4 : Addr} {fd fd1 fd2 fd3 fd4 : FuncData} (D : Dn K mg "_law_are_texts" sLareTexts ["_law_bag_here", "_law_letters"] f fd) (DLnearText : Dn K mg "_law_near_text" sLnearText ["_law_bag_here", "_law_letters"] f4 fd4) (DLoneOf : Dn K mg "_law_one_of" sLoneOf ["_law_bag_here", "_law_items"] f1 fd1) (DLdraw : Dn K mg "_law_draw" sLdraw ["_law_bag_here", "_law_total"] f2 fd2)
    (DLtext : Dn K mg "_law_text" sLtext ["_law_bag_here", "_law_letters", "_law_width"] f3 fd3) (S : Ds K mg fN fC fL fT fX fW dN dC dL dT dX dW) (T : Bx mg) (R : Er K mg CN CT fI fdI) : FnG P w K mg base CX0 6 f fd ["_law_bag_here", "_law_letters"] spAre := by
  have GLnearText : FnOk P w K mg base CX0 3 _ _ _ _ := okLnear DLnearText DLoneOf DLdraw DLtext T
  have DIsText := S.isT
  have GIsText : FnOk P w K mg base (L2.CX P w) 4 _ _ _ _ := okIsText S T R
  refine fng_of D.F scLareTexts (fun vs H Q E h => ?_) (fun cdv A outer s H vs Q E hr hG h => ?_)
  · obtain ⟨b, n, rfl, _⟩ := h
    rfl
  · obtain ⟨b, n, rfl, hn, hb, q⟩ := h
    have hu := (show ∀ a b c : Nat, b + c + 200 < a → b + 100 < a from fun _ _ _ h => by omega) _ _ _ hr.un
    refine ⟨_, ((pss_cons (ps_for PassesOwn.leaving rfl (pi_range1 (by rfl) T.m_range (pa_cons pe_int pa_nil)) (pg_name (i := 2) scLareTexts.nd rfl (Or.inl rfl)) (pss_cons (ps_asg (pe_call GLnearText (hr.mono (by decide)) (by rfl) DLnearText.g DLnearText.F.kp DLnearText.b .nil pass0 (pa_cons (pv 0) (pa_cons (pv 1) pa_nil))) (pg_tup rfl (pgs_cons (pg_name (i := 3) scLareTexts.nd rfl (Or.inl rfl)) (pgs_cons (pg_name (i := 4) scLareTexts.nd rfl (Or.inl rfl)) (pgs_cons (pg_name (i := 5) scLareTexts.nd rfl (Or.inl rfl)) pgs_nil)))))
  (pss_cons (ps_if (PW.pt (pw_or (pt_cmpR op_notBl (pe_call (E := fun _ _ _ => False) GIsText (hr.mono (by decide)) (by rfl) DIsText.g DIsText.F.kp DIsText.b .nil passL (pa_cons (pv 3) (pa_cons (pv 1) pa_nil))) pe_bl (nomark _)) (pw_or1 (pt_cmpR op_ne (pe_callB (Ks.call_show hG hu) (by rfl) T.m_repr (by decide +kernel) (pa_cons (pe_call (E := fun _ _ _ => False) GIsText (hr.mono (by decide)) (by rfl) DIsText.g DIsText.F.kp DIsText.b .nil passL (pa_cons (pv 4) (pa_cons (pv 1) pa_nil))) pa_nil)) (pe_callB (Ks.call_show hG hu) (by rfl) T.m_repr (by decide +kernel) (pa_cons (pv 5) pa_nil)) (nomark _))))) (pss_one (ps_ret pe_bl)) pss_nil)
  (pss_one (ps_if (PW.pt (pw_or (pt_cmpR op_notBl (pe_call (E := fun _ _ _ => False) GIsText (hr.mono (by decide)) (by rfl) DIsText.g DIsText.F.kp DIsText.b .nil passL (pa_cons (pv 3) (pa_cons pe_int pa_nil))) pe_bl (nomark _)) (pw_or1 (pt_cmpR op_ne (pe_call (E := fun _ _ _ => False) GIsText (hr.mono (by decide)) (by rfl) DIsText.g DIsText.F.kp DIsText.b .nil passL (pa_cons (pv 3) (pa_cons pe_int pa_nil))) (pe_and (pe_cmpR op_notIn_sign pe_str (pv 3) rfl) (pe_one (pe_cmpR op_notIn_sign pe_str (pv 3) rfl))) (nomark _))))) (pss_one (ps_ret pe_bl)) pss_nil)))))
  (pss_cons (ps_set (i := 6) scLareTexts.nd rfl (Or.inl rfl) (pe_lst (pa_cons pe_non (pa_cons pe_bl (pa_cons pe_int (pa_cons pe_int (pa_cons (pe_op op_mulW (pe_op Ks.op_powW pe_int pe_int) (pe_op Ks.op_powW pe_int pe_int)) (pa_cons (pe_tup pa_nil) (pa_cons (pe_tup (pa_cons pe_str pa_nil)) (pa_cons (pe_lst (pa_cons pe_str (pa_cons pe_str pa_nil))) (pa_cons (pe_disp (pps_cons pe_str pe_int pps_nil) (by rfl) (by rfl) (fun z => by cases z) (by decide)) (pa_cons (pe_op Ks.op_mul_str pe_str pe_int) (pa_cons (pe_op Ks.op_mul_str pe_str pe_int) (pa_cons (pe_op op_sub pe_int pe_int) pa_nil))))))))))))))
  (pss_one (ps_ret (pe_cmpR (op_eqD hr.units) (pe_lc (own := [("_law_one", 7)]) (g := gName 7) rfl scLareTexts.nd (pi_list (pv 6)) (blkOk_by (own := [("_law_one", 7)]) (N := ["_law_bag_here", "_law_letters", "_law_turn", "_law_text_here", "_law_near", "_law_is_right", "_law_odd", "_law_one"]) (sc := defScope sLareTexts) (by decide +kernel)) (fun _ _ _ _ _ => (pg_name (i := 7) scLareTexts.nd rfl (Or.inl rfl))) (fun _ _ _ _ _ => (pts_one (pt_cmpR op_notBl (pe_call (E := fun _ _ _ => False) GIsText (hr.mono (by decide)) (by rfl) DIsText.g DIsText.F.kp DIsText.b .nil passL (pa_cons (pv 7) (pa_cons (pv 1) pa_nil))) pe_bl (nomark _)))) (fun _ _ _ _ _ => (pv 7))) (pe_lst pa_nil) (nomark _))))))), ?_⟩
    have go : ∀ {H0 : Hp}, Go b H H0 → ∀ {y2 y3 y4 y5 y6 y7 : Option V}, True := fun _ => trivial
    have lok : lettersOk (.int (n : Int)) = true := by rcases hn with rfl | rfl <;> decide
    refine ⟨4, rfl, by decide, by decide, ?_⟩
    refine for_it (walk_range (lo := 0)) (fun i σ H' => Go b H H' ∧ ∃ y2 y3 y4 y5 y6 y7, σ = [some (.ref b), some (.int n), y2, y3, y4, y5, y6, y7]) ⟨Go.refl hb, _, _, _, _, _, _, rfl⟩ (fun _ _ _ _ _ => trivial) (fun i x σ H1 H2 hi h hy => ?_) (fun σ H1 h => ?_)
    · obtain ⟨g1, y2, y3, y4, y5, y6, y7, rfl⟩ := h
      obtain ⟨rfl, rfl⟩ := hy
      refine ⟨.ref b, rfl, .int n, rfl, b, n, rfl, hn, g1.1, fun ds Z p H3 hd hl hZ g3 ep => ?_⟩
      have hd4 : ∀ d ∈ ds, d < 4 := fun d m => Nat.lt_of_lt_of_le (hd d m) (by omega)
      have tn := isTxt_tf hn hd hl
      have t4 := isTxt_tf (n := 4) (.inr rfl) hd4 hl
      refine ⟨p, _, rfl, .inl (.inl ep), rfl, _, _, rfl, _, _, rfl, _, _, rfl, rfl, ?_⟩
      refine ⟨.str (tf ds), rfl, .int n, rfl, .str (tf ds), .int n, rfl, .str _, fit_tf hl, .int _, (fun e => nomatch (lok.symm.trans e : true = false)), fun m em _ => ?_⟩
      cases em
      rw [tn]
      refine ⟨true, true, rfl, rfl, _, rfl, (if_neg (by decide)).mpr ?_⟩
      refine ⟨.str Z, rfl, .int n, rfl, .str Z, .int n, rfl, .str _, (fun z e => by cases e; exact Nat.le_trans hZ (by decide)), .int _, (fun e => nomatch (lok.symm.trans e : true = false)), fun m em _ => ?_⟩
      cases em
      have shb : ∀ (c : Bool) (H0 : Hp), Shows K H0 (.bl c) (.bool c) := fun c H0 => .inl ⟨.bl c, rfl⟩
      refine ⟨_, _, rfl, shb _ _, rfl, (by simp [PyData.depth]), (by cases (isTxt n (.str Z)) <;> decide), .bl (isTxt n (.str Z)), rfl, _, _, rfl, shb _ _, rfl, (by simp [PyData.depth]), (by cases (isTxt n (.str Z)) <;> decide), rfl, _, rfl, (if_neg (by simp)).mpr ?_⟩
      refine ⟨.str (tf ds), rfl, .str (tf ds), .int 4, rfl, .str _, fit_tf hl, .int _, (fun e => by cases e), fun m em _ => ?_⟩
      cases em
      rw [show isTxt 4 (.str (tf ds)) = true from t4]
      refine ⟨true, true, rfl, rfl, _, rfl, (if_neg (by decide)).mpr ?_⟩
      refine ⟨.str (tf ds), rfl, .str (tf ds), .int 2, rfl, .str _, fit_tf hl, .int _, (fun e => by cases e), fun m em _ => ?_⟩
      cases em
      rw [show isTxt 2 (.str (tf ds)) = _ from two_is hd4 hl]
      refine ⟨.str (tf ds), rfl, 50, _, rfl, rfl, _, rfl, ite2 (fun e1 => ?_) (fun e1 => ?_)⟩
      · refine ⟨.str (tf ds), rfl, 51, _, rfl, rfl, rfl, _, rfl, (if_neg ?_).mpr ?_⟩
        · rw [e1]
          simp
        · exact ⟨g1.trans g3, _, _, _, _, _, _, rfl⟩
      · refine ⟨rfl, _, rfl, (if_neg ?_).mpr ?_⟩
        · rw [Bool.eq_false_iff.mpr e1]
          simp
        · exact ⟨g1.trans g3, _, _, _, _, _, _, rfl⟩
    · obtain ⟨g1, y2, y3, y4, y5, y6, y7, rfl⟩ := h
      refine ⟨10, 60, rfl, rfl, ⟨by decide, by decide +kernel⟩, 10, 39, rfl, rfl, ⟨by decide, by decide +kernel⟩, _, _, rfl, rfl, (by unfold CMulW; decide +kernel), ?_⟩
      refine ⟨(show 0 ≤ sizeLine by decide), fun e ne => ⟨(show 1 ≤ sizeLine by decide), fun t nt => ⟨(show 2 ≤ sizeLine by decide), fun l nl => fun m nm => ⟨upd_same, [(.inr "0", .int 1)], rfl, (by decide), ?_⟩⟩⟩⟩
      refine ⟨"0", 201, rfl, rfl, ⟨by decide, (by decide), (by decide +kernel)⟩, "01", 1500, rfl, rfl, ⟨by decide, (by decide), (by decide +kernel)⟩, 0, 1, rfl, rfl, (show 12 ≤ sizeLine by decide), fun p np => ?_⟩
      refine ⟨.ref p, rfl, p, rfl, ⟨_, .inl (.inl upd_same)⟩, fun D nD => ?_⟩
      have s1 := same_new (o := .tup []) ne
      have s2 := same_new (o := .tup [.str "0"]) nt
      have s3 := same_new (o := .lst [.str "0", .str "1"]) nl
      have s4 : Same (upd (upd (upd H1 e (.tup [])) t (.tup [.str "0"])) l (.lst [.str "0", .str "1"])) (upd (upd (upd (upd (upd H1 e (.tup [])) t (.tup [.str "0"])) l (.lst [.str "0", .str "1"])) m (.dK [])) m (.dK (mergeK [] [(.inr "0", .int 1)]))) := fun b o eb => by
        rw [upd_ne (ne_of_none eb nm), upd_ne (ne_of_none eb nm)]
        exact eb
      have s5 := same_new (o := .lst [.non, .bl true, .int 0, .int 10, .int (10 ^ (60 : Int).toNat * 10 ^ (39 : Int).toNat), .ref e, .ref t, .ref l, .ref m, .str (Txt.mul "0" 201), .str (Txt.mul "01" 1500), .int (0 - 1)]) np
      have s6 := same_new (o := .lst []) nD
      have all : ∀ x ∈ [V.non, .bl true, .int 0, .int 10, .int (10 ^ (60 : Int).toNat * 10 ^ (39 : Int).toNat), .ref e, .ref t, .ref l, .ref m, .str (Txt.mul "0" 201), .str (Txt.mul "01" 1500), .int (0 - 1)],
          AnyV (upd (upd (upd (upd (upd (upd (upd H1 e (.tup [])) t (.tup [.str "0"])) l (.lst [.str "0", .str "1"])) m (.dK [])) m (.dK (mergeK [] [(.inr "0", .int 1)]))) p (.lst [.non, .bl true, .int 0, .int 10, .int (10 ^ (60 : Int).toNat * 10 ^ (39 : Int).toNat), .ref e, .ref t, .ref l, .ref m, .str (Txt.mul "0" 201), .str (Txt.mul "01" 1500), .int (0 - 1)])) D (.lst [])) x ∧ Fit x ∧ isTxt n x = false := fun x hx => by
        have no : ∀ {x : V}, (∀ z, x ≠ .str z) → Fit x := fun h z e => absurd e (h z)
        simp only [List.mem_cons, List.not_mem_nil, or_false] at hx
        rcases hx with rfl | rfl | rfl | rfl | rfl | rfl | rfl | rfl | rfl | rfl | rfl | rfl
        · exact ⟨.non, no (fun z e => nomatch e), rfl⟩
        · exact ⟨.bl _, no (fun z e => nomatch e), rfl⟩
        · exact ⟨.int _, no (fun z e => nomatch e), rfl⟩
        · exact ⟨.int _, no (fun z e => nomatch e), rfl⟩
        · exact ⟨.int _, no (fun z e => nomatch e), rfl⟩
        · exact ⟨.tup (s6 _ _ (s5 _ _ (s4 _ _ (s3 _ _ (s2 _ _ upd_same))))), no (fun z e => nomatch e), rfl⟩
        · exact ⟨.tup (s6 _ _ (s5 _ _ (s4 _ _ (s3 _ _ upd_same)))), no (fun z e => nomatch e), rfl⟩
        · exact ⟨.lst (s6 _ _ (s5 _ _ (s4 _ _ upd_same))), no (fun z e => nomatch e), rfl⟩
        · exact ⟨.dct (s6 _ _ (s5 _ _ upd_same)), no (fun z e => nomatch e), rfl⟩
        · have h1 : (Txt.mul "0" 201).length = 201 := by decide +kernel
          refine ⟨.str _, (fun z e => by cases e; rw [h1]; decide), ?_⟩
          show Ks.txt n (Txt.mul "0" 201) = false
          unfold Ks.txt
          rw [h1]
          rfl
        · have h1 : (Txt.mul "01" 1500).length = 3000 := by decide +kernel
          refine ⟨.str _, (fun z e => by cases e; rw [h1]; decide), ?_⟩
          show Ks.txt n (Txt.mul "01" 1500) = false
          unfold Ks.txt
          rw [h1]
          rfl
        · exact ⟨.int _, no (fun z e => nomatch e), rfl⟩
      refine lc_it (walk_list (xs := [.non, .bl true, .int 0, .int 10, .int (10 ^ (60 : Int).toNat * 10 ^ (39 : Int).toNat), .ref e, .ref t, .ref l, .ref m, .str (Txt.mul "0" 201), .str (Txt.mul "01" 1500), .int (0 - 1)])) (fun i H' => H' = upd (upd (upd (upd (upd (upd (upd H1 e (.tup [])) t (.tup [.str "0"])) l (.lst [.str "0", .str "1"])) m (.dK [])) m (.dK (mergeK [] [(.inr "0", .int 1)]))) p (.lst [.non, .bl true, .int 0, .int 10, .int (10 ^ (60 : Int).toNat * 10 ^ (39 : Int).toNat), .ref e, .ref t, .ref l, .ref m, .str (Txt.mul "0" 201), .str (Txt.mul "01" 1500), .int (0 - 1)])) D (.lst []))
        rfl (fun _ _ _ h => by rw [h]; exact .inl (.inl (s6 _ _ upd_same))) (fun i x H5 H6 hi h hy => ?_) (fun H5 h => ?_)
      · subst h
        obtain ⟨rfl, hx⟩ := hy
        obtain ⟨a1, a2, a3⟩ := all x (List.mem_of_getElem? hx)
        refine ⟨rfl, x, rfl, .int n, rfl, x, .int n, rfl, a1, a2, .int _, (fun e => nomatch (lok.symm.trans e : true = false)), fun m em _ => ?_⟩
        cases em
        rw [a3]
        exact ⟨false, false, rfl, rfl, _, rfl, (if_neg (by decide)).mpr rfl⟩
      · subst h
        refine ⟨(show 0 ≤ sizeLine by decide), fun e0 ne0 => ?_⟩
        have s7 := same_new (o := .lst []) ne0
        refine ⟨.list [], .list [], .lst (.inl (.inl (s7 _ _ upd_same))) .nil, .lst (.inl (.inl upd_same)) .nil, rfl, rfl, ?_⟩
        have Gm := ((g1.new (o := .tup []) ne).new (o := .tup [.str "0"]) nt).new (o := .lst [.str "0", .str "1"]) nl
        exact q _ (((((Gm.trans (Go.same Gm.1 s4)).new np).new nD).new ne0))
end
end K01

/-! tuple(g) of a generator def's call. -/
namespace Ks
open PySem PySem.Spec L2 GenW
open PyProof.Rows hiding St
open Sem (wp)
theorem collect_gen {P : Program} {w : World} {outer : List Env} {H : Hp} {sc s : Shared} {ex : List Addr} {Q : List V → Hp → Prop} {EX : XK} {A : Around} {k : Nat} {u : Value} {Q' : List Value → Shared → Prop} {E : Value → Shared → Prop}
    (hr : Room (k + 2) A) (hfr : A.frames = some outer) (h : GMade P w k outer H sc ex Q EX u s)
    (hQ : ∀ S s' acc c H' ys, s.heap.objs.size ≤ S → s'.heap.get? S = some (lstObj acc c) → Vals ys acc.toList → ys.length ≤ sizeLine → s'.os = sc.os → AllBare s'.gens → Un (frs outer) ex H H' sc.heap s'.heap → HOk P w H' s'.heap → H' S = none → Q ys H' → Q' acc.toList s')
    (hexc : ∀ e s' g, CX P w outer H sc EX e s' → NotStop (model P w) e s'.heap ∧ E e (s'.setGen g .finished)) :
    wpAny (model P w) A (collect u) Q' E s := by
  obtain ⟨a, g, c, rfl, ha1, ha2, hg, hgs, hos, hb, hl, hkp, wake⟩ := h
  have hSa : s.heap.objs.size ≠ a := Nat.ne_of_gt ha2
  have hcl : cStatics < s.heap.objs.size := let ⟨_, hn, _⟩ := hl; hn.lt
  have hSc : s.heap.objs.size ≠ cStatics := Nat.ne_of_gt hcl
  unfold collect
  refine wpAny_bind (wpAny_runValue (codeAny_builtin F.entry_proto_collect ?_))
  rw [Around.under_plainId F.plain_proto_collect _]
  show wpAny _ A.in1 (newList [] >>= fun l' => again (.builtin "list.__iadd__" ⟨[l', .ref a], []⟩)) _ _ s
  refine wpAny_bind (wpAny_newObj_type ?_)
  refine wpAny_pure ⟨plainId_quiet F.plain_list_iadd _, codeAny_builtin F.entry_list_iadd ?_⟩
  rw [Around.under_plainId F.plain_list_iadd _]
  have hS : (s.heap.push { cls := .type "list", data := .seq ([] : List Value).toArray }).get? s.heap.objs.size = some { cls := .type "list", data := .seq #[] } := Heap.get?_push_size _ rfl
  have k1 : ∀ b o, s.heap.get? b = some o → (s.heap.push { cls := .type "list", data := .seq ([] : List Value).toArray }).get? b = some o := fun b o e => Heap.get?_push_of_some _ e
  have gty : ∀ {h : Heap}, (∀ b o, s.heap.get? b = some o → h.get? b = some o) → h.IsGen a g := fun {h} q => hg.keeps q
  have up : ∀ (h : Heap) (f : Obj → Obj), (∀ b o, s.heap.get? b = some o → h.get? b = some o) → ∀ b o, s.heap.get? b = some o → (h.update s.heap.objs.size f).get? b = some o := fun h f q b o e =>
    (Heap.get?_update_other _ _ (Ne.symm (Nat.ne_of_lt (Heap.lt_size e)))).trans (q b o e)
  show wpAny _ A.in1 (Builtin.List.listExtendWith (.ref s.heap.objs.size) (.ref a) (.ref s.heap.objs.size)) _ _ _
  unfold Builtin.List.listExtendWith
  refine wpAny_bind (wpAny_typeOf (Heap.IsGen.typeIs (s := { s with heap := _ }) (gty k1)) ?_)
  have h1 : Builtin.List.listSameRef (.ref s.heap.objs.size) (.ref a) = false := by simp [Builtin.List.listSameRef, hSa]
  have h2 : (Value.type "generator" == Value.type "list") = false := by decide
  have h3 : (Value.type "generator" == Value.type "tuple") = false := by decide
  simp only [h1, h2, h3, Bool.or_false, Bool.false_eq_true, if_false]
  refine wpAny_bind (wpAny_pyIter_gen (s := { s with heap := _ }) (gty k1) ?_)
  refine wpAny_bind (wpAny_holding ?_)
  unfold Builtin.List.listLengthHint
  refine wpAny_bind (wpAny_specialOf (Heap.IsGen.typeIs (s := { s with heap := _ }) (gty k1)) F.gen_no_len ?_)
  show wpAny _ A.in1 (specialOf (Value.ref a) (Str.ofString "__length_hint__") >>= _) _ _ _
  refine wpAny_bind (wpAny_specialOf (Heap.IsGen.typeIs (s := { s with heap := _ }) (gty k1)) F.gen_no_hint ?_)
  refine wpAny_pure ?_
  show wpAny _ A.in1 (rule "list.extend.makes-room" >>= fun _ => Builtin.List.listTouch (.ref s.heap.objs.size) >>= fun _ =>
    again (.builtin "list.extend.loop" ⟨[.ref s.heap.objs.size, .ref a, .ref s.heap.objs.size], []⟩)) _ _ _
  refine wpAny_bind (wpAny_rule ?_)
  refine wpAny_bind ?_
  show wpAny _ A.in1 (updateSeq s.heap.objs.size (·.push .none) >>= fun _ => updateSeq s.heap.objs.size (·.pop)) _ _ _
  refine wpAny_bind (wpAny_updateSeq hS rfl ?_)
  have hS3 := Heap.get?_update_self (Obj.mapSeq (·.push Value.none)) hS rfl
  refine wpAny_updateSeq (hz := by seq_fits) hS3 rfl ?_
  have hS4 := Heap.get?_update_self (Obj.mapSeq (·.pop)) hS3 rfl
  have k4 := up _ (Obj.mapSeq (·.pop)) (up _ (Obj.mapSeq (·.push Value.none)) k1)
  refine wpAny_pure ⟨plainId_quiet F.plain_extend_loop _, ?_⟩
  refine drain (P := P) (w := w) (outer := outer) (H := H) (sc := sc) (ex := ex) (Q := Q) (EX := EX) (A := A) (g := g) hr.hd hr.depth hSa hSc
    (fun s' acc c H' ys q1 q2 q3 q4 q5 q6 q7 q8 q9 => ?_) (fun e s' hc => hexc e s' g hc)
    sizeLine _ (gty k4) (hl.keeps k4) ⟨_, hgs, rfl, ?_⟩
  · show wpAny _ A (load s.heap.objs.size >>= _) _ _ s'
    refine wpAny_bind (wpAny_load q1 ?_)
    exact wpAny_pure (hQ _ s' acc c H' ys (Nat.le_refl _) q1 q2 q3 q4 q5 q6 q7 q8 q9)
  · refine wake _ _ _ ⟨hr.hd, ?_, ?_⟩ hfr (Nat.le_refl _) k4 ⟨_, hS4⟩ hos (allBare_setGen (s := { s with heap := _ }) hb rfl)
    · have := hr.dp
      show A.depth + 3 * k + 5 < _
      omega
    · have := hr.un
      show A.units + 1 + 1 + 16 * k + 200 < _
      omega
open RT in
theorem code_tuple_gen {P : Program} {w : World} {outer : List Env} {H : Hp} {sc s : Shared} {ex : List Addr} {Q : List V → Hp → Prop} {EX : XK} {A : Around} {k : Nat} {a : Addr} {Q₁ : Value → Shared → Prop} {E : Value → Shared → Prop}
    (hr : Room (k + 3) A) (hfr : A.frames = some outer) (h : GMade P w k outer H sc ex Q EX (.ref a) s)
    (hQ : ∀ (S : Addr) (s' : Shared) (acc : Array Value) (c : Nat) (H' : Hp) (ys : List V), s.heap.objs.size ≤ S → s'.heap.get? S = some (lstObj acc c) → Vals ys acc.toList → ys.length ≤ sizeLine → s'.os = sc.os → AllBare s'.gens → Un (frs outer) ex H H' sc.heap s'.heap → HOk P w H' s'.heap → H' S = none → Q ys H' → Q₁ (.ref s'.heap.objs.size) { s' with heap := s'.heap.push { cls := .type "tuple", data := .seq acc } })
    (hexc : ∀ (e : Value) (s' : Shared) (g : Nat), CX P w outer H sc EX e s' → NotStop (model P w) e s'.heap ∧ E e (s'.setGen g .finished)) :
    codeAny (model P w) A (.call (.builtin "tuple.__new__") ⟨[.type "tuple", .ref a], []⟩) (wants Q₁ E) s := by
  refine codeAny_of_tree ?_
  show wpAny _ A.in1 (do checkBuiltinCall "tuple.__new__" ⟨[.type "tuple", .ref a], []⟩; again (.builtin "tuple.__new__" ⟨[.type "tuple", .ref a], []⟩)) _ _ s
  refine wpAny_bind (wpAny_of_eq (F.newCall_tuple_1 _) (wpAny_pure ⟨plainId_quiet F.plain_tuple_new _, codeAny_builtin F.entry_tuple_new ?_⟩))
  rw [Around.under_plainId F.plain_tuple_new _]
  have hsub := sub_tuple_self
  have hinit := init_tuple_lookup
  have hmh := madeHere_tuple
  have hTI : s.TypeIs (.ref a) "generator" := by
    obtain ⟨a', g, c, e, _, _, hg, _⟩ := h
    cases e
    exact Heap.IsGen.typeIs hg
  have hr2 : Room (k + 2) A.in1 := ⟨hr.hd, by have := hr.dp; show A.depth + 3 * (k + 2) + 5 < _; omega, by have := hr.un; show A.units + 1 + 16 * (k + 2) + 200 < _; omega⟩
  wp_walk using wpAny_typeOf hTI, collect_gen (A := A.in1) (k := k) (outer := outer) (H := H) (sc := sc) (ex := ex) (Q := Q) (EX := EX) hr2 hfr h
  case hQ =>
    intro S s' acc c H' ys q0 q1 q2 hl q3 q4 q5 q6 q7 q8
    show wpAny _ _ (Builtin.Tuple.tupleExact acc.toList.toArray >>= fun v => ret v) _ _ _
    unfold Builtin.Tuple.tupleExact
    have hz : acc.size ≤ sizeLine := by
      have e := q2.length
      have e2 : acc.toList.length = acc.size := Array.length_toList
      omega
    refine wpAny_bind (wpAny_newObj_type ?_ (by show acc.toList.toArray.size ≤ sizeLine; simp only [Array.toArray_toList]; exact hz))
    refine wpAny_pure ?_
    have e : acc.toList.toArray = acc := by simp
    rw [e]
    exact hQ S s' acc c H' ys q0 q1 q2 hl q3 q4 q5 q6 q7 q8
  case hexc => exact hexc
theorem call_tuple_gen {P : Program} {w : World} {outer : List Env} {H : Hp} {sc s : Shared} {ex : List Addr} {Q : List V → Hp → Prop} {EX : XK} {A : Around} {k : Nat} {u : Value} {Q' : Value → Shared → Prop} {E : Value → Shared → Prop}
    (hr : Room (k + 4) A) (hfr : A.frames = some outer) (h : GMade P w k outer H sc ex Q EX u s)
    (hQ : ∀ (S : Addr) (s' : Shared) (acc : Array Value) (c : Nat) (H' : Hp) (ys : List V), s.heap.objs.size ≤ S → s'.heap.get? S = some (lstObj acc c) → Vals ys acc.toList → ys.length ≤ sizeLine → s'.os = sc.os → AllBare s'.gens → Un (frs outer) ex H H' sc.heap s'.heap → HOk P w H' s'.heap → H' S = none → Q ys H' → Q' (.ref s'.heap.objs.size) { s' with heap := s'.heap.push { cls := .type "tuple", data := .seq acc } })
    (hexc : ∀ (e : Value) (s' : Shared) (g : Nat), CX P w outer H sc EX e s' → NotStop (model P w) e s'.heap ∧ E e (s'.setGen g .finished)) :
    wpAny (model P w) A (call (.type "tuple") [u]) Q' E s := by
  obtain ⟨a, rfl⟩ : ∃ a, u = .ref a := by obtain ⟨a, g, c, e, _⟩ := h; exact ⟨a, e⟩
  have hr2 : Room (k + 3) A.in1 := ⟨hr.hd, by have := hr.dp; show A.depth + 3 * (k + 3) + 5 < _; omega, by have := hr.un; show A.units + 1 + 16 * (k + 3) + 200 < _; omega⟩
  refine callType_codes (Q₁ := fun obj s₁ => s₁.TypeIs obj "tuple" ∧ Q' obj s₁) F.called_tuple (F.typeCall_tuple_1 _) F.entry_object_init
    (code_tuple_gen (A := A.in1) hr2 hfr h (fun S s' acc c H' ys q0 q1 q2 hl q3 q4 q5 q6 q7 q8 => ⟨⟨_, Heap.get?_push_size _ rfl, rfl⟩, hQ S s' acc c H' ys q0 q1 q2 hl q3 q4 q5 q6 q7 q8⟩) hexc) fun obj s₁ h₁ => ?_
  exact ⟨h₁.1, F.args_object_init_2 obj _, object_init_meets F.called_tuple.init.lookup F.called_tuple.made (by decide) P w A.in1 _ s₁ ⟨h₁.1, rfl, h₁.2⟩⟩
def tTupG (tg : TGen) : TE := fun σ H Q => tg σ H fun out H2 => ∀ p q, H2 p = none → upd H2 p (.lst out) q = none → Q (.ref q) (upd (upd H2 p (.lst out)) q (.tup out))
/-- tuple(g) -/
theorem pe_tupG {X : Cx} {k : Nat} {p pos : Pos} {e : Expr} {tg : TGen} {E : XK} {nm : Str} (h : PGen X k e tg E) (hx : Passes (CX X.prog X.w) X E) (hns : NoStop X.K E) (hr : Room (k + 4) X.A) (hg : Gl X nm) (hmg : X.mg nm = none) (hv : bootBuiltins nm = some (.type "tuple")) (hnm : nm ≠ "__name__" := by decide) (hdb : (nm == ("__debug__" : Str)) = false := by decide)
    (he : starEach [e] X.env = (false, eval e X.env) :: starEach [] X.env := by rfl) : PE X (.Call (.Name nm p) [e] [] pos) (tTupG tg) := by
  refine ⟨fun pins s σ H Q I hq => ?_⟩
  refine wpAny_Call_Name_kw (ld_blt I hg hmg hv ?_ hnm hdb)
  refine PyProof.Rows.callWith_type1 ?_ he rfl
  rw [he]
  show wpAny _ _ (spliced ((false, eval e X.env) :: backTo pos (starEach [] X.env))) _ _ s
  refine Calls.spliced_cons (thn (h.run pins s σ H _ I hq) fun u s1 ⟨H1, sc, ex, I1, hex, hG⟩ => ?_)
  refine Calls.spliced_nil ?_
  have hsz : sc.heap.objs.size ≤ s1.heap.objs.size := by
    obtain ⟨a, g, c, _, h1, h2, _⟩ := hG
    exact Nat.le_trans h1 (Nat.le_of_lt h2)
  refine call_tuple_gen hr I1.ok.frames hG (fun S s' acc c H' ys q0 q1 q2 hl q3 q4 q5 q6 q7 q8 => ?_) fun e s' g hc => ?_
  · have I2 := I1.drained (Nat.le_trans hsz q0) hl q1 q2 hex q3 q4 q5 q6 q7
    have hnew := I2.hok.fresh (Nat.le_refl s'.heap.objs.size)
    exact ⟨.ref s'.heap.objs.size, _, I2.laid (t' := s'.toks) (fun b o e => Heap.get?_push_of_some _ e) (Nat.le_refl _) (show ObjOk X.prog X.w _ _ _ (.tup ys) from ⟨hl, acc.toList, q2, IsTup.new _ _⟩), rfl, q8 S _ q7 hnew⟩
  · have kin : X.K.In s'.heap := by
      obtain ⟨a, B, H', cls, d, _, fl, _, ub, _⟩ := id hc
      refine I1.ok.mod.kin.keeps fun b o eb => fl.1 b o (ub.keep b o (I1.bs b o eb).1 (I1.bs b o eb).2 fun hm => ?_)
      rcases List.mem_cons.mp (I1.stkSub b hm) with z | z
      · have h1 := Heap.lt_size eb
        have h2 := Nat.le_trans I1.ok.bsz I1.ok.above
        rw [z] at h1
        exact absurd (Nat.lt_of_lt_of_le h1 h2) (Nat.lt_irrefl _)
      · exact I1.ok.nofr eb z
    refine ⟨notStop_of hns kin hc, hx pins σ H1 sc e _ I1 ?_⟩
    · obtain ⟨a, B, H', cls, d, z1, fl, z2, ub, z3, z4, z5, z6⟩ := hc
      exact ⟨a, B, H', cls, d, z1, fl, z2, ub, z3, z4, allBare_setGen z5 rfl, z6⟩
end Ks

namespace Ks
open PySem PySem.Spec L2
open PyProof.Rows hiding St
theorem forG_it {xs : List V} {D : Ends} {gg : TG} {tb : TS} {σ : L2.St} {H : Hp} (I : Nat → L2.St → Hp → Prop) (h0 : I 0 σ H)
    (step : ∀ i x σ H', xs[i]? = some x → I i σ H' → gg x σ H' fun σ2 H2 => tb { D with nx := I (i + 1), ct := I (i + 1), bk := D.nx } σ2 H2) (fin : ∀ σ H', I xs.length σ H' → D.nx σ H') :
    ∃ W : Nat → Nat → L2.St → Hp → Prop, (∃ m, W 0 m σ H) ∧ ∀ i m σ H, W i m σ H → ((Itg xs).stop i H ∧ D.nx σ H) ∨ ((Itg xs).go i H ∧ ∃ Nx : L2.St → Hp → Prop, (∀ σ' H', Nx σ' H' → ∃ m', m' < m ∧ W (i + 1) m' σ' H') ∧ ∀ x H', (Itg xs).yld i H x H' → gg x σ H' fun σ2 H2 => tb { D with nx := Nx, ct := Nx, bk := D.nx } σ2 H2) := by
  refine ⟨fun i m σ H => I i σ H ∧ i ≤ xs.length ∧ m = xs.length - i, ⟨_, h0, Nat.zero_le _, rfl⟩, fun i m σ H h => ?_⟩
  obtain ⟨h1, h2, rfl⟩ := h
  rcases Nat.lt_or_ge i xs.length with hl | hl
  · refine .inr ⟨hl, I (i + 1), fun σ' H' h => ⟨xs.length - (i + 1), by omega, h, hl, rfl⟩, fun x H' hy => ?_⟩
    obtain ⟨rfl, hx⟩ := hy
    exact step i x σ H' hx h1
  · have e : i = xs.length := Nat.le_antisymm h2 hl
    subst e
    exact .inl ⟨rfl, fin _ _ h1⟩
end Ks
namespace K01
open PySem PySem.Spec L2 Ks
open PyProof.Rows hiding St
def td (L : List (List Nat)) : List PyData := L.map fun ds => PyData.str (tf ds)
theorem dp_tl {K : PySem.W.Frag} {H : Hp} : ∀ L : List (List Nat), DpAll K H (tl L) (td L)
  | [] => .nil
  | ds :: r => .cons (.str _) (dp_tl r)
theorem lay_td : ∀ L : List (List Nat), (∀ ds ∈ L, ∀ d ∈ ds, d < 4) → PyData.canLayAll0 (td L) = true
  | [], _ => by simp [td, PyData.canLayAll0]
  | ds :: r, h => by
    have h1 : PyData.strOk (tf ds) = true := by
      show (tf ds).cps.all _ = true
      rw [Array.all_eq_true]
      intro i hi
      have h1 : i < ds.length := by rw [← tf_len ds]; exact hi
      have h2 : (tf ds).cps[i] = 48 + ds[i] := by
        have e : (tf ds).cps[i]? = some (48 + ds[i]) := by
          show (ds.map (48 + ·)).toArray[i]? = _
          rw [List.getElem?_toArray, List.getElem?_map, List.getElem?_eq_getElem h1]
          rfl
        exact (Array.getElem?_eq_some_iff.mp e).2
      rw [h2, decide_eq_true_eq]
      have := h ds List.mem_cons_self ds[i] (List.getElem_mem _)
      omega
    rw [td, List.map_cons, PyData.canLayAll0, PyData.canLay0, h1]
    exact lay_td r fun es m => h es (List.mem_cons_of_mem _ m)
theorem depth_td : ∀ L : List (List Nat), PyData.depthAll (td L) = 0
  | [] => by simp [td, PyData.depthAll]
  | ds :: r => by
    rw [td, List.map_cons, PyData.depthAll]
    have := depth_td r
    rw [td] at this
    rw [this]
    simp [PyData.depth]
theorem shl (L : List (List Nat)) (h : ∀ ds ∈ L, ∀ d ∈ ds, d < 4) : SeqAt.shaped (.list (td L)) = true := by
  unfold SeqAt.shaped
  rw [PyData.canLay0, lay_td L h, PyData.depth, depth_td]
  rfl
theorem sht (L : List (List Nat)) (h : ∀ ds ∈ L, ∀ d ∈ ds, d < 4) : SeqAt.shaped (.tuple (td L)) = true := by
  unfold SeqAt.shaped
  rw [PyData.canLay0, lay_td L h, PyData.depth, depth_td]
  rfl
theorem eqv_td : ∀ L : List (List Nat), PyData.eqvAll (td L) (td L) = true
  | [] => by simp [td, PyData.eqvAll]
  | ds :: r => by
    rw [td, List.map_cons, PyData.eqvAll]
    have := eqv_td r
    rw [td] at this
    rw [this]
    simp [PyData.eqv]
/-- the digits of the first texts of a width -/
def FL (n k i : Nat) : List (List Nat) := (List.range i).map fun j => (ld n k j).reverse
theorem FL_succ (n k i : Nat) : tl (FL n k (i + 1)) = tl (FL n k i) ++ [V.str (tn n k i)] := by
  unfold FL tl
  rw [List.range_succ, List.map_append, List.map_append]
  rfl
theorem FL_len (n k i : Nat) : (tl (FL n k i)).length = i := by
  unfold FL tl
  rw [List.length_map, List.length_map, List.length_range]
theorem FL_lt {n k i : Nat} (hn : 1 < n) (h4 : n ≤ 4) : ∀ ds ∈ FL n k i, ∀ d ∈ ds, d < 4 := fun ds h d hd => by
  obtain ⟨j, _, rfl⟩ := List.mem_map.mp h
  exact Nat.lt_of_lt_of_le (ld_lt hn k j d (List.mem_reverse.mp hd)) h4
theorem pow_big {n k : Nat} (hn : 2 ≤ n) (h4 : n ≤ 4) (hk : 3 ≤ k) : n + 1 < n ^ k := by
  have h1 : n ^ 3 ≤ n ^ k := Nat.pow_le_pow_right (by omega) hk
  have h2 : n + 1 < n ^ 3 := by
    have : n = 2 ∨ n = 3 ∨ n = 4 := by omega
    rcases this with rfl | rfl | rfl <;> decide
  omega
theorem mulok {wd : Nat} (hw : wd ≤ 200) : MulOk "0" (wd : Int) := by
      refine ⟨?_, fun _ _ => ?_, fun _ _ => ?_⟩
      · rw [Bool.or_eq_false_iff, decide_eq_false_iff_not, decide_eq_false_iff_not]
        omega
      · show ¬ (((1 : Nat) : Int) > (2 ^ 63 - 1) / (wd : Int))
        have h1 : (1 : Int) ≤ (2 ^ 63 - 1) / (wd : Int) := Int.le_ediv_of_mul_le (by omega) (by omega)
        omega
      · show Builtin.Str.tooLong (1 * ((wd : Int)).toNat) = false
        rw [Int.toNat_natCast, Nat.one_mul]
        have : wd ≤ 200 := hw
        unfold Builtin.Str.tooLong
        exact decide_eq_false (by have : sizeLine = 16777216 := sizeLine_eq; omega)
/-- what the law says of the first texts -/
def Dg (k j : Nat) : List (List Nat) := (List.range j).map fun d => List.replicate (k - 1) 0 ++ [d]
theorem FL_dg {n k : Nat} (hn : 1 < n) (hk : 3 ≤ k) : FL n k (n + 1) = Dg k n ++ [List.replicate (k - 2) 0 ++ [1] ++ [0]] := by
  obtain ⟨m, rfl⟩ : ∃ m, k = m + 2 := ⟨k - 2, by omega⟩
  unfold FL Dg
  rw [List.range_succ, List.map_append]
  congr 1
  · refine List.map_congr_left fun j hj => ?_
    have hj' : j < n := List.mem_range.mp hj
    show (j % n :: Ks.ld n (m + 1) (j / n)).reverse = _
    rw [Nat.mod_eq_of_lt hj', Nat.div_eq_of_lt hj', ld_zero, List.reverse_cons, List.reverse_replicate]
    rfl
  · show [(n % n :: (n / n % n :: Ks.ld n m (n / n / n))).reverse] = _
    rw [Nat.mod_self, Nat.div_self (by omega), Nat.mod_eq_of_lt hn, Nat.div_eq_of_lt hn, ld_zero, List.reverse_cons, List.reverse_cons, List.reverse_replicate]
    rfl
theorem mul_rep {m : Nat} : Txt.mul "0" (m : Int) = tf (List.replicate m 0) := by
  rw [mul_tx]
  show tf (List.replicate m 0).reverse = _
  rw [List.reverse_replicate]
theorem tf_app (a b : List Nat) : tf a ++ tf b = tf (a ++ b) := by
  apply str_ext
  rw [Ks.cl_append, cl_tf, cl_tf, cl_tf, List.map_append]
section
variable {P : Program} {w : World} {K : PySem.W.Frag} {mg : Str → Option Value} {base : Heap}
variable {CN CT CO fI fN fC fL fT fX fW : Addr} {fdI dN dC dL dT dX dW : FuncData}
theorem okLareAll {f f1 f2 f3 f4 : Addr} {fd fd1 fd2 fd3 fd4 : FuncData} (D : Dn K mg "_law_are_all" sLareAll ["_law_bag_here", "_law_letters"] f fd) (DLtexts : Dn K mg "_law_texts" sLtexts ["_law_letters", "_law_width"] f4 fd4) (DLoneOf : Dn K mg "_law_one_of" sLoneOf ["_law_bag_here", "_law_items"] f1 fd1) (DLdraw : Dn K mg "_law_draw" sLdraw ["_law_bag_here", "_law_total"] f2 fd2)
    (DTextsOf : Dn K mg "texts_of" sTextsOf ["letters", "width"] f3 fd3) (S : Ds K mg fN fC fL fT fX fW dN dC dL dT dX dW) (T : Bx mg) (hT : mg "tuple" = none) (R : Er K mg CN CT fI fdI) : FnQ P w K mg base CX0 14 f fd ["_law_bag_here", "_law_letters"] spAre := by
  have GLtexts : FnOk P w K mg base CX0 1 _ _ _ _ := okLtexts DLtexts T
  have GLoneOf : FnOk P w K mg base CX0 2 _ _ _ _ := okLoneOf DLoneOf DLdraw T
  have GLdraw : FnOk P w K mg base CX0 1 _ _ _ _ := okLdraw DLdraw T
  have GTextsOf : GFnF P w K mg base 6 _ _ _ _ _ := okTextsOf DTextsOf S T R
  have GTextsG : GFn P w K mg base 7 _ _ _ _ := okTextsG DTextsOf S T R
  refine fnq_of D.F scLareAll (fun vs H Q E h => ?_) (fun cdv A outer s H vs Q E hr hG h => ?_)
  · obtain ⟨b, n, rfl, _⟩ := h
    rfl
  · obtain ⟨b, n, rfl, hn, hb, q⟩ := h
    refine ⟨_, prs_cons (PR.of (ps_set (i := 2) scLareAll.nd rfl (Or.inl rfl) (pe_call GLdraw (hr.mono (by decide)) (by rfl) DLdraw.g DLdraw.F.kp DLdraw.b .nil pass0 (pa_cons (pv 0) (pa_cons (pe_ifExp (pt_cmpR op_eq (pv 1) pe_int (nomark _)) pe_int pe_int) pa_nil)))))
      (prs_cons (PR.of (ps_set (i := 3) scLareAll.nd rfl (Or.inl rfl) (pe_call GLtexts (hr.mono (by decide)) (by rfl) DLtexts.g DLtexts.F.kp DLtexts.b .nil pass0 (pa_cons (pv 1) (pa_cons (pv 2) pa_nil)))))
      (prs_cons (PR.of (ps_if (PW.pt (pw_or (pt_cmpR (op_neD hr.units) (pe_listG (E := fun _ _ _ => False) (pgen_call GTextsG (hr.mono (by decide)) (by rfl) DTextsOf.g DTextsOf.F.kp DTextsOf.b .nil (pa_cons (pv 1) (pa_cons (pv 2) pa_nil))) passL (fun _ _ _ z => z.elim) (hr.mono (by decide)) (by rfl) T.m_list (by decide +kernel)) (pv 3) (nomark _))
          (pw_or1 (pt_cmpR (op_neD hr.units) (Ks.pe_tupG (E := fun _ _ _ => False) (pgen_call GTextsG (hr.mono (by decide)) (by rfl) DTextsOf.g DTextsOf.F.kp DTextsOf.b .nil (pa_cons (pv 1) (pa_cons (pv 2) pa_nil))) passL (fun _ _ _ z => z.elim) (hr.mono (by decide)) (by rfl) hT (by decide +kernel)) (pe_callTy call_tuple_of (by rfl) hT (by decide +kernel) (pa_cons (pv 3) pa_nil)) (nomark _))))) (pss_one (ps_ret pe_bl)) pss_nil))
      (prs_cons (PR.of (ps_set (i := 4) scLareAll.nd rfl (Or.inl rfl) (pe_lst pa_nil)))
      (prs_cons (pr_forG GTextsOf (hr.mono (by decide)) rfl (fun _ _ z => z) (by rfl) DTextsOf.g DTextsOf.F.kp DTextsOf.b .nil
          (pa_cons (pv 1) (pa_cons (pe_call GLoneOf (hr.mono (by decide)) (by rfl) DLoneOf.g DLoneOf.F.kp DLoneOf.b .nil pass0 (pa_cons (pv 0) (pa_cons (pe_lst (pa_cons pe_int (pa_cons pe_int (pa_cons pe_int pa_nil)))) pa_nil))) pa_nil)) (pg_name (i := 5) scLareAll.nd rfl (Or.inl rfl))
          (PRs.of (pss_cons (ps_expr (pe_bm PySem.F.plainAttrs_list PySem.F.slot_list_append PySem.F.type_list_append mt_append (pv 4) (pa_cons (pv 5) pa_nil)))
            (pss_one (ps_if (pt_cmpR op_eq (pe_callB call_len_seq (by rfl) T.m_len (by decide +kernel) (pa_cons (pv 4) pa_nil)) (pe_op op_add (pv 1) pe_int) (nomark _)) (pss_one ps_break) pss_nil)))))
      (prs_cons (PR.of (ps_set (i := 6) scLareAll.nd rfl (Or.inr rfl) (pe_callB call_len (by rfl) T.m_len (by decide +kernel) (pa_cons (pe_ix ix_list (pv 4) pe_int (fun _ _ => rfl)) pa_nil))))
      (PRs.of (pss_one (ps_ret (pe_cmpR (op_eqD hr.units) (pv 4) (pe_op op_cat (pe_lc (own := [("_law_digit", 7)]) (g := gName 7) rfl scLareAll.nd (pi_range1 (by rfl) T.m_range (pa_cons (pv 1) pa_nil)) (blkOk_by (own := [("_law_digit", 7)]) (N := ["_law_bag_here", "_law_letters", "_law_width", "_law_due", "_law_first", "_law_one", "_law_wide", "_law_digit"]) (sc := defScope sLareAll) (by decide +kernel)) (fun _ _ _ _ _ => (pg_name (i := 7) scLareAll.nd rfl (Or.inl rfl))) (fun _ _ _ _ _ => pts_nil) (fun _ _ _ _ _ => (pe_op op_add_str (pe_op Ks.op_mul_str pe_str (pe_op op_sub (pv 6) pe_int)) (pe_callTy call_str_int (by rfl) T.m_str (by decide +kernel) (pa_cons (pv 7) pa_nil)))))
          (pe_lst (pa_cons (pe_op op_add_str (pe_op Ks.op_mul_str pe_str (pe_op op_sub (pv 6) pe_int)) pe_str) pa_nil))) (nomark _)))))))))), ?_⟩
    refine ⟨.ref b, rfl, .int n, rfl, rfl, _, rfl, ?_⟩
    have n2 : n ≥ 2 := by omega
    have n4 : n ≤ 4 := by omega
    have pw2 : ∀ r : Nat, r < 6 → (2 : Nat) ^ r ≤ 64 := by decide
    have pw4 : ∀ r : Nat, r < 4 → (4 : Nat) ^ r ≤ 64 := by decide
    refine ite2 (fun e => ?_) (fun e => ?_)
    all_goals
      refine ⟨b, _, rfl, by decide, by decide, hb, fun wd hr H1 g1 => ?_⟩
      have hwd : wd ≤ 5 := by omega
      have hpw : n ^ wd ≤ 64 := by
        rcases hn with rfl | rfl
        · exact pw2 wd (by omega)
        · first
            | exact absurd (V.int.inj (of_decide_eq_true e)) (by decide)
            | exact pw4 wd (by omega)
      clear e hr
      refine ⟨.int n, rfl, .int wd, rfl, n, wd, rfl, hn, hwd, hpw, fun p H2 np s2 ep => ?_⟩
      have eAll : allTexts n wd = tl (LT n wd) := (LT_all n (by omega) wd).symm
      have d4 : ∀ ds ∈ LT n wd, ∀ d ∈ ds, d < 4 := fun ds h d hd => Nat.lt_of_lt_of_le ((LT_len h).2 d hd) n4
      refine ⟨.int n, rfl, .int wd, rfl, n, wd, rfl, hn, hwd, hpw, fun H3 s3 p3 np3 => ?_⟩
      rw [eAll]
      have ep3 := same_new (o := .lst (tl (LT n wd))) np3 _ _ (s3 _ _ ep)
      refine ⟨.ref p, rfl, .list (td (LT n wd)), .list (td (LT n wd)), .lst (.inl (.inl upd_same)) (dp_tl _), .lst (.inl (.inl ep3)) (dp_tl _), shl _ d4, shl _ d4, _, rfl, (if_neg ?_).mpr ?_⟩
      · rw [PyData.eqv, eqv_td]
        decide
      refine ⟨.int n, rfl, .int wd, rfl, n, wd, rfl, hn, hwd, hpw, fun H4 s4 p4 q4 np4 nq4 => ?_⟩
      rw [eAll] at nq4 ⊢
      have s5 := (same_new (o := .lst (tl (LT n wd))) np4).trans (same_new (o := .tup (tl (LT n wd))) nq4)
      have ep5 := s5 _ _ (s4 _ _ ep3)
      refine ⟨.ref p, rfl, p, tl (LT n wd), rfl, .inl ⟨.inl (.inl ep5), fun l nl => ?_⟩⟩
      refine ⟨.tuple (td (LT n wd)), .tuple (td (LT n wd)), .tup (.inl (.inl (same_new nl _ _ upd_same))) (dp_tl _), .tup (.inl (.inl upd_same)) (dp_tl _), sht _ d4, sht _ d4, _, rfl, (if_neg ?_).mpr ?_⟩
      · rw [PyData.eqv, eqv_td]
        decide
      have s6 := ((((s2.trans s3).trans (same_new (o := .lst (tl (LT n wd))) np3)).trans s4).trans s5).trans (same_new (o := .tup (tl (LT n wd))) nl)
      refine ⟨(show 0 ≤ sizeLine by decide), fun c nc => ?_⟩
      have G6 : Go b H _ := g1.trans (Go.same g1.1 (s6.trans (same_new (o := .lst []) nc)))
      have cb : c ≠ b := (g1.trans (Go.same g1.1 s6)).1.ne nc
      have c0 : H c = none := (g1.trans (Go.same g1.1 s6)).free hb nc
      refine ⟨.int n, rfl, .ref b, rfl, (show 3 ≤ sizeLine by decide), fun p5 np5 => ⟨b, p5, _, rfl, (G6.new np5).1, upd_same, G6.1.ne np5, (fun z => nomatch z), (show 3 ≤ 1000 by decide), fun x hx H7 g7 => ?_⟩⟩
      obtain ⟨k, rfl, hk⟩ : ∃ k : Nat, x = .int k ∧ (k = 198 ∨ k = 199 ∨ k = 200) := by
        simp only [List.mem_cons, List.mem_nil_iff, or_false] at hx
        rcases hx with rfl | rfl | rfl
        · exact ⟨198, rfl, .inl rfl⟩
        · exact ⟨199, rfl, .inr (.inl rfl)⟩
        · exact ⟨200, rfl, .inr (.inr rfl)⟩
      have hpk := pow_big n2 n4 (show 3 ≤ k by omega)
      have hxs : (allTexts n k).length = n ^ k := by rw [allTexts, List.length_map, List.length_range]
      have G7 := (G6.new np5).trans g7
      have ec7 := g7.at cb (same_new np5 _ _ upd_same)
      refine ⟨allTexts n k, ⟨n, k, rfl, hn, by omega, rfl⟩, ?_⟩
      refine forG_it (fun i σ H' => i ≤ n ∧ Go b H H' ∧ H' c = some (.lst (tl (FL n k i))) ∧ ∃ y5 y6 y7, σ = [some (.ref b), some (.int n), some (.int wd), some (.ref p), some (.ref c), y5, y6, y7]) ⟨Nat.zero_le _, G7, ec7, none, none, none, rfl⟩ (fun i x σ H8 hx h => ?_) (fun σ H8 h => ?_)
      · obtain ⟨hi, g8, ec, y5, y6, y7, rfl⟩ := h
        have ex : x = .str (tn n k i) := by
          have : (allTexts n k)[i]? = some (.str (tn n k i)) := by
            rw [allTexts, List.getElem?_map, List.getElem?_range (by omega)]
            rfl
          rw [this] at hx
          exact (Option.some.inj hx).symm
        subst ex
        refine ⟨.ref c, rfl, .inl ⟨rfl, _, .inl (.inl ec)⟩, .str (tn n k i), rfl, c, _, _, rfl, rfl, ec, ?_, ?_⟩
        · rw [FL_len]
          exact Nat.lt_of_le_of_lt (show i ≤ 4 by omega) (by decide)
        rw [← FL_succ]
        refine ⟨.ref c, rfl, c, _, rfl, .inl (.inl (.inl upd_same)), .int n, rfl, (n : Int), 1, rfl, rfl, rfl, _, rfl, ?_⟩
        rw [FL_len]
        have g9 : Go b H (upd H8 c (.lst (tl (FL n k (i + 1))))) := g8.set c0 hb
        refine ite2 (fun e => ?_) (fun e => ?_)
        · have ei : n = i := by
            have := V.int.inj (of_decide_eq_true e)
            omega
          subst ei
          have lk : (tn n k 0).length = k := by rw [tn, tx_len, ld_len]
          have h0 : atI (tl (FL n k (n + 1))) 0 = some (.str (tn n k 0)) := by
            refine atI_nat (j := 0) ?_
            unfold FL tl
            rw [List.map_map, List.getElem?_map, List.getElem?_range (by omega)]
            rfl
          refine ⟨.ref c, rfl, c, _, 0, .str (tn n k 0), rfl, rfl, .inl (.inl upd_same), h0, .str (tn n k 0), (tn n k 0).length, rfl, ⟨by rw [lk]; exact line200 (by omega), rfl⟩, ?_⟩
          rw [lk]
          refine ⟨.ref c, rfl, .int n, rfl, (n : Int), rfl, by omega, by omega, fun D nD => ?_⟩
          have k1 : ((k : Int) - 1) = ((k - 1 : Nat) : Int) := by omega
          have k2 : ((k : Int) - 2) = ((k - 2 : Nat) : Int) := by omega
          have l1 : ∀ d : Nat, (tf (List.replicate (k - 1) 0 ++ [d])).length = k := fun d => by
            rw [tf_len, List.length_append, List.length_replicate]
            show k - 1 + 1 = k
            omega
          refine lc_it (walk_range (lo := 0)) (fun j H' => Same (upd H8 c (.lst (tl (FL n k (n + 1))))) H' ∧ H' D = some (.lst (tl (Dg k j)))) ⟨same_new nD, upd_same⟩ (fun _ _ _ _ => trivial) (fun j y H10 H11 hj h hy => ?_) (fun H10 h => ?_)
          · obtain ⟨s10, eD⟩ := h
            obtain ⟨rfl, rfl⟩ := hy
            have j4 : j < 4 := by omega
            refine ⟨rfl, .int k, rfl, (k : Int), 1, rfl, rfl, "0", (k : Int) - 1, rfl, rfl, (by rw [k1]; exact mulok (by omega)), .int (0 + (j : Int)), rfl, 0 + (j : Int), rfl, ?_, _, _, rfl, rfl, ?_, _, eD, ?_, fun a o ea => ?_, ?_⟩
            · rw [Int.zero_add]
              match j, j4 with
              | 0, _ => decide
              | 1, _ => decide
              | 2, _ => decide
              | 3, _ => decide
            · rw [k1, mul_rep, tf_len, List.length_replicate, Int.zero_add, digit_str j j4]
              exact Nat.le_trans (show k - 1 + 1 ≤ 200 by omega) (by decide)
            · unfold tl Dg
              rw [List.length_map, List.length_map, List.length_range]
              exact Nat.lt_of_lt_of_le (show j < 5 by omega) (by decide)
            · rw [upd_ne (ne_of_none ea nD)]
              exact s10 a o ea
            · rw [upd_same, k1, mul_rep, Int.zero_add, digit_str j j4, tf_snoc]
              unfold tl Dg
              rw [List.range_succ, List.map_append, List.map_append]
              rfl
          · obtain ⟨s10, eD⟩ := h
            rw [Int.toNat_natCast] at eD
            have e10 : ("10" : Str) = tf [1, 0] := by decide +kernel
            refine ⟨.int k, rfl, (k : Int), 2, rfl, rfl, "0", (k : Int) - 2, rfl, rfl, (by rw [k2]; exact mulok (by omega)), _, _, rfl, rfl, ?_, (show 1 ≤ sizeLine by decide), fun p9 np9 => ?_⟩
            · rw [k2, mul_rep, tf_len, List.length_replicate]
              exact Nat.le_trans (show k - 2 + 2 ≤ 200 by omega) (by decide)
            have eD9 := same_new (o := .lst [.str (Txt.mul "0" ((k : Int) - 2) ++ "10")]) np9 _ _ eD
            refine ⟨D, p9, _, _, rfl, rfl, eD9, upd_same, ?_, fun p10 np10 => ?_⟩
            · unfold tl Dg
              rw [List.length_map, List.length_map, List.length_range]
              exact Nat.le_trans (show n + 1 ≤ 5 by omega) (by decide)
            have eL : tl (Dg k n) ++ [V.str (Txt.mul "0" ((k : Int) - 2) ++ "10")] = tl (FL n k (n + 1)) := by
              rw [FL_dg (by omega) (by omega), k2, mul_rep, e10, tf_app]
              unfold tl
              rw [List.map_append]
              simp
            have s12 := s10.trans ((same_new (o := .lst [.str (Txt.mul "0" ((k : Int) - 2) ++ "10")]) np9).trans (same_new (o := .lst (tl (Dg k n) ++ [.str (Txt.mul "0" ((k : Int) - 2) ++ "10")])) np10))
            have ec12 := s12 _ _ upd_same
            have fl4 := FL_lt (n := n) (k := k) (i := n + 1) (by omega) n4
            refine ⟨.list (td (FL n k (n + 1))), .list (td (FL n k (n + 1))), .lst (.inl (.inl ec12)) (dp_tl _), .lst (.inl (.inl (by rw [upd_same, eL]))) (dp_tl _), shl _ fl4, shl _ fl4, ?_⟩
            rw [PyData.eqv, eqv_td]
            exact q _ (g9.trans (Go.same g9.1 s12))
        · have ei : i ≠ n := fun z => e (decide_eq_true (by rw [z]; rfl))
          exact ⟨by omega, g9, upd_same, _, _, _, rfl⟩
      · obtain ⟨hi, g8, ec, y5, y6, y7, rfl⟩ := h
        rw [hxs] at hi
        omega
end
end K01

namespace Ks
open PySem PySem.Spec L2
open PyProof.Rows hiding St
/-- s.index(y), found -/
def rIndex0 : V → List V → Hp → VK → Prop := fun x xs H Q => ∃ (a b : Str) (k : Nat), x = .str a ∧ xs = [.str b] ∧ Txt.index0 a b = some k ∧ Q (.int k) H
theorem mt_index0 {X : Cx} : MtR X "str.index" rIndex0 := by
  intro pins s σ H x xs v us Q I rx rs h
  obtain ⟨a, b, k, rfl, rfl, hk, w⟩ := h
  obtain ⟨t, rfl⟩ := rx
  cases rs with
  | cons r1 rs =>
    cases rs
    obtain ⟨u, rfl⟩ := r1
    cases q : Builtin.Str.occurrences a b 0 a.length 1 with
    | nil =>
      have hk' : (Builtin.Str.occurrences a b 0 a.length 1).head? = some k := hk
      rw [q] at hk'
      cases hk'
    | cons k' rest =>
      have hk' : (Builtin.Str.occurrences a b 0 a.length 1).head? = some k := hk
      rw [q] at hk'
      cases hk'
      exact PySem.SC.index q ⟨.int (k : Nat), H, I.tok _, ⟨_, rfl⟩, w⟩
end Ks
namespace K01
open PySem PySem.Spec L2 Ks
open PyProof.Rows hiding St
theorem index_digit {d : Nat} (h : d < 4) : Txt.index0 "0123" ⟨#[48 + d]⟩ = some d := by
  match d, h with
  | 0, _ => decide +kernel
  | 1, _ => decide +kernel
  | 2, _ => decide +kernel
  | 3, _ => decide +kernel
theorem lexN_drop : ∀ (ds es : List Nat) (i : Nat), (∀ j, j < i → ds[j]? = es[j]?) → ds.length = es.length → lexN ds es = lexN (ds.drop i) (es.drop i)
  | ds, es, 0, _, _ => by simp
  | [], [], i + 1, _, _ => by simp
  | [], _ :: _, _, _, h => by cases h
  | _ :: _, [], _, _, h => by cases h
  | a :: r, b :: q, i + 1, h, hl => by
    have h0 := h 0 (by omega)
    have e : a = b := by simpa using h0
    subst e
    rw [lexN, if_pos rfl, List.drop_succ_cons, List.drop_succ_cons]
    exact lexN_drop r q i (fun j hj => by simpa using h (j + 1) (by omega)) (by simpa using hl)
theorem lexN_at {ds es : List Nat} {i : Nat} {a b : Nat} (h : ∀ j, j < i → ds[j]? = es[j]?) (hl : ds.length = es.length) (ha : ds[i]? = some a) (hb : es[i]? = some b) (hne : a ≠ b) : lexN ds es = decide (a < b) := by
  rw [lexN_drop ds es i h hl]
  obtain ⟨h1, h2⟩ := List.getElem?_eq_some_iff.mp ha
  obtain ⟨h3, h4⟩ := List.getElem?_eq_some_iff.mp hb
  rw [List.drop_eq_getElem_cons h1, List.drop_eq_getElem_cons h3, h2, h4, lexN, if_neg hne]
section
variable {P : Program} {w : World} {K : PySem.W.Frag} {mg : Str → Option Value} {base : Heap}
def spLahead : Sp := fun vs H Q _ => ∃ ds es : List Nat, vs = [.str (tf ds), .str (tf es)] ∧ (∀ d ∈ ds, d < 4) ∧ (∀ d ∈ es, d < 4) ∧ ds.length ≤ 200 ∧ es.length ≤ 200 ∧ ∀ H', Same H H' → Q (.bl (aheadN ds es)) H'
theorem okLahead {f : Addr} {fd : FuncData} (D : Dn K mg "_law_ahead" sLahead ["_law_one", "_law_other"] f fd) (T : Bx mg) : FnOk P w K mg base CX0 1 f fd ["_law_one", "_law_other"] spLahead := by
  refine D.F.ok scLahead (fun vs H Q E h => ?_) (fun cdv A outer s H vs Q E hr h => ?_)
  · obtain ⟨ds, es, rfl, _⟩ := h
    rfl
  · obtain ⟨ds, es, rfl, hd, he, ld, le, q⟩ := h
    have lz : (tf ds).length ≤ sizeLine := by rw [tf_len]; exact line200 ld
    have lu : (tf es).length ≤ sizeLine := by rw [tf_len]; exact line200 le
    refine ⟨_, ((pss_cons (ps_if (pt_cmpR op_ne (pe_callB call_len (by rfl) T.m_len (by decide +kernel) (pa_cons (pv 0) pa_nil)) (pe_callB call_len (by rfl) T.m_len (by decide +kernel) (pa_cons (pv 1) pa_nil)) (nomark _)) (pss_one (ps_ret (pe_cmpR op_lt (pe_callB call_len (by rfl) T.m_len (by decide +kernel) (pa_cons (pv 0) pa_nil)) (pe_callB call_len (by rfl) T.m_len (by decide +kernel) (pa_cons (pv 1) pa_nil)) (nomark _)))) pss_nil)
  (pss_cons (ps_for PassesOwn.never rfl (Ks.pi_zipS (by rfl) T.m_zip (pa_cons (pv 0) (pa_cons (pv 1) pa_nil))) (pg_tup rfl (pgs_cons (pg_name (i := 2) scLahead.nd rfl (Or.inl rfl)) (pgs_cons (pg_name (i := 3) scLahead.nd rfl (Or.inl rfl)) pgs_nil)))
      (pss_one (ps_if (pt_cmpR op_ne (pv 2) (pv 3) (nomark _)) (pss_one (ps_ret (pe_cmpR op_lt (pe_bm PySem.F.plainAttrs_str PySem.F.slot_str_index PySem.F.type_str_index Ks.mt_index0 pe_str (pa_cons (pv 2) pa_nil)) (pe_bm PySem.F.plainAttrs_str PySem.F.slot_str_index PySem.F.type_str_index Ks.mt_index0 pe_str (pa_cons (pv 3) pa_nil)) (nomark _)))) pss_nil)))
  (pss_one (ps_ret pe_bl))))), ?_⟩
    refine ⟨.str (tf ds), rfl, .str (tf ds), (tf ds).length, rfl, ⟨lz, rfl⟩, .str (tf es), rfl, .str (tf es), (tf es).length, rfl, ⟨lu, rfl⟩, rfl, _, rfl, ite2 (fun e => ?_) (fun e => ?_)⟩
    · have ne : ds.length ≠ es.length := fun z => by
        rw [tf_len, tf_len, z] at e
        simp at e
      refine ⟨.str (tf ds), rfl, .str (tf ds), (tf ds).length, rfl, ⟨lz, rfl⟩, .str (tf es), rfl, .str (tf es), (tf es).length, rfl, ⟨lu, rfl⟩, _, _, rfl, rfl, ?_⟩
      have ea : aheadN ds es = decide (((tf ds).length : Int) < ((tf es).length : Int)) := by
        rw [aheadN, if_neg ne, tf_len, tf_len, decide_eq_decide]
        omega
      have := q H (Same.refl H)
      rw [ea] at this
      exact this
    · have hl : ds.length = es.length := by
        have e2 : ¬ (!decide (V.int ((tf ds).length : Int) = V.int ((tf es).length : Int))) = true := e
        rw [tf_len, tf_len] at e2
        simp at e2
        omega
      refine ⟨.str (tf ds), rfl, .str (tf es), rfl, tf ds, tf es, rfl, ?_⟩
      have digit : ∀ (l : List Nat) (i c : Nat), (tf l).cps[i]? = some c → ∃ r, l[i]? = some r ∧ c = 48 + r := fun l i c h => by
        have h2 : (l.map (48 + ·))[i]? = some c := by
          rw [← h]
          show _ = (l.map (48 + ·)).toArray[i]?
          rw [List.getElem?_toArray]
        rw [List.getElem?_map] at h2
        obtain ⟨r, h3, h4⟩ := Option.map_eq_some_iff.mp h2
        exact ⟨r, h3, h4.symm⟩
      refine for_it (walk_zipS (x := tf ds) (y := tf es) (n := ds.length) (by show ds.length = min (tf ds).length (tf es).length; rw [tf_len, tf_len]; omega)) (fun i σ H' => Same H H' ∧ (∀ j, j < i → ds[j]? = es[j]?) ∧ ∃ y2 y3, σ = [some (.str (tf ds)), some (.str (tf es)), y2, y3]) ⟨Same.refl H, fun j hj => absurd hj (Nat.not_lt_zero j), none, none, rfl⟩ (fun _ _ _ _ _ => trivial) (fun i x σ H1 H2 hi h hy => ?_) (fun σ H1 h => ?_)
      · obtain ⟨s1, hj, y2, y3, rfl⟩ := h
        obtain ⟨t, c, d, rfl, nt, rfl, hc, hdd⟩ := hy
        obtain ⟨r1, g1, rfl⟩ := digit ds _ _ hc
        obtain ⟨r2, g2, rfl⟩ := digit es _ _ hdd
        have r14 : r1 < 4 := hd r1 (List.mem_of_getElem? g1)
        have r24 : r2 < 4 := he r2 (List.mem_of_getElem? g2)
        have s2 := s1.trans (same_new (o := .tup [.str ⟨#[48 + r1]⟩, .str ⟨#[48 + r2]⟩]) nt)
        refine ⟨t, _, rfl, .inl (.inl upd_same), rfl, _, _, rfl, _, _, rfl, rfl, .str ⟨#[48 + r1]⟩, rfl, .str ⟨#[48 + r2]⟩, rfl, rfl, _, rfl, ite2 (fun e => ?_) (fun e => ?_)⟩
        · have ner : r1 ≠ r2 := fun z => by
            rw [z] at e
            simp at e
          refine ⟨rfl, .str ⟨#[48 + r1]⟩, rfl, "0123", ⟨#[48 + r1]⟩, r1, rfl, rfl, index_digit r14, rfl, .str ⟨#[48 + r2]⟩, rfl, "0123", ⟨#[48 + r2]⟩, r2, rfl, rfl, index_digit r24, _, _, rfl, rfl, ?_⟩
          have ea : aheadN ds es = decide ((r1 : Int) < (r2 : Int)) := by
            rw [aheadN, if_pos hl, lexN_at hj hl g1 g2 ner, decide_eq_decide]
            omega
          have := q _ s2
          rw [ea] at this
          exact this
        · have eqr : r1 = r2 := by
            simp at e
            omega
          subst eqr
          refine ⟨s2, fun j hjl => ?_, _, _, rfl⟩
          rcases Nat.lt_succ_iff_lt_or_eq.mp hjl with z | z
          · exact hj j z
          · rw [z, g1, g2]
      · obtain ⟨s1, hj, y2, y3, rfl⟩ := h
        have eq : ds = es := by
          refine List.ext_getElem? fun i => ?_
          rcases Nat.lt_or_ge i ds.length with z | z
          · exact hj i z
          · rw [List.getElem?_eq_none z, List.getElem?_eq_none (by omega)]
        have ea : aheadN ds es = false := by rw [eq]; exact ahead_self es
        have := q _ s1
        rw [ea] at this
        exact this
end
end K01

namespace K01
open PySem PySem.Spec L2 Ks
open PyProof.Rows hiding St
theorem cl_cut_any (z : Str) (i : Nat) : cl (cutS z (some (i : Int)) none) = (cl z).drop i := by
  rcases Nat.lt_or_ge z.length i with h | h
  · unfold cutS
    have h1 : HT.sIx z.length 0 (some (i : Int)) = z.length := by
      show (if (i : Int) < 0 then ((i : Int) + z.length).toNat else min (i : Int).toNat z.length) = z.length
      rw [if_neg (by omega)]
      omega
    have h2 : HT.sIx z.length z.length none = z.length := rfl
    rw [h1, h2]
    show ((((z.cps.toList.drop z.length).take (z.length - z.length)).toArray).toList) = z.cps.toList.drop i
    have h3 : z.cps.toList.length = z.length := Array.length_toList
    rw [Nat.sub_self, List.take_zero, List.drop_of_length_le (show z.cps.toList.length ≤ i by omega)]
  · exact cl_cut_post z i h
theorem cut_tf {ds sg : List Nat} {i j : Nat} (hi : i ≤ ds.length) : cutS (tf ds) none (some (i : Int)) ++ tf sg ++ cutS (tf ds) (some (j : Int)) none = tf (ds.take i ++ sg ++ ds.drop j) := by
  apply str_ext
  rw [Ks.cl_append, Ks.cl_append, cl_cut_pre _ _ (by rw [tf_len]; exact hi), cl_cut_any, cl_tf, cl_tf, cl_tf, List.map_append, List.map_append, List.map_take, List.map_drop]
theorem tri {ds es : List Nat} : b2i (aheadN ds es) + b2i (aheadN es ds) + (if decide (V.str (tf ds) = V.str (tf es)) = true then 1 else 0) = (1 : Int) := by
  by_cases h : ds = es
  · subst h
    rw [ahead_self, if_pos (decide_eq_true rfl)]
    rfl
  · have hs : ¬ decide (V.str (tf ds) = V.str (tf es)) = true := fun z => h (by
      have h2 := congrArg cl (V.str.inj (of_decide_eq_true z))
      rw [cl_tf, cl_tf] at h2
      exact List.map_inj_right (fun a b q => by omega) |>.mp h2)
    rw [if_neg hs, ahead_tri h]
    cases aheadN ds es <;> rfl
section
variable {P : Program} {w : World} {K : PySem.W.Frag} {mg : Str → Option Value} {base : Heap}
variable {CN CT CO fI fN fC fL fT fX fW : Addr} {fdI dN dC dL dT dX dW : FuncData}
/-- texts of the law -/
def Okt (ds : List Nat) : Prop := (∀ d ∈ ds, d < 4) ∧ ds.length ≤ 200
def spOrd : Sp := fun vs H Q _ => ∃ b : Addr, vs = [.ref b] ∧ Bag b H ∧ ∀ H', Go b H H' → Q (.bl true) H'
theorem okLareOrdered {f f1 f2 f3 f4 f5 : Addr} {fd fd1 fd2 fd3 fd4 fd5 : FuncData} (D : Dn K mg "_law_are_ordered" sLareOrdered ["_law_bag_here"] f fd) (DLoneOf : Dn K mg "_law_one_of" sLoneOf ["_law_bag_here", "_law_items"] f1 fd1) (DLdraw : Dn K mg "_law_draw" sLdraw ["_law_bag_here", "_law_total"] f2 fd2)
    (DLtext : Dn K mg "_law_text" sLtext ["_law_bag_here", "_law_letters", "_law_width"] f3 fd3) (DComesAhead : Dn K mg "comes_ahead" sComesAhead ["one", "other"] f4 fd4) (DLahead : Dn K mg "_law_ahead" sLahead ["_law_one", "_law_other"] f5 fd5)
    (S : Ds K mg fN fC fL fT fX fW dN dC dL dT dX dW) (T : Bx mg) (R : Er K mg CN CT fI fdI) : FnG P w K mg base CX0 8 f fd ["_law_bag_here"] spOrd := by
  have GLoneOf : FnOk P w K mg base CX0 2 _ _ _ _ := okLoneOf DLoneOf DLdraw T
  have GLtext : FnOk P w K mg base CX0 2 _ _ _ _ := okLtext DLtext DLdraw T
  have GLdraw : FnOk P w K mg base CX0 1 _ _ _ _ := okLdraw DLdraw T
  have GComesAhead : FnOk P w K mg base (L2.CX P w) 6 _ _ _ _ := okAhead DComesAhead S T R
  have GLahead : FnOk P w K mg base CX0 1 _ _ _ _ := okLahead DLahead T
  refine fng_of D.F scLareOrdered (fun vs H Q E h => ?_) (fun cdv A outer s H vs Q E hr hG h => ?_)
  · obtain ⟨b, rfl, _⟩ := h
    rfl
  · obtain ⟨b, rfl, hb, q⟩ := h
    have hu := (show ∀ a b c : Nat, b + c + 200 < a → b + 100 < a from fun _ _ _ h => by omega) _ _ _ hr.un
    refine ⟨_, ((pss_cons (ps_setLc (i := 1) (own := [("_law_turn", 5)]) (g := gName 5) rfl scLareOrdered.nd rfl rfl (sw_true rfl rfl rfl (by decide +kernel)) (pi_range1 (by rfl) T.m_range (pa_cons pe_int pa_nil)) (blkOk_by (own := [("_law_turn", 5)]) (N := ["_law_bag_here", "_law_some", "_law_at", "_law_one", "_law_other", "_law_turn"]) (sc := defScope sLareOrdered) (by decide +kernel)) (fun _ _ _ _ _ => (pg_name (i := 5) scLareOrdered.nd rfl (Or.inl rfl))) (fun _ _ _ _ _ => pts_nil) (fun _ _ _ _ _ => (pe_call GLtext (hr.mono (by decide)) (by rfl) DLtext.g DLtext.F.kp DLtext.b .nil pass0 (pa_cons (pv 0) (pa_cons (pe_call GLoneOf (hr.mono (by decide)) (by rfl) DLoneOf.g DLoneOf.F.kp DLoneOf.b .nil pass0 (pa_cons (pv 0) (pa_cons (pe_lst (pa_cons pe_int (pa_cons pe_int pa_nil))) pa_nil))) (pa_cons (pe_call GLdraw (hr.mono (by decide)) (by rfl) DLdraw.g DLdraw.F.kp DLdraw.b .nil pass0 (pa_cons (pv 0) (pa_cons pe_int pa_nil))) pa_nil))))))
  (pss_cons (ps_set (i := 2) scLareOrdered.nd rfl (Or.inl rfl) (pe_call GLdraw (hr.mono (by decide)) (by rfl) DLdraw.g DLdraw.F.kp DLdraw.b .nil pass0 (pa_cons (pv 0) (pa_cons (pe_op op_add (pe_callB call_len (by rfl) T.m_len (by decide +kernel) (pa_cons (pe_ix ix_list (pv 1) pe_int (fun _ _ => rfl)) pa_nil)) pe_int) pa_nil))))
  (pss_cons (ps_expr (pe_bm PySem.F.plainAttrs_list PySem.F.slot_list_append PySem.F.type_list_append mt_append (pv 1) (pa_cons (pe_op op_add_str (pe_op op_add_str (pe_slice sl_str (pe_ix ix_list (pv 1) pe_int (fun _ _ => rfl)) po_none (po_some (pv 2))) (pe_call GLoneOf (hr.mono (by decide)) (by rfl) DLoneOf.g DLoneOf.F.kp DLoneOf.b .nil pass0 (pa_cons (pv 0) (pa_cons (pe_lst (pa_cons pe_str (pa_cons pe_str (pa_cons pe_str (pa_cons pe_str pa_nil))))) pa_nil)))) (pe_slice sl_str (pe_ix ix_list (pv 1) pe_int (fun _ _ => rfl)) (po_some (pe_op op_add (pv 2) (pe_call GLdraw (hr.mono (by decide)) (by rfl) DLdraw.g DLdraw.F.kp DLdraw.b .nil pass0 (pa_cons (pv 0) (pa_cons pe_int pa_nil))))) po_none)) pa_nil)))
  (pss_cons (ps_expr (pe_bm PySem.F.plainAttrs_list PySem.F.slot_list_append PySem.F.type_list_append mt_append (pv 1) (pa_cons (pe_call GLtext (hr.mono (by decide)) (by rfl) DLtext.g DLtext.F.kp DLtext.b .nil pass0 (pa_cons (pv 0) (pa_cons pe_int (pa_cons (pe_op op_add pe_int (pe_call GLdraw (hr.mono (by decide)) (by rfl) DLdraw.g DLdraw.F.kp DLdraw.b .nil pass0 (pa_cons (pv 0) (pa_cons pe_int pa_nil)))) pa_nil)))) pa_nil)))
  (pss_cons (ps_for PassesOwn.leaving rfl (pi_list (pv 1)) (pg_name (i := 3) scLareOrdered.nd rfl (Or.inl rfl)) (pss_one (ps_for PassesOwn.leaving rfl (pi_list (pv 1)) (pg_name (i := 4) scLareOrdered.nd rfl (Or.inl rfl)) (pss_cons (ps_if (pt_cmpR op_ne (pe_callB (Ks.call_show hG hu) (by rfl) T.m_repr (by decide +kernel) (pa_cons (pe_call (E := fun _ _ _ => False) GComesAhead (hr.mono (by decide)) (by rfl) DComesAhead.g DComesAhead.F.kp DComesAhead.b .nil passL (pa_cons (pv 3) (pa_cons (pv 4) pa_nil))) pa_nil)) (pe_callB (Ks.call_show hG hu) (by rfl) T.m_repr (by decide +kernel) (pa_cons (pe_call GLahead (hr.mono (by decide)) (by rfl) DLahead.g DLahead.F.kp DLahead.b .nil pass0 (pa_cons (pv 3) (pa_cons (pv 4) pa_nil))) pa_nil)) (nomark _)) (pss_one (ps_ret pe_bl)) pss_nil)
  (pss_one (ps_if (pt_cmpR op_ne (pe_op op_add (pe_op Ks.op_add_bb (pe_call (E := fun _ _ _ => False) GComesAhead (hr.mono (by decide)) (by rfl) DComesAhead.g DComesAhead.F.kp DComesAhead.b .nil passL (pa_cons (pv 3) (pa_cons (pv 4) pa_nil))) (pe_call (E := fun _ _ _ => False) GComesAhead (hr.mono (by decide)) (by rfl) DComesAhead.g DComesAhead.F.kp DComesAhead.b .nil passL (pa_cons (pv 4) (pa_cons (pv 3) pa_nil)))) (pe_callTy call_int1 (by rfl) T.m_int (by decide +kernel) (pa_cons (pe_cmpR op_eq (pv 3) (pv 4) (nomark _)) pa_nil))) pe_int (nomark _)) (pss_one (ps_ret pe_bl)) pss_nil))))))
  (pss_one (ps_ret pe_bl)))))))), ?_⟩
    refine ⟨2, rfl, by decide, by decide, fun D nD => ?_⟩
    have dn : D ≠ b := hb.ne nD
    refine lc_it (walk_range (lo := 0)) (fun i H' => Go b H H' ∧ ∃ L : List (List Nat), H' D = some (.lst (tl L)) ∧ L.length = i ∧ ∀ ds ∈ L, (∀ d ∈ ds, d < 4) ∧ ds.length ≤ 3) ⟨(Go.refl hb).new nD, [], upd_same, rfl, fun ds h => nomatch h⟩ (fun _ _ _ _ => trivial) (fun i x H1 H2 hi h hy => ?_) (fun H1 h => ?_)
    · obtain ⟨g1, L, eD, lL, hL⟩ := h
      obtain ⟨rfl, rfl⟩ := hy
      refine ⟨rfl, .ref b, rfl, .ref b, rfl, (show 2 ≤ sizeLine by decide), fun p np => ⟨b, p, _, rfl, (g1.new np).1, upd_same, g1.1.ne np, (fun z => nomatch z), (show 2 ≤ 1000 by decide), fun x hx H3 g3 => ?_⟩⟩
      obtain ⟨n, rfl, hn⟩ : ∃ n : Nat, x = .int n ∧ (n = 2 ∨ n = 4) := by
        simp only [List.mem_cons, List.mem_nil_iff, or_false] at hx
        rcases hx with rfl | rfl
        · exact ⟨2, rfl, .inl rfl⟩
        · exact ⟨4, rfl, .inr rfl⟩
      refine ⟨.ref b, rfl, b, 4, rfl, by decide, by decide, g3.1, fun r hr H4 g4 => ?_⟩
      refine ⟨b, n, (r : Int), rfl, by omega, by omega, by omega, g4.1, fun z hz lz H5 g5 => ?_⟩
      obtain ⟨ds, rfl, hd, hl, hl2⟩ := txt_tf (n := n) hn hz
      have G5 := (((g1.new (o := .lst [.int 2, .int 4]) np).trans g3).trans g4).trans g5
      have eD5 := g5.at dn (g4.at dn (g3.at dn (same_new (o := .lst [.int 2, .int 4]) np _ _ eD)))
      refine ⟨_, eD5, ?_, G5.set nD hb, L ++ [ds], ?_, ?_, fun es he => ?_⟩
      · unfold tl
        rw [List.length_map, lL]
        exact Nat.lt_of_lt_of_le (show i < 3 by omega) (by decide)
      · rw [upd_same]
        unfold tl
        rw [List.map_append]
        rfl
      · rw [List.length_append, lL]
        rfl
      · rcases List.mem_append.mp he with z | z
        · exact hL es z
        · rw [List.mem_singleton.mp z]
          exact ⟨fun d m => Nat.lt_of_lt_of_le (hd d m) (by omega), by rw [tf_len] at lz; omega⟩
    · obtain ⟨g1, L, eD, lL, hL⟩ := h
      obtain ⟨d0, d1, rfl⟩ : ∃ d0 d1, L = [d0, d1] := by
        match L, lL with
        | [a, c], _ => exact ⟨a, c, rfl⟩
      obtain ⟨h0, l0⟩ := hL d0 List.mem_cons_self
      obtain ⟨h1, l1⟩ := hL d1 (List.mem_cons_of_mem _ List.mem_cons_self)
      have lz0 : (tf d0).length ≤ sizeLine := by rw [tf_len]; exact Nat.le_trans l0 (by decide)
      refine ⟨.ref b, rfl, .ref D, rfl, D, _, 0, .str (tf d0), rfl, rfl, .inl (.inl eD), rfl, .str (tf d0), (tf d0).length, rfl, ⟨lz0, rfl⟩, _, _, rfl, rfl, ?_⟩
      refine ⟨b, ((tf d0).length : Int) + 1, rfl, by omega, ?_, g1.1, fun at_ hat H2 g2 => ?_⟩
      · have h1 := Nat.log2_le_self (((tf d0).length : Int) + 1).natAbs
        rw [tf_len] at h1 ⊢
        omega
      have hat2 : at_ ≤ d0.length := by rw [tf_len] at hat; omega
      have eD2 := g2.at dn eD
      have G2 := g1.trans g2
      refine ⟨.ref D, rfl, .inl ⟨rfl, _, .inl (.inl eD2)⟩, .ref D, rfl, D, _, 0, .str (tf d0), rfl, rfl, .inl (.inl eD2), rfl, .int at_, rfl, (at_ : Int), rfl, tf d0, rfl, lz0, ?_⟩
      refine ⟨.ref b, rfl, (show 4 ≤ sizeLine by decide), fun p np => ⟨b, p, _, rfl, (G2.new np).1, upd_same, G2.1.ne np, (fun z => nomatch z), (show 4 ≤ 1000 by decide), fun x hx H3 g3 => ?_⟩⟩
      obtain ⟨sg, rfl, hsg, lsg⟩ : ∃ sg : List Nat, x = .str (tf sg) ∧ (∀ d ∈ sg, d < 4) ∧ sg.length ≤ 1 := by
        simp only [List.mem_cons, List.mem_nil_iff, or_false] at hx
        rcases hx with rfl | rfl | rfl | rfl
        · exact ⟨[], rfl, by decide, by decide⟩
        · exact ⟨[0], rfl, by decide, by decide⟩
        · exact ⟨[1], rfl, by decide, by decide⟩
        · exact ⟨[3], rfl, by decide, by decide⟩
      have G3 := (G2.new (o := .lst [.str "", .str "0", .str "1", .str "3"]) np).trans g3
      have eD3 := g3.at dn (same_new (o := .lst [.str "", .str "0", .str "1", .str "3"]) np _ _ eD2)
      have lc1 : (cutS (tf d0) none (some (at_ : Int))).length ≤ 3 := by
        rw [← cl_len, cl_cut_pre _ _ (by rw [tf_len]; exact hat2), List.length_take, cl_len, tf_len]
        omega
      refine ⟨_, _, rfl, rfl, (by rw [tf_len]; exact Nat.le_trans (show _ ≤ 4 by omega) (by decide)), ?_⟩
      refine ⟨.ref D, rfl, D, _, 0, .str (tf d0), rfl, rfl, .inl (.inl eD3), rfl, .int at_, rfl, .ref b, rfl, b, 2, rfl, by decide, by decide, g3.1, fun r hr H4 g4 => ?_⟩
      refine ⟨_, _, rfl, rfl, _, rfl, tf d0, rfl, lz0, ?_⟩
      have G4 := G3.trans g4
      have eD4 := g4.at dn eD3
      have lc2 : (cutS (tf d0) (some (((at_ + r : Nat) : Int))) none).length ≤ 3 := by
        rw [← cl_len, cl_cut_any, List.length_drop, cl_len, tf_len]
        omega
      have eq2 : (at_ : Int) + (r : Int) = ((at_ + r : Nat) : Int) := by omega
      have lap : (cutS (tf d0) none (some (at_ : Int)) ++ tf sg).length ≤ 4 := by
        rw [← cl_len, Ks.cl_append, List.length_append, cl_len, cl_len, tf_len]
        omega
      refine ⟨_, _, rfl, rfl, (by rw [eq2]; exact Nat.le_trans (show _ ≤ 7 by omega) (by decide)), D, _, _, rfl, rfl, eD4, (show 2 < sizeLine by decide), ?_⟩
      rw [eq2, cut_tf hat2]
      obtain ⟨d2, ed2⟩ : ∃ d2, d2 = d0.take at_ ++ sg ++ d0.drop (at_ + r) := ⟨_, rfl⟩
      rw [← ed2]
      have h2 : ∀ d ∈ d2, d < 4 := fun d m => by
        rw [ed2] at m
        rcases List.mem_append.mp m with m | m
        · rcases List.mem_append.mp m with m | m
          · exact h0 d (List.mem_of_mem_take m)
          · exact hsg d m
        · exact h0 d (List.mem_of_mem_drop m)
      have l2 : d2.length ≤ 7 := by
        rw [ed2, List.length_append, List.length_append, List.length_take, List.length_drop]
        omega
      have G4' : Go b H (upd H4 D (.lst (tl [d0, d1] ++ [.str (tf d2)]))) := G4.set nD hb
      refine ⟨.ref D, rfl, .inl ⟨rfl, _, .inl (.inl upd_same)⟩, .ref b, rfl, .ref b, rfl, b, 2, rfl, by decide, by decide, G4'.1, fun r2 hr2 H5 g5 => ⟨199, (r2 : Int), rfl, rfl, b, 4, 199 + (r2 : Int), rfl, .inr rfl, by omega, by omega, g5.1, fun z hz lz H6 g6 => ?_⟩⟩
      obtain ⟨d3, rfl, h3, l3, l3'⟩ := txt_tf (n := 4) (.inr rfl) hz
      have eD6 := g6.at dn (g5.at dn (upd_same (H := H4) (a := D) (o := .lst (tl [d0, d1] ++ [.str (tf d2)]))))
      have G6 := (G4'.trans g5).trans g6
      refine ⟨D, _, _, rfl, rfl, eD6, (show 3 < sizeLine by decide), ?_⟩
      have eL : tl [d0, d1] ++ [V.str (tf d2)] ++ [V.str (tf d3)] = tl [d0, d1, d2, d3] := rfl
      rw [eL]
      have okL : ∀ ds ∈ [d0, d1, d2, d3], Okt ds := fun ds m => by
        simp only [List.mem_cons, List.mem_nil_iff, or_false] at m
        rcases m with rfl | rfl | rfl | rfl
        · exact ⟨h0, by omega⟩
        · exact ⟨h1, by omega⟩
        · exact ⟨h2, by omega⟩
        · exact ⟨h3, by omega⟩
      have mem : ∀ {i : Nat} {x : V}, (tl [d0, d1, d2, d3])[i]? = some x → ∃ ds, x = .str (tf ds) ∧ Okt ds := fun {i x} hx => by
        unfold tl at hx
        rw [List.getElem?_map] at hx
        obtain ⟨ds, hds, rfl⟩ := Option.map_eq_some_iff.mp hx
        exact ⟨ds, rfl, okL ds (List.mem_of_getElem? hds)⟩
      refine ⟨.ref D, rfl, D, rfl, ⟨_, .inl (.inl upd_same)⟩, ?_⟩
      refine for_it (walk_list (xs := tl [d0, d1, d2, d3])) (fun i σ H' => Go b H H' ∧ H' D = some (.lst (tl [d0, d1, d2, d3])) ∧ ∃ y3 y4 y5, σ = [some (.ref b), some (.ref D), some (.int at_), y3, y4, y5]) ⟨G6.set nD hb, upd_same, none, none, none, rfl⟩ (fun i σ H' _ h => .inl (.inl h.2.1)) (fun i x σ H7 H8 hi h hy => ?_) (fun σ H7 h => ?_)
      · obtain ⟨g7, e7, y3, y4, y5, rfl⟩ := h
        obtain ⟨rfl, hx⟩ := hy
        obtain ⟨ds, rfl, hd, ld⟩ := mem hx
        refine ⟨.ref D, rfl, D, rfl, ⟨_, .inl (.inl e7)⟩, ?_⟩
        refine for_it (walk_list (xs := tl [d0, d1, d2, d3])) (fun i σ H' => Go b H H' ∧ H' D = some (.lst (tl [d0, d1, d2, d3])) ∧ ∃ y4 y5, σ = [some (.ref b), some (.ref D), some (.int at_), some (.str (tf ds)), y4, y5]) ⟨g7, e7, y4, y5, rfl⟩ (fun i σ H' _ h => .inl (.inl h.2.1)) (fun j x σ H9 H10 hj h hy => ?_) (fun σ H9 h => ?_)
        · obtain ⟨g9, e9, z4, z5, rfl⟩ := h
          obtain ⟨rfl, hx⟩ := hy
          obtain ⟨es, rfl, he, le⟩ := mem hx
          have shb : ∀ (c : Bool) (H0 : Hp), Shows K H0 (.bl c) (.bool c) := fun c H0 => .inl ⟨.bl c, rfl⟩
          refine ⟨.str (tf ds), rfl, .str (tf es), rfl, ds, es, rfl, hd, he, ld, le, fun H11 s11 => ⟨_, _, rfl, shb _ _, rfl, (by simp [PyData.depth]), (by cases aheadN ds es <;> decide), ?_⟩⟩
          refine ⟨.str (tf ds), rfl, .str (tf es), rfl, ds, es, rfl, hd, he, ld, le, fun H12 s12 => ⟨_, _, rfl, shb _ _, rfl, (by simp [PyData.depth]), (by cases aheadN ds es <;> decide), rfl, _, rfl, (if_neg (by simp)).mpr ?_⟩⟩
          refine ⟨.str (tf ds), rfl, .str (tf es), rfl, ds, es, rfl, hd, he, ld, le, fun H13 s13 => ?_⟩
          refine ⟨.str (tf es), rfl, .str (tf ds), rfl, es, ds, rfl, he, hd, le, ld, fun H14 s14 => ⟨_, _, rfl, rfl, ?_⟩⟩
          have s := ((s11.trans s12).trans s13).trans s14
          refine ⟨.str (tf ds), rfl, .str (tf es), rfl, rfl, .inr ⟨_, rfl, _, _, rfl, rfl, rfl, _, rfl, (if_neg ?_).mpr ?_⟩⟩
          · show ¬(!decide (V.int (b2i (aheadN ds es) + b2i (aheadN es ds) + (if decide (V.str (tf ds) = V.str (tf es)) = true then 1 else 0)) = V.int 1)) = true
            rw [tri]
            simp
          · exact ⟨g9.trans (Go.same g9.1 s), s _ _ e9, _, _, rfl⟩
        · obtain ⟨g9, e9, z4, z5, rfl⟩ := h
          exact ⟨g9, e9, _, _, _, rfl⟩
      · obtain ⟨g7, e7, y3, y4, y5, rfl⟩ := h
        exact q _ g7
end
end K01

/-! Tests with calls of defs with FnQ, where no resting generator has another one's frame in it. -/
namespace Ks
open PySem PySem.Spec L2
open PyProof.Rows hiding St
structure PER (X : Cx) (e : Expr) (t : TE) : Prop where
  run : ∀ (pins : List (Addr × Obj)) (s : Shared) (σ : L2.St) (H : Hp) (Q : VK), Inv X pins σ H s → RestOk s.gens → t σ H Q → wpAny (model X.prog X.w) X.A (eval e X.env) (EP X pins σ Q) X.xe s
structure PTR (X : Cx) (e : Expr) (t : TT) : Prop where
  run : ∀ (pins : List (Addr × Obj)) (s : Shared) (σ : L2.St) (H : Hp) (Q : Bool → Hp → Prop), Inv X pins σ H s → RestOk s.gens → t σ H Q → wpAny (model X.prog X.w) X.A (PySem.isTrue e X.env (eval e X.env)) (TP X pins σ Q) X.xe s
structure PWR (X : Cx) (e : Expr) (t : TT) : Prop where
  run : ∀ (whole : Sem Value) (pins : List (Addr × Obj)) (s : Shared) (σ : L2.St) (H : Hp) (Q : Bool → Hp → Prop), Inv X pins σ H s → RestOk s.gens → t σ H Q → wpAny (model X.prog X.w) X.A (PySem.isTrue e X.env whole) (TP X pins σ Q) X.xe s
theorem PWR.pt {X : Cx} {e : Expr} {t : TT} (h : PWR X e t) : PTR X e t := ⟨h.run _⟩
section
variable {X : Cx} {e a b : Expr} {pos p : Pos} {rest : List Expr} {t : TE} {tA tB' : TT}
theorem PER.of (h : PE X e t) : PER X e t := ⟨fun pins s σ H Q I _ q => h.run pins s σ H Q I q⟩
theorem PTR.of (h : PT X e tA) : PTR X e tA := ⟨fun pins s σ H Q I _ q => h.run pins s σ H Q I q⟩
theorem PWR.of (h : PW X e tA) : PWR X e tA := ⟨fun w pins s σ H Q I _ q => h.run w pins s σ H Q I q⟩
theorem ptr_val (h : PER X e t) (he : ∀ whole, PySem.isTrue e X.env whole = (do let v ← whole; standAt e.pos; holding [v] (truthy v)) := by intro _; rfl) : PTR X e (tB t) := by
  refine ⟨fun pins s σ H Q I ro hw => ?_⟩
  refine isTrue_plain (thn (h.run pins s σ H _ I ro hw) fun v s1 ⟨x, H1, I1, r1, q1⟩ => ?_) (he _)
  obtain ⟨d, rfl, q⟩ := q1
  cases r1
  exact wpAny_truthy_bool ⟨H1, I1, q⟩
theorem pwr_or1 (ha : PTR X a tA) : PWR X (.BoolOp .Or [a] pos) tA := by
  refine ⟨fun wh pins s σ H Q I ro h => ?_⟩
  refine isTrue_or (thn (ha.run pins s σ H Q I ro h) fun c s1 e => ?_)
  cases c with
  | false => exact isTrue_or_nil e
  | true => exact e
theorem pwr_or (ha : PTR X a tA) (hb : PWR X (.BoolOp .Or (b :: rest) pos) tB') : PWR X (.BoolOp .Or (a :: b :: rest) pos) (tOr tA tB') := by
  refine ⟨fun wh pins s σ H Q I ro h => ?_⟩
  refine isTrue_or (thnR ro (ha.run pins s σ H _ I ro h) fun c s1 ro1 ⟨H1, I1, q1⟩ => ?_)
  cases c with
  | true => exact ⟨H1, I1, q1⟩
  | false => exact hb.run wh pins s1 σ H1 Q I1 ro1 q1
theorem ptr_not (ha : PTR X a tA) : PTR X (.UnaryOp .Not a pos) (tNot tA) := by
  refine ⟨fun pins s σ H Q I ro h => ?_⟩
  exact isTrue_not (ha.run pins s σ H (fun c H1 => Q (!c) H1) I ro h)
theorem pr_if {c : Expr} {sa sb : List Stmt} {tc : TT} {t u : TS} (hc : PTR X c tc) (ha : PRs X sa t) (hb : PRs X sb u) : PR X (.If c sa sb pos) (tIfS tc t u) := by
  refine ⟨fun pins s σ H D I ro h => ?_⟩
  refine wpAny_If (thnR ro (hc.run pins s σ H _ I ro h) fun d s1 ro1 ⟨H1, I1, q1⟩ => ?_)
  cases d with
  | true => exact ha.run pins s1 σ H1 D I1 ro1 q1
  | false => exact hb.run pins s1 σ H1 D I1 ro1 q1
/-- f(e, ..), f with FnQ -/
theorem per_callQ {CX : CXT} {k : Nat} {f : Addr} {fd : FuncData} {ps : List Str} {sp : Sp} {E : XK} {x : Str} {es : List Expr} {t : TA} (hG : X.A.guards = some []) (F : FnQ X.prog X.w X.K X.mg X.base CX k f fd ps sp) (hr : Room k X.A) (hg : Gl X x) (hm : X.mg x = some (.ref f)) (hk : PySem.W.keepIn X.K (.ref f) = true) (hb : Binds X.K fd ps []) (hx : Passes CX X E)
    (ha : PA X (e :: es) t) (hdb : (x == ("__debug__" : Str)) = false := by decide) (hst : starEach (e :: es) X.env = (false, eval e X.env) :: starEach es X.env := by rfl) (hpl : (backTo pos (starEach es X.env)).any (·.1) = false := by rfl) :
    PER X (.Call (.Name x p) (e :: es) [] pos) (tCall sp [] E t) := by
  constructor
  intro pins s σ H Q I ro h
  refine wpAny_Call_Name_kw (ld_glob I hg hm ?_ hdb)
  refine PySem.W.callWith_K (h₀ := X.base) I.ok.mod.kin hk (thnR ro (ha.run pos pins s σ H _ I h) ?_) hst hpl
  rintro us s1 ro1 ⟨vs, H1, I1, r, q⟩
  rw [List.append_nil] at q
  refine ⟨I1.kIn, ?_⟩
  have hl : (us ++ []).length = ps.length := by
    rw [List.append_nil, ← r.length]
    exact F.len _ _ _ _ q
  have b := hb s1 us I1.kIn hl
  rw [List.append_nil] at b
  refine wpAny_call (codeAny_mono (F.go X.A X.stack s1 H1 ⟨us, []⟩ us vs Q E hr hG ro1 I1.env0 b r q) ?_)
  intro res s2 hq
  cases res with
  | error er => exact hx pins σ H1 s1 er s2 I1 hq
  | ok fl =>
    cases fl with
    | ret u => exact I1.after hq
    | next => exact hq.elim
    | brk => exact hq.elim
    | cont => exact hq.elim
end
end Ks

namespace K01
open PySem PySem.Spec L2 Ks
open PyProof.Rows hiding St
section
variable {P : Program} {w : World} {K : PySem.W.Frag} {mg : Str → Option Value} {base : Heap}
variable {CN CT CO fI fN fC fL fT fX fW : Addr} {fdI dN dC dL dT dX dW : FuncData}
def spLaw (K : PySem.W.Frag) : Sp := fun vs H Q _ => ∃ (a : Addr) (ns : List Int), vs = [.ref a] ∧ SqL K H a (ns.map V.int) ∧ ∀ H', Q (.bl true) H'
theorem okLaw {f f0 f1 f2 f3 f4 f5 f6 f7 f8 f9 f10 f11 : Addr} {fd d0 d1 d2 d3 d4 d5 d6 d7 d8 d9 d10 d11 : FuncData} (D : Dn K mg "law" sLaw ["_law_script"] f fd)
    (DLbag : Dn K mg "_law_bag" sLbag ["_law_script", "_law_at"] f0 d0) (DLdraw : Dn K mg "_law_draw" sLdraw ["_law_bag_here", "_law_total"] f1 d1) (DLoneOf : Dn K mg "_law_one_of" sLoneOf ["_law_bag_here", "_law_items"] f2 d2)
    (DLtext : Dn K mg "_law_text" sLtext ["_law_bag_here", "_law_letters", "_law_width"] f3 d3) (DLtexts : Dn K mg "_law_texts" sLtexts ["_law_letters", "_law_width"] f4 d4) (DLnearText : Dn K mg "_law_near_text" sLnearText ["_law_bag_here", "_law_letters"] f5 d5)
    (DLareTexts : Dn K mg "_law_are_texts" sLareTexts ["_law_bag_here", "_law_letters"] f6 d6) (DLareAll : Dn K mg "_law_are_all" sLareAll ["_law_bag_here", "_law_letters"] f7 d7) (DLahead : Dn K mg "_law_ahead" sLahead ["_law_one", "_law_other"] f8 d8)
    (DLareOrdered : Dn K mg "_law_are_ordered" sLareOrdered ["_law_bag_here"] f9 d9) (DTextsOf : Dn K mg "texts_of" sTextsOf ["letters", "width"] f10 d10) (DComesAhead : Dn K mg "comes_ahead" sComesAhead ["one", "other"] f11 d11)
    (S : Ds K mg fN fC fL fT fX fW dN dC dL dT dX dW) (T : Bx mg) (hT : mg "tuple" = none) (R : Er K mg CN CT fI fdI) :
    FnQ P w K mg base CX0 16 f fd ["_law_script"] (spLaw K) := by
  have GLbag : FnOk P w K mg base CX0 1 _ _ _ _ := okLbag DLbag T
  have GLoneOf : FnOk P w K mg base CX0 2 _ _ _ _ := okLoneOf DLoneOf DLdraw T
  have GLareTexts : FnG P w K mg base CX0 6 _ _ _ _ := okLareTexts DLareTexts DLnearText DLoneOf DLdraw DLtext S T R
  have GLareAll : FnQ P w K mg base CX0 14 _ _ _ _ := okLareAll DLareAll DLtexts DLoneOf DLdraw DTextsOf S T hT R
  have GLareOrdered : FnG P w K mg base CX0 8 _ _ _ _ := okLareOrdered DLareOrdered DLoneOf DLdraw DLtext DComesAhead DLahead S T R
  obtain ⟨tW, hW⟩ := S.wid
  refine fnq_of D.F scLaw (fun vs H Q E h => ?_) (fun cdv A outer s H vs Q E hr hG h => ?_)
  · obtain ⟨a, ns, rfl, _⟩ := h
    rfl
  · obtain ⟨a, ns, rfl, hS, q⟩ := h
    refine ⟨_, prs_cons (pr_for PassesOwn.never rfl (pi_range1 (by rfl) T.m_range (pa_cons (pe_callB (call_max2 rfl) (by rfl) T.m_max (by decide +kernel) (pa_cons pe_int (pa_cons (pe_callB (call_min2 rfl) (by rfl) T.m_min (by decide +kernel) (pa_cons pe_int (pa_cons (pe_callB call_len_seq (by rfl) T.m_len (by decide +kernel) (pa_cons (pv 0) pa_nil)) pa_nil))) pa_nil))) pa_nil)) (pg_name (i := 1) scLaw.nd rfl (Or.inl rfl))
        (prs_cons (PR.of (ps_set (i := 2) scLaw.nd rfl (Or.inl rfl) (pe_call GLbag (hr.mono (by decide)) (by rfl) DLbag.g DLbag.F.kp DLbag.b .nil pass0 (pa_cons (pv 0) (pa_cons (pv 1) pa_nil)))))
        (prs_cons (PR.of (ps_set (i := 3) scLaw.nd rfl (Or.inl rfl) (pe_call GLoneOf (hr.mono (by decide)) (by rfl) DLoneOf.g DLoneOf.F.kp DLoneOf.b .nil pass0 (pa_cons (pv 2) (pa_cons (pe_lst (pa_cons pe_int (pa_cons pe_int pa_nil))) pa_nil)))))
        (prs_cons (pr_if (PWR.pt (pwr_or (PTR.of (pt_not (pt_val (Ks.pe_callG hG GLareTexts (hr.mono (by decide)) (by rfl) DLareTexts.g DLareTexts.F.kp DLareTexts.b pass0 (pa_cons (pv 2) (pa_cons (pv 3) pa_nil))))))
            (pwr_or (ptr_not (ptr_val (per_callQ hG GLareAll (hr.mono (by decide)) (by rfl) DLareAll.g DLareAll.F.kp DLareAll.b pass0 (pa_cons (pv 2) (pa_cons (pv 3) pa_nil)))))
              (pwr_or1 (PTR.of (pt_not (pt_val (Ks.pe_callG hG GLareOrdered (hr.mono (by decide)) (by rfl) DLareOrdered.g DLareOrdered.F.kp DLareOrdered.b pass0 (pa_cons (pv 2) pa_nil)))))))))
            (PRs.of (pss_one (ps_ret pe_bl))) (PRs.of pss_nil)) prs_nil))))
      (PRs.of (pss_one (ps_ret (pe_cmpR op_eq (pe_glob (v := .int 200) rfl hW ⟨_, rfl⟩) pe_int (nomark _))))), ?_⟩
    refine ⟨.ref a, rfl, a, _, rfl, .inl hS, 3, _, rfl, 1, _, rfl, _, rfl, ?_, ?_, ?_⟩
    · split <;> split <;> omega
    · split <;> split <;> omega
    · refine for_it (walk_range (lo := 0)) (fun i σ H' => SqL K H' a (ns.map V.int) ∧ ∃ y1 y2 y3, σ = [some (.ref a), y1, y2, y3]) ⟨hS, none, none, none, rfl⟩ (fun _ _ _ _ _ => trivial) (fun i x σ H1 H2 hi h hy => ?_) (fun σ H1 h => ?_)
      · obtain ⟨h1, y1, y2, y3, rfl⟩ := h
        obtain ⟨rfl, rfl⟩ := hy
        refine ⟨.ref a, rfl, .int (0 + (i : Int)), rfl, a, ns, 0 + (i : Int), rfl, h1, by omega, fun p H3 np sm bg => ?_⟩
        have sq : SqL K (wo p H3) a (ns.map V.int) := (wo_free np sm).seq h1
        refine ⟨.ref p, rfl, (show 2 ≤ sizeLine by decide), fun l nl => ⟨p, l, _, rfl, ((Go.refl bg).new nl).1, upd_same, bg.ne nl, (fun z => nomatch z), (show 2 ≤ 1000 by decide), fun x hx H4 g4 => ?_⟩⟩
        obtain ⟨n, rfl, hn⟩ : ∃ n : Nat, x = .int n ∧ (n = 2 ∨ n = 4) := by
          simp only [List.mem_cons, List.mem_nil_iff, or_false] at hx
          rcases hx with rfl | rfl
          · exact ⟨2, rfl, .inl rfl⟩
          · exact ⟨4, rfl, .inr rfl⟩
        have G4 := ((Go.refl bg).new (o := .lst [.int 2, .int 4]) nl).trans g4
        refine ⟨.ref p, rfl, .int n, rfl, p, n, rfl, hn, G4.1, fun H5 g5 => ⟨_, rfl, ite2 (fun e => nomatch e) (fun _ => ?_)⟩⟩
        refine ⟨.ref p, rfl, .int n, rfl, p, n, rfl, hn, g5.1, fun H6 g6 => ⟨_, rfl, ite2 (fun e => nomatch e) (fun _ => ?_)⟩⟩
        refine ⟨.ref p, rfl, p, rfl, g6.1, fun H7 g7 => ⟨_, rfl, ite2 (fun e => nomatch e) (fun _ => ?_)⟩⟩
        have G := ((G4.trans g5).trans g6).trans g7
        exact ⟨(wo_same p H7).seq (G.2.seq sq), _, _, _, rfl⟩
      · exact ⟨rfl, q _⟩
end
end K01

namespace K01
open PySem PySem.Spec L2 Ks
open PyProof.Rows hiding St
theorem all_mk {P : Program} {w : World} {K : PySem.W.Frag} {h : Heap} {mg : Str → Option Value} {fa CN CT fI : Addr} {tW : Tok} (X : K.In h) (G : h.Ns mainGlobals mg) (hfa : mg "law" = some (.ref fa))
    {nm q : Str} {N : Addr} {bs bmm : List Value} {sn : List Str} {sub : List Value} {ab : Bool} {col : Option Bool} {dd : Option Addr} {m0 m1 m2 m3 m5 : Option Value}
    {f0 f1 f2 f3 f4 f5 f6 f7 f8 f9 f10 f11 f12 f13 f14 f15 f16 f17 f18 : Addr}
    {odI anI od0 an0 od1 an1 od2 an2 od3 an3 od4 an4 od5 an5 od6 an6 od7 an7 od8 an8 od9 an9 od10 an10 od11 an11 od12 an12 od13 an13 od14 an14 od15 an15 od16 an16 od17 an17 od18 an18 : Option Addr}
    {slI sl0 sl1 sl2 sl3 sl4 sl5 sl6 sl7 sl8 sl9 sl10 sl11 sl12 sl13 sl14 sl15 sl16 sl17 sl18 : Array (Option Value)}
    {ocI kVI dcI pmI cdI ctI oc0 kV0 dc0 pm0 cd0 ct0 oc1 kV1 dc1 pm1 cd1 ct1 oc2 kV2 dc2 pm2 cd2 ct2 oc3 kV3 dc3 pm3 cd3 ct3 oc4 kV4 dc4 pm4 cd4 ct4 oc5 kV5 dc5 pm5 cd5 ct5 oc6 kV6 dc6 pm6 cd6 ct6 oc7 kV7 dc7 pm7 cd7 ct7 oc8 kV8 dc8 pm8 cd8 ct8 oc9 kV9 dc9 pm9 cd9 ct9 oc10 kV10 dc10 pm10 cd10 ct10 oc11 kV11 dc11 pm11 cd11 ct11 oc12 kV12 dc12 pm12 cd12 ct12 oc13 kV13 dc13 pm13 cd13 ct13 oc14 kV14 dc14 pm14 cd14 ct14 oc15 kV15 dc15 pm15 cd15 ct15 oc16 kV16 dc16 pm16 cd16 ct16 oc17 kV17 dc17 pm17 cd17 ct17 oc18 kV18 dc18 pm18 cd18 ct18 : Value}
    (aN : PySem.W.nsIn K mainGlobals "InvalidNumber" = some (some (.ref CN)))
    (xN : K.lookup CN = some (excClassObj nm q CN N bs bmm true sn sub ab col dd m0 m1 m2 m3 m5 "IndexError.__new__"))
    (xM : PySem.W.excTail ixB bmm = true)
    (saN : PySem.W.findIn K (.ref CN) "__setattr__" = some (some (.builtin "object.__setattr__")))
    (ngN : PySem.W.findIn K (.ref CN) "given" = some none)
    (iN : PySem.W.findIn K (.ref CN) "__init__" = some (some (.ref fI)))
    (tI : PySem.W.typeIn K (.ref fI) = some (.type "function"))
    (lI : K.lookup fI = some ⟨ocI, odI, .func (PySem.W.fnOf "__init__" "InvalidNumber.__init__" (defArgs sInvalidnumberInit) (defBody sInvalidnumberInit) (defScope sInvalidnumberInit) .none kVI dcI pmI anI cdI ctI), slI⟩)
    (cI : PySem.W.codeIn K cdI "InvalidNumber.__init__" = true)
    (kI : PySem.W.keepIn K (.ref fI) = true)
    (kN : PySem.W.keepIn K (.ref CN) = true)
    (eN : PySem.W.subIn K (.ref CN) (.type "BaseException") = some true)
    (tN : PySem.W.typeIn K (.ref CN) = some (.type "type"))
    (hN : PySem.W.hasDictIn K CN = true)
    (aT : PySem.W.nsIn K mainGlobals "InvalidText" = some (some (.ref CT)))
    (xT : PySem.W.excIn K CT [.type "ValueError", .type "Exception", .type "BaseException", .type "object"] "ValueError.__new__" = true)
    (kT : PySem.W.keepIn K (.ref CT) = true)
    (eT : PySem.W.subIn K (.ref CT) (.type "BaseException") = some true)
    (tT : PySem.W.typeIn K (.ref CT) = some (.type "type"))
    (aW : PySem.W.nsIn K mainGlobals "MAX_WIDTH" = some (some (.int 200 tW)))
    (a0 : PySem.W.nsIn K mainGlobals "is_number" = some (some (.ref f0)))
    (l0 : K.lookup f0 = some ⟨oc0, od0, .func (PySem.W.fnOf "is_number" "is_number" (defArgs sIsNumber) (defBody sIsNumber) (defScope sIsNumber) .none kV0 dc0 pm0 an0 cd0 ct0), sl0⟩)
    (c0 : PySem.W.codeIn K cd0 "is_number" = true)
    (k0 : PySem.W.keepIn K (.ref f0) = true)
    (a1 : PySem.W.nsIn K mainGlobals "check_number" = some (some (.ref f1)))
    (l1 : K.lookup f1 = some ⟨oc1, od1, .func (PySem.W.fnOf "check_number" "check_number" (defArgs sCheckNumber) (defBody sCheckNumber) (defScope sCheckNumber) .none kV1 dc1 pm1 an1 cd1 ct1), sl1⟩)
    (c1 : PySem.W.codeIn K cd1 "check_number" = true)
    (k1 : PySem.W.keepIn K (.ref f1) = true)
    (a2 : PySem.W.nsIn K mainGlobals "_check_letters" = some (some (.ref f2)))
    (l2 : K.lookup f2 = some ⟨oc2, od2, .func (PySem.W.fnOf "_check_letters" "_check_letters" (defArgs sCheckLetters) (defBody sCheckLetters) (defScope sCheckLetters) .none kV2 dc2 pm2 an2 cd2 ct2), sl2⟩)
    (c2 : PySem.W.codeIn K cd2 "_check_letters" = true)
    (k2 : PySem.W.keepIn K (.ref f2) = true)
    (a3 : PySem.W.nsIn K mainGlobals "is_text" = some (some (.ref f3)))
    (l3 : K.lookup f3 = some ⟨oc3, od3, .func (PySem.W.fnOf "is_text" "is_text" (defArgs sIsText) (defBody sIsText) (defScope sIsText) .none kV3 dc3 pm3 an3 cd3 ct3), sl3⟩)
    (c3 : PySem.W.codeIn K cd3 "is_text" = true)
    (k3 : PySem.W.keepIn K (.ref f3) = true)
    (a4 : PySem.W.nsIn K mainGlobals "check_text" = some (some (.ref f4)))
    (l4 : K.lookup f4 = some ⟨oc4, od4, .func (PySem.W.fnOf "check_text" "check_text" (defArgs sCheckText) (defBody sCheckText) (defScope sCheckText) .none kV4 dc4 pm4 an4 cd4 ct4), sl4⟩)
    (c4 : PySem.W.codeIn K cd4 "check_text" = true)
    (k4 : PySem.W.keepIn K (.ref f4) = true)
    (a5 : PySem.W.nsIn K mainGlobals "check_width" = some (some (.ref f5)))
    (l5 : K.lookup f5 = some ⟨oc5, od5, .func (PySem.W.fnOf "check_width" "check_width" (defArgs sCheckWidth) (defBody sCheckWidth) (defScope sCheckWidth) .none kV5 dc5 pm5 an5 cd5 ct5), sl5⟩)
    (c5 : PySem.W.codeIn K cd5 "check_width" = true)
    (k5 : PySem.W.keepIn K (.ref f5) = true)
    (a6 : PySem.W.nsIn K mainGlobals "texts_of" = some (some (.ref f6)))
    (l6 : K.lookup f6 = some ⟨oc6, od6, .func (PySem.W.fnOf "texts_of" "texts_of" (defArgs sTextsOf) (defBody sTextsOf) (defScope sTextsOf) .none kV6 dc6 pm6 an6 cd6 ct6), sl6⟩)
    (c6 : PySem.W.codeIn K cd6 "texts_of" = true)
    (k6 : PySem.W.keepIn K (.ref f6) = true)
    (a7 : PySem.W.nsIn K mainGlobals "comes_ahead" = some (some (.ref f7)))
    (l7 : K.lookup f7 = some ⟨oc7, od7, .func (PySem.W.fnOf "comes_ahead" "comes_ahead" (defArgs sComesAhead) (defBody sComesAhead) (defScope sComesAhead) .none kV7 dc7 pm7 an7 cd7 ct7), sl7⟩)
    (c7 : PySem.W.codeIn K cd7 "comes_ahead" = true)
    (k7 : PySem.W.keepIn K (.ref f7) = true)
    (a8 : PySem.W.nsIn K mainGlobals "_law_bag" = some (some (.ref f8)))
    (l8 : K.lookup f8 = some ⟨oc8, od8, .func (PySem.W.fnOf "_law_bag" "_law_bag" (defArgs sLbag) (defBody sLbag) (defScope sLbag) .none kV8 dc8 pm8 an8 cd8 ct8), sl8⟩)
    (c8 : PySem.W.codeIn K cd8 "_law_bag" = true)
    (k8 : PySem.W.keepIn K (.ref f8) = true)
    (a9 : PySem.W.nsIn K mainGlobals "_law_draw" = some (some (.ref f9)))
    (l9 : K.lookup f9 = some ⟨oc9, od9, .func (PySem.W.fnOf "_law_draw" "_law_draw" (defArgs sLdraw) (defBody sLdraw) (defScope sLdraw) .none kV9 dc9 pm9 an9 cd9 ct9), sl9⟩)
    (c9 : PySem.W.codeIn K cd9 "_law_draw" = true)
    (k9 : PySem.W.keepIn K (.ref f9) = true)
    (a10 : PySem.W.nsIn K mainGlobals "_law_one_of" = some (some (.ref f10)))
    (l10 : K.lookup f10 = some ⟨oc10, od10, .func (PySem.W.fnOf "_law_one_of" "_law_one_of" (defArgs sLoneOf) (defBody sLoneOf) (defScope sLoneOf) .none kV10 dc10 pm10 an10 cd10 ct10), sl10⟩)
    (c10 : PySem.W.codeIn K cd10 "_law_one_of" = true)
    (k10 : PySem.W.keepIn K (.ref f10) = true)
    (a11 : PySem.W.nsIn K mainGlobals "_law_text" = some (some (.ref f11)))
    (l11 : K.lookup f11 = some ⟨oc11, od11, .func (PySem.W.fnOf "_law_text" "_law_text" (defArgs sLtext) (defBody sLtext) (defScope sLtext) .none kV11 dc11 pm11 an11 cd11 ct11), sl11⟩)
    (c11 : PySem.W.codeIn K cd11 "_law_text" = true)
    (k11 : PySem.W.keepIn K (.ref f11) = true)
    (a12 : PySem.W.nsIn K mainGlobals "_law_texts" = some (some (.ref f12)))
    (l12 : K.lookup f12 = some ⟨oc12, od12, .func (PySem.W.fnOf "_law_texts" "_law_texts" (defArgs sLtexts) (defBody sLtexts) (defScope sLtexts) .none kV12 dc12 pm12 an12 cd12 ct12), sl12⟩)
    (c12 : PySem.W.codeIn K cd12 "_law_texts" = true)
    (k12 : PySem.W.keepIn K (.ref f12) = true)
    (a13 : PySem.W.nsIn K mainGlobals "_law_near_text" = some (some (.ref f13)))
    (l13 : K.lookup f13 = some ⟨oc13, od13, .func (PySem.W.fnOf "_law_near_text" "_law_near_text" (defArgs sLnearText) (defBody sLnearText) (defScope sLnearText) .none kV13 dc13 pm13 an13 cd13 ct13), sl13⟩)
    (c13 : PySem.W.codeIn K cd13 "_law_near_text" = true)
    (k13 : PySem.W.keepIn K (.ref f13) = true)
    (a14 : PySem.W.nsIn K mainGlobals "_law_are_texts" = some (some (.ref f14)))
    (l14 : K.lookup f14 = some ⟨oc14, od14, .func (PySem.W.fnOf "_law_are_texts" "_law_are_texts" (defArgs sLareTexts) (defBody sLareTexts) (defScope sLareTexts) .none kV14 dc14 pm14 an14 cd14 ct14), sl14⟩)
    (c14 : PySem.W.codeIn K cd14 "_law_are_texts" = true)
    (k14 : PySem.W.keepIn K (.ref f14) = true)
    (a15 : PySem.W.nsIn K mainGlobals "_law_are_all" = some (some (.ref f15)))
    (l15 : K.lookup f15 = some ⟨oc15, od15, .func (PySem.W.fnOf "_law_are_all" "_law_are_all" (defArgs sLareAll) (defBody sLareAll) (defScope sLareAll) .none kV15 dc15 pm15 an15 cd15 ct15), sl15⟩)
    (c15 : PySem.W.codeIn K cd15 "_law_are_all" = true)
    (k15 : PySem.W.keepIn K (.ref f15) = true)
    (a16 : PySem.W.nsIn K mainGlobals "_law_ahead" = some (some (.ref f16)))
    (l16 : K.lookup f16 = some ⟨oc16, od16, .func (PySem.W.fnOf "_law_ahead" "_law_ahead" (defArgs sLahead) (defBody sLahead) (defScope sLahead) .none kV16 dc16 pm16 an16 cd16 ct16), sl16⟩)
    (c16 : PySem.W.codeIn K cd16 "_law_ahead" = true)
    (k16 : PySem.W.keepIn K (.ref f16) = true)
    (a17 : PySem.W.nsIn K mainGlobals "_law_are_ordered" = some (some (.ref f17)))
    (l17 : K.lookup f17 = some ⟨oc17, od17, .func (PySem.W.fnOf "_law_are_ordered" "_law_are_ordered" (defArgs sLareOrdered) (defBody sLareOrdered) (defScope sLareOrdered) .none kV17 dc17 pm17 an17 cd17 ct17), sl17⟩)
    (c17 : PySem.W.codeIn K cd17 "_law_are_ordered" = true)
    (k17 : PySem.W.keepIn K (.ref f17) = true)
    (a18 : PySem.W.nsIn K mainGlobals "law" = some (some (.ref f18)))
    (l18 : K.lookup f18 = some ⟨oc18, od18, .func (PySem.W.fnOf "law" "law" (defArgs sLaw) (defBody sLaw) (defScope sLaw) .none kV18 dc18 pm18 an18 cd18 ct18), sl18⟩)
    (c18 : PySem.W.codeIn K cd18 "law" = true)
    (k18 : PySem.W.keepIn K (.ref f18) = true)
    (z0 : PySem.W.nsIn K mainGlobals "isinstance" = some none)
    (z1 : PySem.W.nsIn K mainGlobals "int" = some none)
    (z2 : PySem.W.nsIn K mainGlobals "bool" = some none)
    (z3 : PySem.W.nsIn K mainGlobals "str" = some none)
    (z4 : PySem.W.nsIn K mainGlobals "len" = some none)
    (z5 : PySem.W.nsIn K mainGlobals "list" = some none)
    (z6 : PySem.W.nsIn K mainGlobals "range" = some none)
    (z7 : PySem.W.nsIn K mainGlobals "sum" = some none)
    (z8 : PySem.W.nsIn K mainGlobals "abs" = some none)
    (z9 : PySem.W.nsIn K mainGlobals "max" = some none)
    (z10 : PySem.W.nsIn K mainGlobals "min" = some none)
    (z11 : PySem.W.nsIn K mainGlobals "repr" = some none)
    (z12 : PySem.W.nsIn K mainGlobals "zip" = some none)
    (z13 : PySem.W.nsIn K mainGlobals "tuple" = some none)
    : ∃ fd : FuncData, (∀ (s : Shared) (v : Value), BindsTo s fd ⟨[v], []⟩ [("_law_script", v)]) ∧ ∀ base : Heap, K.In base → base.Ns mainGlobals mg → FnQ P w K mg base CX0 16 fa fd ["_law_script"] (spLaw K) := by
  have e := hfa.symm.trans (PySem.W.mg_of X G a18)
  cases e
  have F0 := fun_mk (st := sIsNumber) l0 c0 k0
  have D0 : Dn K mg "is_number" sIsNumber ["value", "low", "high"] f0 _ := ⟨F0, PySem.W.mg_of X G a0, F0.binds (ps := ["value", "low", "high"]) fun _ _ _ _ _ _ us hl => match us, hl with | [_, _, _], _ => rfl⟩
  have F1 := fun_mk (st := sCheckNumber) l1 c1 k1
  have D1 : Dn K mg "check_number" sCheckNumber ["given", "low", "high"] f1 _ := ⟨F1, PySem.W.mg_of X G a1, F1.binds (ps := ["given", "low", "high"]) fun _ _ _ _ _ _ us hl => match us, hl with | [_, _, _], _ => rfl⟩
  have F2 := fun_mk (st := sCheckLetters) l2 c2 k2
  have D2 : Dn K mg "_check_letters" sCheckLetters ["letters"] f2 _ := ⟨F2, PySem.W.mg_of X G a2, F2.binds (ps := ["letters"]) fun _ _ _ _ _ _ us hl => match us, hl with | [_], _ => rfl⟩
  have F3 := fun_mk (st := sIsText) l3 c3 k3
  have D3 : Dn K mg "is_text" sIsText ["value", "letters"] f3 _ := ⟨F3, PySem.W.mg_of X G a3, F3.binds (ps := ["value", "letters"]) fun _ _ _ _ _ _ us hl => match us, hl with | [_, _], _ => rfl⟩
  have F4 := fun_mk (st := sCheckText) l4 c4 k4
  have D4 : Dn K mg "check_text" sCheckText ["text", "lines"] f4 _ := ⟨F4, PySem.W.mg_of X G a4, F4.binds (ps := ["text", "lines"]) fun _ _ _ _ _ _ us hl => match us, hl with | [_, _], _ => rfl⟩
  have F5 := fun_mk (st := sCheckWidth) l5 c5 k5
  have D5 : Dn K mg "check_width" sCheckWidth ["width"] f5 _ := ⟨F5, PySem.W.mg_of X G a5, F5.binds (ps := ["width"]) fun _ _ _ _ _ _ us hl => match us, hl with | [_], _ => rfl⟩
  have F6 := fun_mk (st := sTextsOf) l6 c6 k6
  have D6 : Dn K mg "texts_of" sTextsOf ["letters", "width"] f6 _ := ⟨F6, PySem.W.mg_of X G a6, F6.binds (ps := ["letters", "width"]) fun _ _ _ _ _ _ us hl => match us, hl with | [_, _], _ => rfl⟩
  have F7 := fun_mk (st := sComesAhead) l7 c7 k7
  have D7 : Dn K mg "comes_ahead" sComesAhead ["one", "other"] f7 _ := ⟨F7, PySem.W.mg_of X G a7, F7.binds (ps := ["one", "other"]) fun _ _ _ _ _ _ us hl => match us, hl with | [_, _], _ => rfl⟩
  have F8 := fun_mk (st := sLbag) l8 c8 k8
  have D8 : Dn K mg "_law_bag" sLbag ["_law_script", "_law_at"] f8 _ := ⟨F8, PySem.W.mg_of X G a8, F8.binds (ps := ["_law_script", "_law_at"]) fun _ _ _ _ _ _ us hl => match us, hl with | [_, _], _ => rfl⟩
  have F9 := fun_mk (st := sLdraw) l9 c9 k9
  have D9 : Dn K mg "_law_draw" sLdraw ["_law_bag_here", "_law_total"] f9 _ := ⟨F9, PySem.W.mg_of X G a9, F9.binds (ps := ["_law_bag_here", "_law_total"]) fun _ _ _ _ _ _ us hl => match us, hl with | [_, _], _ => rfl⟩
  have F10 := fun_mk (st := sLoneOf) l10 c10 k10
  have D10 : Dn K mg "_law_one_of" sLoneOf ["_law_bag_here", "_law_items"] f10 _ := ⟨F10, PySem.W.mg_of X G a10, F10.binds (ps := ["_law_bag_here", "_law_items"]) fun _ _ _ _ _ _ us hl => match us, hl with | [_, _], _ => rfl⟩
  have F11 := fun_mk (st := sLtext) l11 c11 k11
  have D11 : Dn K mg "_law_text" sLtext ["_law_bag_here", "_law_letters", "_law_width"] f11 _ := ⟨F11, PySem.W.mg_of X G a11, F11.binds (ps := ["_law_bag_here", "_law_letters", "_law_width"]) fun _ _ _ _ _ _ us hl => match us, hl with | [_, _, _], _ => rfl⟩
  have F12 := fun_mk (st := sLtexts) l12 c12 k12
  have D12 : Dn K mg "_law_texts" sLtexts ["_law_letters", "_law_width"] f12 _ := ⟨F12, PySem.W.mg_of X G a12, F12.binds (ps := ["_law_letters", "_law_width"]) fun _ _ _ _ _ _ us hl => match us, hl with | [_, _], _ => rfl⟩
  have F13 := fun_mk (st := sLnearText) l13 c13 k13
  have D13 : Dn K mg "_law_near_text" sLnearText ["_law_bag_here", "_law_letters"] f13 _ := ⟨F13, PySem.W.mg_of X G a13, F13.binds (ps := ["_law_bag_here", "_law_letters"]) fun _ _ _ _ _ _ us hl => match us, hl with | [_, _], _ => rfl⟩
  have F14 := fun_mk (st := sLareTexts) l14 c14 k14
  have D14 : Dn K mg "_law_are_texts" sLareTexts ["_law_bag_here", "_law_letters"] f14 _ := ⟨F14, PySem.W.mg_of X G a14, F14.binds (ps := ["_law_bag_here", "_law_letters"]) fun _ _ _ _ _ _ us hl => match us, hl with | [_, _], _ => rfl⟩
  have F15 := fun_mk (st := sLareAll) l15 c15 k15
  have D15 : Dn K mg "_law_are_all" sLareAll ["_law_bag_here", "_law_letters"] f15 _ := ⟨F15, PySem.W.mg_of X G a15, F15.binds (ps := ["_law_bag_here", "_law_letters"]) fun _ _ _ _ _ _ us hl => match us, hl with | [_, _], _ => rfl⟩
  have F16 := fun_mk (st := sLahead) l16 c16 k16
  have D16 : Dn K mg "_law_ahead" sLahead ["_law_one", "_law_other"] f16 _ := ⟨F16, PySem.W.mg_of X G a16, F16.binds (ps := ["_law_one", "_law_other"]) fun _ _ _ _ _ _ us hl => match us, hl with | [_, _], _ => rfl⟩
  have F17 := fun_mk (st := sLareOrdered) l17 c17 k17
  have D17 : Dn K mg "_law_are_ordered" sLareOrdered ["_law_bag_here"] f17 _ := ⟨F17, PySem.W.mg_of X G a17, F17.binds (ps := ["_law_bag_here"]) fun _ _ _ _ _ _ us hl => match us, hl with | [_], _ => rfl⟩
  have F18 := fun_mk (st := sLaw) l18 c18 k18
  have D18 : Dn K mg "law" sLaw ["_law_script"] _ _ := ⟨F18, PySem.W.mg_of X G a18, F18.binds (ps := ["_law_script"]) fun _ _ _ _ _ _ us hl => match us, hl with | [_], _ => rfl⟩
  have FI := fun_mk (st := sInvalidnumberInit) lI cI kI
  have IN : INum K mg CN fI _ := { T := { made := ⟨_, _, _, _, _, _, _, _, _, _, _, _, _, _, _, xN, xM⟩, fc := ⟨"IndexError", _, PySem.F.excBase_IndexError, by decide, by decide, by decide⟩, fs := PySem.F.store_IndexError, sa := saN, eb := eN, ty := tN, kp := kN, hd := hN }, g := PySem.W.mg_of X G aN, i := iN, t := tI, n := ngN, b := FI.binds (ps := ["self", "given"]) fun _ _ _ _ _ _ us hl => match us, hl with | [_, _], _ => rfl }
  have OT : OwnE K mg "InvalidText" CT := ⟨PySem.W.mg_of X G aT, xT, kT, eT, tT⟩
  have T : Bx mg := ⟨PySem.W.mg_none_of X G z0, PySem.W.mg_none_of X G z1, PySem.W.mg_none_of X G z2, PySem.W.mg_none_of X G z3, PySem.W.mg_none_of X G z4, PySem.W.mg_none_of X G z5, PySem.W.mg_none_of X G z6, PySem.W.mg_none_of X G z7, PySem.W.mg_none_of X G z8, PySem.W.mg_none_of X G z9, PySem.W.mg_none_of X G z10, PySem.W.mg_none_of X G z11, PySem.W.mg_none_of X G z12⟩
  have R : Er K mg CN CT fI _ := ⟨FI, IN, OT⟩
  have S : Ds K mg f0 f1 f2 f3 f4 f5 _ _ _ _ _ _ := ⟨D0, D1, D2, D3, D4, D5, ⟨tW, PySem.W.mg_of X G aW⟩⟩
  exact ⟨PySem.W.fnOf "law" "law" (defArgs sLaw) (defBody sLaw) (defScope sLaw) .none kV18 dc18 pm18 an18 cd18 ct18, fun s v => .of_eq rfl, fun base _ _ => okLaw D18 D8 D9 D10 D11 D12 D13 D14 D15 D16 D17 D6 D7 S T (PySem.W.mg_none_of X G z13) R⟩
end K01

open PySem PySem.W PyProof.Rows
set_option maxRecDepth 100000 in
set_option maxHeartbeats 0 in
theorem PySem.Challenge.cw_mayrows_k01_whole_texts_holds : PySem.Challenge.rw_mayrows_k01_whole_texts.Holds := by
  w_on; o_law; k_head; (case hw => w_witness2)
  k_fill
  refine Ks.walk_ofQ (l := PySem.Challenge.rw_mayrows_k01_whole_texts) (n := 63) (k := 16) (x := "_law_script") (CX := fun _ => L2.CX0) (sp := fun w => K01.spLaw _) rfl (by decide) rfl ⟨rfl, by decide, by decide⟩ (fun w h Y => PySem.W.kIn_of Y) ?F (fun _ _ a ns hl _ hS => ⟨a, ns, rfl, hS, fun _ => rfl⟩) (fun _ _ _ _ _ h => h)
  case F =>
    intro w mg fa h KX G hmg
    refine' K01.all_mk KX G hmg ?aN ?xN ?xM ?saN ?ngN ?iN ?tI ?lI ?cI ?kI ?kN ?eN ?tN ?hN ?aT ?xT ?kT ?eT ?tT ?aW ?a0 ?l0 ?c0 ?k0 ?a1 ?l1 ?c1 ?k1 ?a2 ?l2 ?c2 ?k2 ?a3 ?l3 ?c3 ?k3 ?a4 ?l4 ?c4 ?k4 ?a5 ?l5 ?c5 ?k5 ?a6 ?l6 ?c6 ?k6 ?a7 ?l7 ?c7 ?k7 ?a8 ?l8 ?c8 ?k8 ?a9 ?l9 ?c9 ?k9 ?a10 ?l10 ?c10 ?k10 ?a11 ?l11 ?c11 ?k11 ?a12 ?l12 ?c12 ?k12 ?a13 ?l13 ?c13 ?k13 ?a14 ?l14 ?c14 ?k14 ?a15 ?l15 ?c15 ?k15 ?a16 ?l16 ?c16 ?k16 ?a17 ?l17 ?c17 ?k17 ?a18 ?l18 ?c18 ?k18 ?z0 ?z1 ?z2 ?z3 ?z4 ?z5 ?z6 ?z7 ?z8 ?z9 ?z10 ?z11 ?z12 ?z13
    (case aN => k_is)
    (case xN => k_is)
    (case xM => decide +kernel)
    (case saN => k_is)
    (case ngN => k_is)
    (case iN => k_is)
    (case tI => k_is)
    (case lI => k_is)
    (case cI => k_is)
    (case kI => k_is)
    (case kN => k_is)
    (case eN => k_is)
    (case tN => k_is)
    (case hN => k_is)
    (case aT => k_is)
    (case xT => k_exc)
    (case kT => k_is)
    (case eT => k_is)
    (case tT => k_is)
    (case aW => k_is)
    (case a0 => k_is)
    (case l0 => k_is)
    (case c0 => k_is)
    (case k0 => k_is)
    (case a1 => k_is)
    (case l1 => k_is)
    (case c1 => k_is)
    (case k1 => k_is)
    (case a2 => k_is)
    (case l2 => k_is)
    (case c2 => k_is)
    (case k2 => k_is)
    (case a3 => k_is)
    (case l3 => k_is)
    (case c3 => k_is)
    (case k3 => k_is)
    (case a4 => k_is)
    (case l4 => k_is)
    (case c4 => k_is)
    (case k4 => k_is)
    (case a5 => k_is)
    (case l5 => k_is)
    (case c5 => k_is)
    (case k5 => k_is)
    (case a6 => k_is)
    (case l6 => k_is)
    (case c6 => k_is)
    (case k6 => k_is)
    (case a7 => k_is)
    (case l7 => k_is)
    (case c7 => k_is)
    (case k7 => k_is)
    (case a8 => k_is)
    (case l8 => k_is)
    (case c8 => k_is)
    (case k8 => k_is)
    (case a9 => k_is)
    (case l9 => k_is)
    (case c9 => k_is)
    (case k9 => k_is)
    (case a10 => k_is)
    (case l10 => k_is)
    (case c10 => k_is)
    (case k10 => k_is)
    (case a11 => k_is)
    (case l11 => k_is)
    (case c11 => k_is)
    (case k11 => k_is)
    (case a12 => k_is)
    (case l12 => k_is)
    (case c12 => k_is)
    (case k12 => k_is)
    (case a13 => k_is)
    (case l13 => k_is)
    (case c13 => k_is)
    (case k13 => k_is)
    (case a14 => k_is)
    (case l14 => k_is)
    (case c14 => k_is)
    (case k14 => k_is)
    (case a15 => k_is)
    (case l15 => k_is)
    (case c15 => k_is)
    (case k15 => k_is)
    (case a16 => k_is)
    (case l16 => k_is)
    (case c16 => k_is)
    (case k16 => k_is)
    (case a17 => k_is)
    (case l17 => k_is)
    (case c17 => k_is)
    (case k17 => k_is)
    (case a18 => k_is)
    (case l18 => k_is)
    (case c18 => k_is)
    (case k18 => k_is)
    (case z0 => k_is)
    (case z1 => k_is)
    (case z2 => k_is)
    (case z3 => k_is)
    (case z4 => k_is)
    (case z5 => k_is)
    (case z6 => k_is)
    (case z7 => k_is)
    (case z8 => k_is)
    (case z9 => k_is)
    (case z10 => k_is)
    (case z11 => k_is)
    (case z12 => k_is)
    (case z13 => k_is)
