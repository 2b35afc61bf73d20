import PyProof.Rows.All
import Wide.All
import OpenK.AllK
import Wide.FinOn
import HandS.ExcInit
import HandS.ForExc
import KE.KExcInit
import HandS.Exc
import HandS.ExcField
import HandS.TryMany
import PyProof.ReprReads
import PyProof.ReprRoads
import PyProof.CallFns
import HandS.Ends
import HandS.ForMost
import HandS.IsInst
import HandS.Wide
import HandS.StrMore
import HandS.Star
import HandS.Style
import Wide.Txt
import KE.GoesNew
import KE.GoesEnum
import HandS.Walk
import KE.LtData
import HandS.GenList
import HandS.TupAny
import HandS.TupMul
import HandS.Deep
import HandS.Zip
import HandS.WordsList
import HandS.Text
import PyProof.ListStr
import KE.KRevSl
import PyProof.StrBlock2
import HandS.Lambda
import PySem.Challenge.RW_mayrows_k66_whole_promises_and_names
set_option Elab.async false
set_option linter.all false
set_option maxRecDepth 100000
set_option maxHeartbeats 4000000
/-! Own classes over KeyError: it is LookupError that makes them. -/
namespace Ks
open PySem PySem.Spec PySem.F HandSPX Builtin Builtin.ObjectAttr
abbrev keyB : List Value := [.type "KeyError", .type "LookupError", .type "Exception", .type "BaseException", .type "object"]
theorem storeKey : StoreFacts "KeyError" keyB "object.__setattr__" "object" := by
  refine { mro := ?mro, slot := ?slot, entry := entry_object_sa, kind := ?kind, split := ?split, hasOwner := ?hasOwner, args := ?args, passes := ?passes }
  case mro => kernel_rfl
  case slot =>
    refine .of (owner := "object") (n := "__setattr__") ?_ ?_ ?_ ?_ ?_ ?_
    · rw [typeLookup_type, builtinLookup_eq_fast]; kernel_rfl
    · decide +kernel
    · decide +kernel
    · decide +kernel
    · first | exact .inl (by decide +kernel) | exact .inr (by decide +kernel)
    · rw [isSubtype_type]; kernel_rfl
  case kind => decide +kernel
  case split => decide +kernel
  case hasOwner => decide +kernel
  case args => exact fun a b c => by unfold argsOk; kernel_rfl
  case passes => exact fun self => by kernel_rfl
section
variable {M : Model} {A : Around} {E : Value → Shared → Prop} {h : Heap} {g : Array GenState} {d : Drawn} {t : Nat} {os : OsState}
variable {nm q : Str} {C N : Addr} {bs bm bmB : List Value} {hdct : Bool} {sn : List Str} {sub : List Value} {ab : Bool} {col : Option Bool} {dd : Option Addr} {k0 k1 k2 k3 k5 : Option Value} {B O newId initId : String}
/-- a class of errors whose maker stands at an elder one, whose facts are told for the elder one's own ancestors -/
theorem check_elder {bmO : List Value} (F : ExcBaseFacts O newId initId bmO) (hO : bm.contains (.type O) = true) {rest : List Value} {Q : Unit → Shared → Prop}
    (hC : h.get? C = some (excClassObj nm q C N bs bm hdct sn sub ab col dd k0 k1 k2 k3 k5 newId)) (hq : Q () ⟨h, g, d, t, os⟩) : wpAny M A (checkBuiltinCall newId ⟨.ref C :: rest, []⟩) Q E ⟨h, g, d, t, os⟩ := by
  have isO : (Value.ref C :: bm).contains (.type O) = true := by rw [List.contains_cons, hO, Bool.or_true]
  have quick := F.noStar
  simp only [checkBuiltinCall, F.newKind, F.newSplit, F.newRow]
  repeat first
    | (refine wpAny_loadPart_at hC ?_)
    | (refine wpAny_isSubtype_exc hC ?_; rw [isO])
    | (refine wpAny_staticBase_exc hC ?_)
    | (refine wpAny_madeBy_exc hC ?_)
    | (simp only [bne_self_eq_false, Bool.false_eq_true, if_false])
    | wp_step
  exact hq
end
section
variable {prog : Program} {w : World} {A : Around} {E : Value → Shared → Prop} {R : Result → Shared → Prop} {h : Heap} {g : Array GenState} {d : Drawn} {t : Nat} {os : OsState}
variable {nm q : Str} {C N : Addr} {bs bm bmO : List Value} {hdct : Bool} {sn : List Str} {sub : List Value} {ab : Bool} {col : Option Bool} {dd : Option Addr} {k0 k1 k2 k3 k5 : Option Value} {O newId initId : String}
theorem new_elder (F : ExcBaseFacts O newId initId bmO) (hO : bm.contains (.type O) = true) (nA : bm.contains (.type "AttributeError") = false) (nN : bm.contains (.type "NameError") = false) {rest : List Value}
    (hC : h.get? C = some (excClassObj nm q C N bs bm hdct sn sub ab col dd k0 k1 k2 k3 k5 newId))
    (hq : R (.ok (.ret (.ref (h.objs.size + 1)))) ⟨(h.push (W.kdv_tup rest)).push (excO C h.objs.size), g, d, t, os⟩) (hrest : rest.length ≤ sizeLine) :
    codeAny (model prog w) A (.builtin newId ⟨.ref C :: rest, []⟩) R ⟨h, g, d, t, os⟩ := by
  have last := F.ends
  have isO : (Value.ref C :: bm).contains (.type O) = true := by rw [List.contains_cons, hO, Bool.or_true]
  have isA : (Value.ref C :: bm).contains (.type "AttributeError") = false := by rw [List.contains_cons, nA] <;> rfl
  have isN : (Value.ref C :: bm).contains (.type "NameError") = false := by rw [List.contains_cons, nN] <;> rfl
  refine codeAny_builtinAt F.entry ?_
  unfold Builtin.«BaseException.__new__»
  refine wpAt_bind ?_
  show wpAt _ _ _ (stack >>= _) _ _ _
  refine wpAt_bind (wpAt_stack fun here under => wpAt_of_wpAny ?_)
  wp_walk
  refine wpAt_of_wpAny ?_
  rw [F.owner]
  repeat first
    | (with_reducible refine wpAny_madeHere_exc F.canon hC ?_)
    | (with_reducible refine wpAny_loadPart_at hC ?_)
    | (with_reducible refine wpAny_isSubtype_exc hC ?_; first | rw [isO] | rw [isA] | rw [isN])
    | wp_step
  show R _ _
  rw [Heap.size_push]
  exact hq
theorem type_elder (F : ExcBaseFacts O newId initId bmO) (hO : bm.contains (.type O) = true) (nA : bm.contains (.type "AttributeError") = false) (nN : bm.contains (.type "NameError") = false) {rest : List Value} {fI : Addr} {Q : PySem.Fin → Shared → Prop}
    (hC : h.get? C = some (excClassObj nm q C N bs bm hdct sn sub ab col dd k0 k1 k2 k3 k5 newId))
    (hi : W.Looks (model prog w) h (typeLookup (.ref C) "__init__") (some (.ref fI))) (hb : ∀ self, W.Looks (model prog w) h (bindSpecial (.ref fI) self) (.ref fI, [self])) (hrest : rest.length ≤ sizeLine)
    (hq : codeAny (model prog w) A (.call (.ref fI) ⟨.ref (h.objs.size + 1) :: rest, []⟩)
      (fun r s' => match r with | .ok (.ret v) => v = .none ∧ Q (.done (.ret (.ref (h.objs.size + 1)))) s' | .ok _ => False | .error e => E e s')
      ⟨(h.push (W.kdv_tup rest)).push (excO C h.objs.size), g, d, t, os⟩) :
    wpAny (model prog w) A (Builtin.«type.__call__» ⟨.ref C :: rest, []⟩) Q E ⟨h, g, d, t, os⟩ := by
  repeat first
    | (with_reducible refine wpAny_loadPart_at hC ?_)
    | (with_reducible refine wpAny_madeBy_exc hC ?_)
    | wp_step
  refine codeAny_call_builtin_code (Code.quiet_builtin _ F.quiet) (check_elder F hO hC ?_)
  refine new_elder F hO nA nN hC ?_ hrest
  show wpAny _ _ _ _ _ _
  have keep : ∀ b o, h.get? b = some o → ((h.push (W.kdv_tup rest)).push (excO C h.objs.size)).get? b = some o := fun b o e => Heap.get?_push_of_some _ (Heap.get?_push_of_some _ e)
  have hC2 := keep _ _ hC
  have made : ((h.push (W.kdv_tup rest)).push (excO C h.objs.size)).get? (h.objs.size + 1) = some (excO C h.objs.size) := by heap_get
  have isC : (Value.ref C :: bm).contains (.ref C) = true := by simp
  have i2 := hi.keeps keep
  have b2 := (hb (.ref (h.objs.size + 1))).keeps keep
  unfold isInstance
  repeat first
    | (with_reducible refine wpAny_loadPart_at made ?_)
    | (with_reducible refine wpAny_isSubtype_exc hC2 ?_; rw [isC])
    | wp_step
  show wpAny _ _ (typeLookup (.ref C) _) _ _ _
  refine i2.at ?_
  refine wpAny_holding (wpAny_bind (b2.at ?_))
  refine wpAny_bind (wpAny_call (codeAny_mono hq fun r s' z => ?_))
  rcases r with e | (v | _ | _ | _) <;> first | exact z | exact z.elim | skip
  obtain ⟨rfl, z⟩ := z
  first
    | exact wpAny_pure (wpAny_pure z)
    | (wp_walk; exact z)
theorem call_elder (F : ExcBaseFacts O newId initId bmO) (hO : bm.contains (.type O) = true) (nA : bm.contains (.type "AttributeError") = false) (nN : bm.contains (.type "NameError") = false) {rest : List Value} {fI : Addr}
    (hC : h.get? C = some (excClassObj nm q C N bs bm hdct sn sub ab col dd k0 k1 k2 k3 k5 newId))
    (hi : W.Looks (model prog w) h (typeLookup (.ref C) "__init__") (some (.ref fI))) (hb : ∀ self, W.Looks (model prog w) h (bindSpecial (.ref fI) self) (.ref fI, [self])) (hrest : rest.length ≤ sizeLine)
    (hq : codeAny (model prog w) (A.under (.builtin "type.__call__" ⟨.ref C :: rest, []⟩)) (.call (.ref fI) ⟨.ref (h.objs.size + 1) :: rest, []⟩) (W.InitBack (h.objs.size + 1) R)
      ⟨(h.push (W.kdv_tup rest)).push (excO C h.objs.size), g, d, t, os⟩) :
    codeAny (model prog w) A (.call (.ref C) ⟨rest, []⟩) R ⟨h, g, d, t, os⟩ := by
  have look := tc_lookup
  have bound := tc_bind (.ref C)
  have isT : (⟨h, g, d, t, os⟩ : Shared).TypeIs (.ref C) "type" := ⟨_, hC, rfl⟩
  refine codeAny_of_tree ?_
  show wpAny _ _ (callAny (.ref C) _) _ _ _
  repeat any_goals first
    | assumption
    | (with_reducible refine wpAny_loadPart_at hC ?_)
    | wp_step
  refine ⟨rfl, ?_⟩
  refine codeAny_call_builtin_at (Code.quiet_builtin _ (by decide +kernel)) entry_typeCall (wpAny_check_type_call_sub hC (type_elder F hO nA nN hC hi hb hrest ?_))
  refine codeAny_mono hq fun r s' z => ?_
  rcases r with e | (v | _ | _ | _) <;> exact z
end
end Ks

/-! Own exception classes over any built-in base, whose __init__ keeps one value. -/
namespace Ks
open PySem PySem.Spec PyProof.Rows L2
open PySem.W (excOver takerIn excTail osa_openX)

/-- what is known of such a class -/
structure ECls (K : PySem.W.Frag) (C : Addr) (B : String) (bmB : List Value) (newId initId : String) : Prop where
  made : ∃ nm q N bs bm sn sub ab col dd k0 k1 k2 k3 k5, K.lookup C = some (excClassObj nm q C N bs bm true sn sub ab col dd k0 k1 k2 k3 k5 newId) ∧ excTail bmB bm = true
  fc : ∃ O bmO, ExcBaseFacts O newId initId bmO ∧ bmB.contains (.type O) = true ∧ bmB.contains (.type "AttributeError") = false ∧ bmB.contains (.type "NameError") = false
  fs : StoreFacts B bmB "object.__setattr__" "object"
  sa : PySem.W.findIn K (.ref C) "__setattr__" = some (some (.builtin "object.__setattr__"))
  eb : PySem.W.subIn K (.ref C) (.type "BaseException") = some true
  ty : PySem.W.typeIn K (.ref C) = some (.type "type")
  kp : PySem.W.keepIn K (.ref C) = true
  hd : PySem.W.hasDictIn K C = true

theorem ECls.over {K : PySem.W.Frag} {C : Addr} {B : String} {bmB : List Value} {newId initId : String} (T : ECls K C B bmB newId initId) : excOver K C bmB = true := by
  obtain ⟨nm, q, N, bs, bm, sn, sub, ab, col, dd, k0, k1, k2, k3, k5, hC, ht⟩ := T.made
  unfold excOver PySem.W.clsIn
  rw [hC]
  show (C == C && excTail bmB bm) = true
  rw [ht, Bool.and_true]
  exact beq_self_eq_true C

theorem taker_none {K : PySem.W.Frag} {C : Addr} {f : Str} (h : PySem.W.findIn K (.ref C) f = some none) : takerIn K C f = some none := by
  unfold takerIn
  rw [h]
  rfl

section
variable {prog : Program} {w : World} {A : Around} {R : Result → Shared → Prop} {s : Shared} {K : PySem.W.Frag} {C x t : Addr} {B newId initId : String} {bmB : List Value}
/-- the first field of a fresh exception -/
theorem first_field {name : Str} {tk : Tok} {v : Value} (T : ECls K C B bmB newId initId) (X : K.In s.heap) (hx : s.heap.get? x = some (PySem.W.excObj C t none .none)) (hf : PySem.W.findIn K (.ref C) name = some none)
    (hq : ∀ h' tk' dx, (∀ b o, b ≠ x → s.heap.get? b = some o → h'.get? b = some o) → s.heap.objs.size ≤ dx → dx ≠ x → h'.get? x = some (PySem.W.excObj C t (some dx) .none) →
      h'.Ns1 dx (fun y => if y = name then some v else none) → R (.ok (.ret .none)) { s with heap := h', toks := tk' }) :
    codeAny (model prog w) A (.call (.builtin "object.__setattr__") ⟨[.ref x, .str name tk, v], []⟩) R s := by
  have lt := Heap.lt_size hx
  have ne : x ≠ s.heap.objs.size := Nat.ne_of_lt lt
  refine osa_openX (od := none) (r := none) T.fs X ⟨hx, rfl, rfl, trivial⟩ T.over (taker_none hf) fun b => ?_
  obtain ⟨cd, hc, hd'⟩ := PySem.W.any_some T.hd
  refine wpAny_bind (wpAny_pure (wpAny_bind (PySem.W.instanceDict_exc hx (PySem.W.looks_clsIn X hc) hd' ?_)))
  show wpAny _ _ (Builtin.ObjectAttr.storeInDict s.heap.objs.size (.str name tk) name v) _ _ _
  have hx1 : (s.heap.push (PySem.W.dictOf [] 0)).get? x = some (PySem.W.excObj C t none .none) := Heap.get?_push_of_some _ hx
  have hx2 : ((s.heap.push (PySem.W.dictOf [] 0)).update x fun o => { o with dict := some s.heap.objs.size }).get? x = some (PySem.W.excObj C t (some s.heap.objs.size) .none) := Heap.get?_update_self _ hx1 rfl
  refine HandSPX.store_in_new ?_ ?_
  · refine ⟨_, #[], _, (Heap.get?_update_ne _ _ _ _ (Ne.symm ne)).trans (Heap.get?_push_size _ rfl), rfl, ?_⟩
    exact ⟨fun e he => absurd he (by simp), fun _ => rfl⟩
  · intro h' tk' hn sb
    refine hq h' tk' s.heap.objs.size (fun b o hb ho => ?_) (Nat.le_refl _) (Ne.symm ne) ((sb.2 x ne).trans hx2) hn
    have hbs : b ≠ s.heap.objs.size := Nat.ne_of_lt (Heap.lt_size ho)
    exact (sb.2 b hbs).trans ((Heap.get?_update_ne _ _ _ _ hb).trans (Heap.get?_push_of_some _ ho))
end
end Ks

namespace Ks
open PySem PySem.Spec L2
open PyProof.Rows hiding St

section
variable {X : Cx} {C : Addr} {B newId initId : String} {bmB : List Value} {f : Str}
/-- self.f = e within such an __init__ -/
def tKeep (C : Addr) (f : Str) (to te : TE) : TS := fun D σ H => te σ H fun y H1 => to σ H1 fun x H2 => ∃ a, x = .ref a ∧ H2 a = some (exo a C none) ∧
  ∀ dx, H2 dx = none → dx ≠ a → D.nx σ (upd (upd H2 dx (exd dx [(f, y)])) a (exo a C (some dx)))

theorem keep_inv {pins : List (Addr × Obj)} {σ : St} {H : Hp} {s : Shared} {a : Addr} {y : V} {u : Value} {Q : Unit → Shared → Prop} {E : Value → Shared → Prop} {A : Around} (T : ECls X.K C B bmB newId initId) (I : Inv X pins σ H s)
    (ea : H a = some (exo a C none)) (hno : PySem.W.findIn X.K (.ref C) f = some none) (ry : RelV y u)
    (go : ∀ dx s', H dx = none → dx ≠ a → Inv X pins σ (upd (upd H dx (exd dx [(f, y)])) a (exo a C (some dx))) s' → Q () s') :
    wpAny (model X.prog X.w) A (setAttr (.ref a) f u) Q E s := by
  obtain ⟨t1, ho⟩ := exo_at I.hok ea
  refine PySem.W.set_plain I.kIn (ox := PySem.W.excObj C t1 none .none) (od := none) ⟨ho, rfl, rfl, trivial⟩ T.sa ?_
  refine first_field T I.kIn ho hno (fun h' tk dx keep fresh ne ex ns => ?_)
  have free := I.hok.fresh fresh
  have old : ∀ {b : Addr} {o : Obj}, s.heap.get? b = some o → b ≠ dx := fun {b o} q => Nat.ne_of_lt (Nat.lt_of_lt_of_le (Heap.lt_size q) fresh)
  have off : ∀ {b : Addr}, H b = none → b ≠ a := fun {b} n z => by
    subst z
    rw [ea] at n
    exact nomatch n
  have U : Un X.fs [] H (upd (upd H dx (exd dx [(f, y)])) a (exo a C (some dx))) s.heap h' := by
    refine ⟨fun b o q n _ _ => keep b o (off n) q, fun b o q n _ _ => ⟨o.slots, keep b o (off n) q⟩, fun b o q n _ => ?_, fun b o q _ => ?_, fun b xs q => ?_, fun b o v q => ?_, fun b ps q => ?_⟩
    · rw [upd_ne (off n), upd_ne (old q)]
      exact n
    · by_cases hb : b = a
      · subst hb
        exact ⟨_, ex⟩
      · exact ⟨o, keep b o hb q⟩
    · rw [upd_ne (at_ne ea q exo_tup), upd_ne (ne_of_none q free)]
      exact q
    · rw [upd_ne (at_ne ea q exo_frz), upd_ne (ne_of_none q free)]
      exact q
    · refine ⟨#[], ?_⟩
      rw [upd_ne (at_ne ea q exo_tbl), upd_ne (ne_of_none q free), q]
      simp
  refine go dx _ free ne (I.un (t' := tk) U fun b o q => ?_)
  by_cases hb : b = a
  · subst hb
    rw [upd_same] at q
    cases q
    exact exo_ok ex
  · rw [upd_ne hb] at q
    by_cases hd : b = dx
    · subst hd
      rw [upd_same] at q
      cases q
      exact exd_ok ns (relO_put (fs := []) ry fun _ => True.intro)
    · rw [upd_ne hd] at q
      have na : ∀ {c : Addr}, H c = some (.own b) → c ≠ a := fun {c} hc => at_ne ea hc exo_own
      refine (I.hok b o q).stay (fun c v hc z => keep c v ?_ z) (fun c hc => ?_) (fun c xs hc => ?_)
      · rcases hc with rfl | hc
        · exact hb
        · exact na hc
      · rw [upd_ne (na hc), upd_ne (ne_of_none hc free)]
        exact hc
      · rw [upd_ne (at_ne ea hc exo_tup), upd_ne (ne_of_none hc free)]
        exact hc

theorem ps_keep {o e : Expr} {to te : TE} {p' pos : Pos} (T : ECls X.K C B bmB newId initId) (hno : PySem.W.findIn X.K (.ref C) f = some none) (ho : PE X o to) (he : PE X e te)
    (hs : swapsWith e (some (.Attribute o f p')) pos.line X.env = pure false := by rfl) : PS X (.Assign [.Attribute o f p'] e pos) (tKeep C f to te) := by
  constructor
  intro pins s σ H D I h
  refine plainObj_wpAny_Assign_Attribute (thn (he.run pins s σ H _ I h) ?_) hs
  rintro v s1 ⟨y, H1, I1, r1, q1⟩
  refine thn (ho.run pins s1 σ H1 _ I1 q1) ?_
  rintro u s2 ⟨x, H2, I2, r2, a, ex, ea, q⟩
  subst ex
  cases (show u = Value.ref a from r2)
  exact keep_inv T I2 ea hno r1 fun dx s' n ne J => ⟨σ, _, J, q dx n ne⟩

/-- the promise of such an __init__ -/
def spKeep (C : Addr) (f : Str) : Sp := fun vs H Q _ => ∃ a y, vs = [.ref a, y] ∧ H a = some (exo a C none) ∧ ∀ dx, H dx = none → dx ≠ a → Q .non (upd (upd H dx (exd dx [(f, y)])) a (exo a C (some dx)))

/-- C(e): an exception that keeps e's value -/
def tMade (C : Addr) (f : Str) (ta : TA) : St → Hp → XK → Prop := fun σ H Q => ta σ H fun vs H1 => ∃ y, vs = [y] ∧ ∀ d, H1 d = none → Q (.ref C) (some d) (upd H1 d (.xd [(f, y)]))

theorem gone_eq {H : Hp} {a d : Addr} {u v w : HO} {z : HO} (ha : H a = none) (hd : d ≠ a) : upd (del (upd (upd (upd H a z) d u) a v) a) d w = upd H d w := by
  funext b
  by_cases h1 : b = d
  · rw [h1, upd_same, upd_same]
  · rw [upd_ne h1, upd_ne h1]
    by_cases h2 : b = a
    · rw [h2, del_same, ha]
    · rw [del_ne h2, upd_ne h2, upd_ne h1, upd_ne h2]

theorem pmk_keep {CX : CXT} {x : Str} {fI : Addr} {k : Nat} {fd : FuncData} {ps : List Str} {e : Expr} {ta : TA} {p pos : Pos} (T : ECls X.K C B bmB newId initId) (iC : PySem.W.findIn X.K (.ref C) "__init__" = some (some (.ref fI)))
    (tI : PySem.W.typeIn X.K (.ref fI) = some (.type "function")) (F1 : FnOk X.prog X.w X.K X.mg X.base CX k fI fd ps (spKeep C f)) (hr : Room (k + 1) X.A) (hb : Binds X.K fd ps []) (hx : Passes CX X (fun _ _ _ => False))
    (hg : Gl X x) (hm : X.mg x = some (.ref C)) (ha : PA X [e] ta) (hdb : (x == ("__debug__" : Str)) = false := by decide)
    (hst : starEach [e] X.env = (false, eval e X.env) :: starEach [] X.env := by rfl) (hpl : (backTo pos (starEach [] X.env)).any (·.1) = false := by rfl) :
    PMk X (.Call (.Name x p) [e] [] pos) (tMade C f ta) := by
  intro pins s σ H Q I h
  obtain ⟨nm, q, N, bs, bm, sn, sub, ab, col, dd, k0, k1, k2, k3, k5, hC, ht⟩ := T.made
  have hT : ∀ Y : String, bm.contains (.type Y) = bmB.contains (.type Y) := fun Y => PySem.W.excTail_contains Y bm ht
  refine wpAny_Call_Name_kw (ld_glob I hg hm ?_ hdb)
  refine PySem.W.callWith_K (h₀ := X.base) I.ok.mod.kin T.kp (thn (ha.run pos pins s σ H _ I h) ?_) hst hpl
  rintro us s1 ⟨vs, H1, I1, r1, y, ev, q1⟩
  subst ev
  refine ⟨I1.kIn, ?_⟩
  show wpAny _ _ (call (.ref C) us) _ _ _
  obtain ⟨hp, g, dr, tk, os⟩ := s1
  have sz : hp.objs.size ≤ hp.objs.size + 1 := Nat.le_succ _
  have hn : H1 (hp.objs.size + 1) = none := I1.hok.fresh sz
  have kk : ∀ b o, hp.get? b = some o → ((hp.push (PySem.W.kdv_tup us)).push (HandSPX.excO C hp.objs.size)).get? b = some o := fun b o e => Heap.get?_push_of_some _ (Heap.get?_push_of_some _ e)
  have at1 : ((hp.push (PySem.W.kdv_tup us)).push (HandSPX.excO C hp.objs.size)).get? (hp.objs.size + 1) = some (HandSPX.excO C hp.objs.size) := by heap_get
  have I2 := I1.laid (t' := tk) (a := hp.objs.size + 1) (o := exo (hp.objs.size + 1) C none) (h' := (hp.push (PySem.W.kdv_tup us)).push (HandSPX.excO C hp.objs.size)) kk sz (exo_ok at1)
  have r2 : Vals [V.ref (hp.objs.size + 1), y] (Value.ref (hp.objs.size + 1) :: us) := .cons rfl r1
  have hsp : spKeep C f [V.ref (hp.objs.size + 1), y] (upd H1 (hp.objs.size + 1) (exo (hp.objs.size + 1) C none))
      (fun v H2 => v = .non ∧ ∃ d, H2 (hp.objs.size + 1) = some (exo (hp.objs.size + 1) C (some d)) ∧ H2 d = some (exd d [(f, y)]) ∧ H1 d = none ∧ Q (.ref C) (some d) (upd (del H2 (hp.objs.size + 1)) d (.xd [(f, y)]))) (fun _ _ _ => False) := by
    refine ⟨_, y, rfl, upd_same, fun d hd ne => ⟨rfl, d, upd_same, ?_, ?_, ?_⟩⟩
    · rw [upd_ne ne, upd_same]
    · rw [upd_ne ne] at hd
      exact hd
    · rw [gone_eq hn ne]
      refine q1 d ?_
      rw [upd_ne ne] at hd
      exact hd
  have hl : (Value.ref (hp.objs.size + 1) :: us).length = ps.length := by
    rw [← F1.len _ _ _ _ hsp, ← r2.length]
  have us1 : us.length ≤ sizeLine := by
    rw [← Paired.length r1, sizeLine_eq]
    exact (by decide : 1 ≤ 16777216)
  have bb := hb _ (Value.ref (hp.objs.size + 1) :: us) I2.kIn (by rw [List.append_nil]; exact hl)
  rw [List.append_nil] at bb
  obtain ⟨O, bmO, fc, hO, nA, nN⟩ := T.fc
  refine wpAny_call (call_elder fc ((hT O).trans hO) ((hT _).trans nA) ((hT _).trans nN) (I1.kIn _ _ hC) (PySem.W.looks_findIn I1.kIn iC) (fun self => PySem.W.bind_fn I1.kIn self tI) us1
    (codeAny_mono (F1.run _ X.stack _ _ ⟨Value.ref (hp.objs.size + 1) :: us, []⟩ (Value.ref (hp.objs.size + 1) :: us) _ _ (fun _ _ _ => False) (hr.make C us []) (I2.env0.make C us []) bb r2 hsp) fun r s' hq => ?_))
  cases r with
  | error er => exact hx pins σ _ _ er s' I2 hq
  | ok fl =>
    cases fl with
    | next => exact hq.elim
    | brk => exact hq.elim
    | cont => exact hq.elim
    | ret u =>
      obtain ⟨v, H2, o2, b2, un2, hok2, rv, ev, d, ea, ed, hd1, q2⟩ := hq
      subst ev
      obtain ⟨h2, g2, d2, t2, o3⟩ := s'
      exact ⟨rv, mk_end (raises_own T.eb T.ty) I1 sz kk un2 hok2 o2 b2 ea ed hd1 q2⟩
end
end Ks

/-! try with several clauses, each with a name or without one. -/
namespace Ks
open PySem PySem.Spec L2
open PyProof.Rows hiding St

/-- behind a clause with a name the slot is empty -/
def endsAs (i : Nat) (D : Ends) : Ends := { nx := fun σ' H' => D.nx (σ'.set i none) H', rt := D.rt, bk := fun σ' H' => D.bk (σ'.set i none) H', ct := fun σ' H' => D.ct (σ'.set i none) H' }
/-- a clause: its class, the slot of its name, its suite -/
structure Clause where
  cls : Value
  slot : Option Nat
  suite : Addr → Value → Option Addr → TS
def Clause.wish (k : Clause) (a : Addr) (cls : Value) (d : Option Addr) (D : Ends) (σ : St) (H : Hp) : Prop := match k.slot with
  | none => k.suite a cls d D σ H
  | some i => k.suite a cls d (endsAs i D) (σ.set i (some (.ref a))) H
def wCatch (K : PySem.W.Frag) (Wout : WX) (D : Ends) : List Clause → WX
  | [] => Wout
  | k :: r => fun cls d σ H => ∃ b, PySem.W.exmOne K cls k.cls = some b ∧ (b = true → ∀ a, H a = none → k.wish a cls d D σ H) ∧ (b = false → wCatch K Wout D r cls d σ H)

inductive ClausesOk (X : Cx) : List ExceptHandler → List Clause → Prop
  | nil : ClausesOk X [] []
  | bare {x : Str} {c : Value} {ts : Addr → Value → Option Addr → TS} {b : Stmt} {bs : List Stmt} {np pp : Pos} {hs : List ExceptHandler} {l : List Clause} (nm : Names X x c)
      (su : ∀ (a : Addr) (oe : Obj) (cls : Value) (d : Option Addr) (pn : List (Addr × Obj)), Zc cls d oe → (∃ vs, oe.data = .fields vs) → PSs (X.suite a ((a, oe) :: pn)) (b :: bs) (ts a cls d))
      (more : ClausesOk X hs l) : ClausesOk X (.ExceptHandler (some (.Name x np)) none (b :: bs) pp :: hs) (⟨c, none, ts⟩ :: l)
  | named {x n : Str} {i : Nat} {c : Value} {ts : Addr → Value → Option Addr → TS} {b : Stmt} {bs : List Stmt} {np pp : Pos} {hs : List ExceptHandler} {l : List Clause} (nm : Names X x c)
      (hi : X.N[i]? = some n) (loc : X.env.kindOf n = some .local)
      (su : ∀ (a : Addr) (oe : Obj) (cls : Value) (d : Option Addr) (pn : List (Addr × Obj)), Zc cls d oe → (∃ vs, oe.data = .fields vs) → PSs (X.suite a ((a, oe) :: pn)) (b :: bs) (ts a cls d))
      (more : ClausesOk X hs l) : ClausesOk X (.ExceptHandler (some (.Name x np)) (some n) (b :: bs) pp :: hs) (⟨c, some i, ts⟩ :: l)

section
variable {X : Cx} {body : List Stmt} {h0 : ExceptHandler} {hr : List ExceptHandler} {l : List Clause} {pos : Pos} {tb : WX → TS} {Wout : WX}
theorem ps_catch (stk : X.stack = X.env :: X.outer) (fra : X.env.frame = some X.env.locals) (nd : X.N.Nodup) (tk : Takes X Wout)
    (hb : ∀ (W : WX) (pn : List (Addr × Obj)) (xe : Value → Shared → Prop), Takes (X.tr pn xe) W → PassesOwn (model X.prog X.w) X.A X.env xe → PSs (X.tr pn xe) body (tb W))
    (hk : ClausesOk X (h0 :: hr) l) : PS X (.Try body (h0 :: hr) [] [] pos) (fun D σ H => tb (wCatch X.K Wout D l) D σ H) := by
  constructor
  intro pins s σ H D I h
  have ok := I.ok
  have frs1 : X.A.frames = some (X.env :: X.outer) := by rw [ok.frames, stk]
  refine wpAny_Try_except ?_
  let xe1 : Value → Shared → Prop := fun e z1 => wpAny (model X.prog X.w) X.A (noteFrame e X.env) (fun _ z2 => wpAny (model X.prog X.w) X.A (setFlight e none) (fun _ z3 =>
    wpAny (model X.prog X.w) X.A (handleBy e X.env (h0 :: hr)) (SP X pins D) X.xe z3) X.xe z2) X.xe z1
  refine wpAny_mono ((hb (wCatch X.K Wout D l) (X.pn ++ pins) xe1 ?_ PassesOwn.looking).run [] s σ H D (I.toTry _) h) (fun f s1 hsp => ?_) (fun _ _ he => he)
  · intro u s' xx
    obtain ⟨a, B0, sI, pins1, σ1, H1, cls, d, rfl, J0, nb, up, sky, na, os, ag, w⟩ := xx
    have J : Inv X pins σ1 H1 sI := J0.ofTry ok
    rw [show (X.tr (X.pn ++ pins) xe1).stack = X.env :: X.outer from stk] at sky
    show wpAny (model X.prog X.w) X.A (noteFrame (.ref a) X.env) _ _ _
    refine Sky.land Zc.steady frs1 fra sky fun h3 fl3 up3 => ?_
    have J3 : Inv X pins σ1 H1 { s' with heap := h3 } := J.landed nb fl3.1 (up.trans up3) os ag
    obtain ⟨oe3, vs3, he3, hz3, hd3⟩ := fl3.there
    have notIn : a ∉ X.env.locals :: X.fs := fun hm => by
      have hm2 : a ∈ frs (X.env :: X.outer) := by
        unfold frs
        rw [List.filterMap_cons, fra]
        exact hm
      obtain ⟨_, o1, e1, hnf⟩ := fl3.2.2.1.mem hm2
      rw [he3] at e1
      cases e1
      exact hnf _ hd3
    have nL : a ≠ X.env.locals := fun z => notIn (z ▸ List.mem_cons_self)
    have nF : a ∉ X.fs := fun z => notIn (List.mem_cons_of_mem _ z)
    have S3 := J3.suite he3 hd3 na nL nF
    have LT : PySem.W.Looks (model X.prog X.w) h3 (typeOf (.ref a)) cls := fun A Q E s k q => wpAny_typeOf_ref (k _ _ he3) (by rw [hz3.1]; exact q)
    have named : ∀ {x : Str} {c : Value} {np : Pos} {Q : Value → Shared → Prop} {E : Value → Shared → Prop}, Names X x c → Q c { s' with heap := h3 } →
        wpAny (model X.prog X.w) (X.A.mark (some (.ref a))) (eval (.Name x np) X.env) Q E { s' with heap := h3 } := fun {x c np Q E} nm q => by
      obtain ⟨hg, hdbg, hm | ⟨hm, hv, hnn⟩⟩ := nm
      · exact ld_glob (X := X.suite a ((a, oe3) :: (X.pn ++ pins))) S3 hg hm q hdbg
      · exact ld_blt (X := X.suite a ((a, oe3) :: (X.pn ++ pins))) S3 hg hm hv q hnn hdbg
    have go : ∀ {hs2 : List ExceptHandler} {l2 : List Clause}, ClausesOk X hs2 l2 → wCatch X.K Wout D l2 cls d σ1 H1 →
        wpAny (model X.prog X.w) X.A (handleBy (.ref a) X.env hs2) (SP X pins D) X.xe { s' with heap := h3 } := by
      intro hs2 l2 hk2
      induction hk2 with
      | nil =>
        intro w
        refine wpAny_handleBy_nil ?_
        obtain ⟨_, _, _, oe, vs, T, oT, ts', he, hz, hd, h1, hrT⟩ := id fl3
        unfold PySem.passOn
        refine wpAny_bind (wpAny_field he hd h1 ?_)
        rw [if_neg (by simp)]
        have out : wpAny (model X.prog X.w) X.A (setFlight (.ref a) X.env.frame) (fun _ z4 => wpAny (model X.prog X.w) X.A (throw (.ref a) : Sem Flow) (SP X pins D) X.xe z4) X.xe { s' with heap := h3 } := by
          rw [fra]
          refine HandSPX.setFlight_upZ fl3 fun h4 hh4 up4 => wpAny_throw (tk _ _ ?_)
          exact ⟨a, B0, sI, pins, σ1, H1, cls, d, rfl, J, nb, (up.trans up3).trans up4, .inr (.inr (by rw [stk]; exact hh4)), na, os, ag, w⟩
        first
          | exact wpAny_bind (wpAny_pure (wpAny_bind out))
          | exact wpAny_bind out
      | @bare x c ts b bs np pp hs3 l3 nm su more ih =>
        intro w
        obtain ⟨t, ht, yes, no⟩ := w
        have LM := PySem.W.exm_one (M := model X.prog X.w) J3.kIn LT ht
        refine wpAny_handleBy_cons (codeAny_handlers_test (named nm (LM.here ?_))) (by intro q; cases q)
        cases t with
        | false =>
          show wpAny _ X.A (handleBy (.ref a) X.env hs3) _ _ _
          exact ih (no rfl)
        | true =>
          refine codeAny_handlers_suite ?_
          refine HandSPX.lands_againZ fl3 fun h4 fl4 up4 => ?_
          have J4 : Inv X pins σ1 H1 { s' with heap := h4 } := J.landed nb fl4.1 ((up.trans up3).trans up4) os ag
          obtain ⟨oe4, vs4, he4, hz4, hd4⟩ := fl4.there
          have S4 := J4.suite he4 hd4 na nL nF
          refine wpAny_mono ((su a oe4 cls d (X.pn ++ pins) hz4 ⟨_, hd4⟩).run [] _ _ H1 _ S4 (yes rfl a na)) (fun f s6 hsp => ?_) (fun _ _ z => z.elim)
          cases f with
          | next => exact hsp.elim fun σ6 z => z.elim fun H6 z => ⟨_, _, z.1.unsuite ok, z.2⟩
          | brk => exact hsp.elim fun σ6 z => z.elim fun H6 z => ⟨_, _, z.1.unsuite ok, z.2⟩
          | cont => exact hsp.elim fun σ6 z => z.elim fun H6 z => ⟨_, _, z.1.unsuite ok, z.2⟩
          | ret u => exact hsp.elim fun v6 z => z.elim fun σ6 z => z.elim fun H6 z => ⟨_, _, _, z.1.unsuite ok, z.2.1, z.2.2⟩
      | @named x n i c ts b bs np pp hs3 l3 nm hi loc su more ih =>
        intro w
        obtain ⟨t, ht, yes, no⟩ := w
        have LM := PySem.W.exm_one (M := model X.prog X.w) J3.kIn LT ht
        refine wpAny_handleBy_cons (codeAny_handlers_test (named nm (LM.here ?_))) (by intro q; cases q)
        cases t with
        | false =>
          show wpAny _ X.A (handleBy (.ref a) X.env hs3) _ _ _
          exact ih (no rfl)
        | true =>
          refine codeAny_handlers_suite_as ?_
          refine HandSPX.lands_againZ fl3 fun h4 fl4 up4 => ?_
          have J4 : Inv X pins σ1 H1 { s' with heap := h4 } := J.landed nb fl4.1 ((up.trans up3).trans up4) os ag
          obtain ⟨oe4, vs4, he4, hz4, hd4⟩ := fl4.there
          have S4 := J4.suite he4 hd4 na nL nF
          refine store_ok (X := X.suite a ((a, oe4) :: (X.pn ++ pins))) (v := .ref a) S4 nd hi (.inl loc) rfl (fun s5 S5 => ?_) (.inr loc)
          refine wpAny_mono ((su a oe4 cls d (X.pn ++ pins) hz4 ⟨_, hd4⟩).run [] s5 _ H1 _ S5 (yes rfl a na)) (fun f s6 hsp => ?_) (fun _ _ z => z.elim)
          have done : ∀ {σ6 : St} {H6 : Hp} {Q : Shared → Prop}, Inv (X.suite a ((a, oe4) :: (X.pn ++ pins))) [] σ6 H6 s6 → (∀ s7, Inv X pins (σ6.set i none) H6 s7 → Q s7) →
              wpAny (model X.prog X.w) X.A (do bindName X.env n .none; unbindBehindTheSuite X.env n pp) (fun _ s7 => Q s7) X.xe s6 := fun {σ6 H6 Q} S6 hq => gone_ok (S6.unsuite ok) nd hi loc hq
          cases f with
          | next => exact hsp.elim fun σ6 z => z.elim fun H6 z => done z.1 fun s7 J7 => ⟨_, _, J7, z.2⟩
          | brk => exact hsp.elim fun σ6 z => z.elim fun H6 z => done z.1 fun s7 J7 => ⟨_, _, J7, z.2⟩
          | cont => exact hsp.elim fun σ6 z => z.elim fun H6 z => done z.1 fun s7 J7 => ⟨_, _, J7, z.2⟩
          | ret u => exact hsp.elim fun v6 z => z.elim fun σ6 z => z.elim fun H6 z => done z.1 fun s7 J7 => ⟨_, _, _, J7, z.2.1, z.2.2⟩
    exact go hk w
  · cases f with
    | next => exact hsp.elim fun σ6 z => z.elim fun H6 z => wpAny_execs_nil ⟨_, _, z.1.ofTry ok, z.2⟩
    | brk => exact hsp.elim fun σ6 z => z.elim fun H6 z => ⟨_, _, z.1.ofTry ok, z.2⟩
    | cont => exact hsp.elim fun σ6 z => z.elim fun H6 z => ⟨_, _, z.1.ofTry ok, z.2⟩
    | ret u => exact hsp.elim fun v6 z => z.elim fun σ6 z => z.elim fun H6 z => ⟨_, _, _, z.1.ofTry ok, z.2.1, z.2.2⟩
end
end Ks

/-! repr of data, where nothing on the stack is being shown. -/
namespace Ks
open PySem PySem.Spec L2
open PyProof.Rows hiding St

def keyD : Key → PyData
  | .inl i => .int i
  | .inr x => .str x
def flatD : V → Option PyData
  | .non => some .none
  | .bl b => some (.bool b)
  | .int i => some (.int i)
  | .str x => some (.str x)
  | _ => none
/-- a dict of flat entries -/
inductive FlatKv : List (Key × V) → List (PyData × PyData) → Prop
  | nil : FlatKv [] []
  | cons {k : Key} {v : V} {d : PyData} {r : List (Key × V)} {ds : List (PyData × PyData)} : flatD v = some d → FlatKv r ds → FlatKv ((k, v) :: r) ((keyD k, d) :: ds)
/-- data without dicts, or one such dict -/
def Shows (K : PySem.W.Frag) (H : Hp) (x : V) (d : PyData) : Prop :=
  (Dp K H x d ∧ d.hasDict = false) ∨ ∃ a kvs ds, x = .ref a ∧ H a = some (.dK kvs) ∧ FlatKv kvs ds ∧ d = .dict ds

theorem flat_reads {h : Heap} {v : V} {d : PyData} {u : Value} (e : flatD v = some d) (r : RelV v u) : Reads h u d [] := by
  cases v with
  | non => cases e; cases r; exact .none
  | bl b => cases e; cases r; exact .bool b
  | int i => cases e; obtain ⟨t, rfl⟩ := r; exact .int i t
  | str x => cases e; obtain ⟨t, rfl⟩ := r; exact .str x t
  | byt b => cases e
  | flt b => cases e
  | ref a => cases e
  | ty n => cases e
theorem key_reads {h : Heap} {k : Key} {u : Value} (e : keyIs k u = true) : Reads h u (keyD k) [] := by
  rcases keyIs_shape e with ⟨i, t, rfl, rfl⟩ | ⟨x, t, rfl, rfl⟩
  · exact .int i t
  · exact .str x t
theorem kv_reads {P : Program} {w : World} {h : Heap} : ∀ {kvs : List (Key × V)} {vs : List (Key × Value)} {es : List DictEntry} {ds : List (PyData × PyData)}, KV kvs vs → Pairs (mixKind P w) es vs → FlatKv kvs ds →
    ReadsAll h (es.map (·.key)) (ds.map (·.1)) [] ∧ ReadsAll h (es.map (·.val)) (ds.map (·.2)) []
  | _, _, _, _, .nil, .nil, .nil => ⟨.nil, .nil⟩
  | _, _, _, _, .cons r rs, .cons hk hv ps, .cons hf fs => by
    obtain ⟨a, b⟩ := kv_reads rs ps fs
    obtain ⟨r1, r2⟩ := r
    simp only at r1 r2
    subst r1
    refine ⟨.cons (as := []) (key_reads hk) a, .cons (as := []) ?_ b⟩
    dsimp only
    rw [hv]
    exact flat_reads hf r2

section
variable {X : Cx}
def rShow (K : PySem.W.Frag) : List V → Hp → VK → Prop := fun xs H Q => ∃ x d, xs = [x] ∧ Shows K H x d ∧ d.showable = true ∧ d.depth ≤ 50 ∧ d.shown.length ≤ sizeLine ∧ Q (.str d.shown) H
theorem call_show (hg : X.A.guards = some []) (hu : X.A.units + 100 < cLine) : CallR X (.builtin "repr") (rShow X.K) := by
  intro pins s σ H xs us Q I r h
  obtain ⟨x, d, rfl, hs, sh, dp, sz, q⟩ := h
  obtain ⟨u, rfl, ru⟩ := vals1 r
  have byRef : ∀ {a : Addr} {as : List Addr}, u = .ref a → Reads s.heap u d as → (d.hasDict = true → sysModules ∉ as) → wpAny (model X.prog X.w) X.A (call (.builtin "repr") [u]) (EP X pins σ Q) X.xe s := by
    intro a as e hr hm
    subst e
    exact repr_of_reads' hr sh hm hg (by omega) (fun _ _ z => z) (fun h' u tk k => ⟨.str d.shown, H, I.kept (t' := tk) k, ⟨_, rfl⟩, q⟩) sz
  rcases hs with ⟨hd, nd⟩ | ⟨a, kvs, ds, rfl, ha, fl, rfl⟩
  · obtain ⟨as, hr⟩ := Dp.reads I d x u hd ru
    cases hd with
    | non => cases ru; exact PySem.P.repr_of_none ⟨.str _, H, I.tok _, ⟨_, rfl⟩, q⟩
    | bl b => cases ru; exact PySem.P.repr_of_bool ⟨.str _, H, I.tok _, ⟨_, rfl⟩, q⟩
    | int i => obtain ⟨t, rfl⟩ := ru; exact PySem.P.repr_of_int (of_decide_eq_true sh) ⟨.str _, H, I.tok _, ⟨_, rfl⟩, q⟩
    | str y => obtain ⟨t, rfl⟩ := ru; exact PySem.P.repr_of_str (hsz := sz) ⟨.str _, H, I.tok _, ⟨_, rfl⟩, q⟩
    | lst h1 h2 => exact byRef (show u = Value.ref _ from ru) hr (PyData.noDict_hsm nd)
    | tup h1 h2 => exact byRef (show u = Value.ref _ from ru) hr (PyData.noDict_hsm nd)
  · obtain ⟨_, nsys, vs, rkv, o, es, ep, ho, hx, hdt, hk, hp, hnd⟩ := (show ObjOk X.prog X.w H s.heap a (.dK kvs) from I.hok a _ ha)
    cases (show u = Value.ref a from ru)
    obtain ⟨ra, rb⟩ := kv_reads (h := s.heap) rkv hp fl
    refine byRef rfl (Reads.dict ho hx.1 hdt ra rb) (fun _ hm => ?_)
    simp only [List.append_nil, List.mem_singleton] at hm
    rw [hm] at nsys
    simp at nsys
end
end Ks

/-! Promises of defs that are called while nothing on the stack is being shown (repr of a list asks who is shown already). -/
namespace Ks
open PySem PySem.Spec L2
open PyProof.Rows hiding St

/-- a def's promise, kept wherever nothing is being shown -/
structure FnG (P : Program) (w : World) (K : PySem.W.Frag) (mg : Str → Option Value) (base : Heap) (CX : CXT) (k : Nat) (f : Addr) (fd : FuncData) (ps : List Str) (sp : Sp) : Prop where
  len : ∀ vs H Q E, sp vs H Q E → vs.length = ps.length
  go : ∀ (A : Around) (outer : List Env) (s : Shared) (H : Hp) (args : Args) (us : List Value) (vs : List V) (Q : VK) (E : XK), Room k A → A.guards = some [] → Env0 P w K mg base A outer s H →
    BindsTo s fd args (ps.zip us) → Vals vs us → sp vs H Q E → codeAny (model P w) A (.call (.ref f) args) (CR CX outer P w H s Q E) s

section
variable {P : Program} {w : World} {K : PySem.W.Frag} {mg : Str → Option Value} {base : Heap} {CX : CXT} {j k : Nat} {f : Addr} {fd : FuncData} {ps : List Str} {sp : Sp}
theorem FnG.ofOk (F : FnOk P w K mg base CX k f fd ps sp) : FnG P w K mg base CX k f fd ps sp := ⟨F.len, fun A outer s H args us vs Q E hr _ => F.run A outer s H args us vs Q E hr⟩
theorem FnG.mono (F : FnG P w K mg base CX j f fd ps sp) (h : j ≤ k) : FnG P w K mg base CX k f fd ps sp := ⟨F.len, fun A outer s H args us vs Q E hr => F.go A outer s H args us vs Q E (hr.mono h)⟩
end

/-- the guards stay in a def's frame -/
theorem guards_deeper {A : Around} {env : Env} (h : A.guards = some []) : (A.deeper env).guards = some [] := h

/-- a def by its body -/
theorem fng_of {CX : CXT} {P : Program} {w : World} {K : PySem.W.Frag} {mg : Str → Option Value} {base : Heap} {k : Nat} {x qual : Str} {st : Stmt} {f : Addr} {fd : FuncData} {N ps : List Str} {sp : Sp} (F : Fun K x qual st f fd) (S : FnScope N ps (defScope st))
    (len : ∀ vs H Q E, sp vs H Q E → vs.length = ps.length)
    (hbody : ∀ (cdv : Value) (A : Around) (outer : List Env) (s : Shared) (H : Hp) (vs : List V) (Q : VK) (E : XK), Room k (A.deeper (envOfC qual (defScope st) s.heap.objs.size f cdv)) → A.guards = some [] → sp vs H Q E →
      ∃ t, PSs (cxOf CX P w K mg base N qual (defScope st) f cdv A outer s H E) (defBody st) t ∧ t { nx := fun _ H' => Q .non H', rt := Q } (start N vs) H) : FnG P w K mg base CX (k + 1) f fd ps sp := by
  obtain ⟨oc, od, kV, doc, pm, an, cdv, ct, osl, rfl, lk, hcd⟩ := F.ex
  refine ⟨len, ?_⟩
  intro A outer s H args us vs Q E hr hG e0 hb r hsp
  have keep := fun b o e => (e0.bs b o e).1
  have par : ∀ y ∈ ps.zip us, (defScope st).names.lookup y.1 = some .local ∨ ((defScope st).names.lookup y.1 = some .cell ∧ ((cellsFrom (s.heap.objs.size + 1) (defScope st).names []).lookup y.1).isSome = true) := by
    rintro ⟨n, v⟩ hy
    have q := S.par n (List.of_mem_zip hy).1
    exact q.imp id fun q => ⟨q, PySem.W.cellsFrom_some _ _ _ (.inl q)⟩
  refine codeAny_call_function hr.depth ((e0.mod.kin.keeps keep) _ _ lk) rfl S.co S.gen rfl (PySem.W.codeRec_of (e0.mod.kin.keeps keep) hcd) (hb _ _ _ _ ?_)
  refine wpAny_newFunctionEnv_cells S.kind par ?_
  intro env he s1 hx
  subst he
  refine ⟨(e0.mod.nolimit.keeps keep).keeps hx.toInCall.keep, codeAny_func ?_⟩
  obtain ⟨t, ht, hq⟩ := hbody cdv A outer s H vs Q E (hr.deeper _) hG hsp
  have I := inv_start (CX := CX) (E := E) (cd := cdv) S hr.hd e0 (len _ _ _ _ hsp) r hx
  refine wpAny_mono (ht.run [] s1 (start N vs) H _ I hq) ?_ (fun _ _ z => z)
  intro fl s' hs
  cases fl with
  | next => exact hs.elim fun σ' z => z.elim fun H' z => ⟨V.non, H', z.1.os, z.1.bare, z.1.base, z.1.hok, rfl, z.2⟩
  | ret u => exact hs.elim fun v z => z.elim fun σ' z => z.elim fun H' z => ⟨v, H', z.1.os, z.1.bare, z.1.base, z.1.hok, z.2.1, z.2.2⟩
  | brk => exact hs.elim fun _ z => z.elim fun _ z => z.2.elim
  | cont => exact hs.elim fun _ z => z.elim fun _ z => z.2.elim

section
variable {X : Cx} {CX : CXT} {k : Nat} {f : Addr} {fd : FuncData} {ps : List Str} {sp : Sp} {E : XK} {x : Str} {p pos : Pos} {e : Expr} {es : List Expr} {t : TA}
/-- f(e, ..) -/
theorem pe_callG (hG : X.A.guards = some []) (F : FnG X.prog X.w X.K X.mg X.base CX k f fd ps sp) (hr : Room k X.A) (hg : Gl X x) (hm : X.mg x = some (.ref f)) (hk : PySem.W.keepIn X.K (.ref f) = true) (hb : Binds X.K fd ps []) (hx : Passes CX X E)
    (ha : PA X (e :: es) t) (hdb : (x == ("__debug__" : Str)) = false := by decide) (hst : starEach (e :: es) X.env = (false, eval e X.env) :: starEach es X.env := by rfl) (hpl : (backTo pos (starEach es X.env)).any (·.1) = false := by rfl) :
    PE X (.Call (.Name x p) (e :: es) [] pos) (tCall sp [] E t) := by
  constructor
  intro pins s σ H Q I h
  refine wpAny_Call_Name_kw (ld_glob I hg hm ?_ hdb)
  refine PySem.W.callWith_K (h₀ := X.base) I.ok.mod.kin hk (thn (ha.run pos pins s σ H _ I h) ?_) hst hpl
  rintro us s1 ⟨vs, H1, I1, r, q⟩
  rw [List.append_nil] at q
  refine ⟨I1.kIn, ?_⟩
  have hl : (us ++ []).length = ps.length := by
    rw [List.append_nil, ← r.length]
    exact F.len _ _ _ _ q
  have b := hb s1 us I1.kIn hl
  rw [List.append_nil] at b
  refine wpAny_call (codeAny_mono (F.go X.A X.stack s1 H1 ⟨us, []⟩ us vs Q E hr hG I1.env0 b r q) ?_)
  intro res s2 hq
  cases res with
  | error er => exact hx pins σ H1 s1 er s2 I1 hq
  | ok fl =>
    cases fl with
    | ret u => exact I1.after hq
    | next => exact hq.elim
    | brk => exact hq.elim
    | cont => exact hq.elim
end

/-- the law's call, its script the one thing that is tracked -/
theorem law_callG {P : Program} {w : World} {K : PySem.W.Frag} {mg mb : Str → Option Value} {CX : CXT} {k : Nat} {fa a : Addr} {fd : FuncData} {x : Str} {sp : Sp} {s1 : Shared} {vs : List Value} {ns : List Int}
    (KX : K.In s1.heap) (hns : s1.heap.Ns mainGlobals mg) (hb : s1.heap.Ns builtinsNs mb) (hbb : ∀ x : Str, x ≠ "__name__" → mb x = bootBuiltins x) (hlim : s1.heap.NoLimit) (hg : s1.gens = #[])
    (ha : s1.heap.get? a = some { cls := .type "list", data := .seq vs.toArray }) (hi : IntsAre vs ns) (hl : ns.length ≤ sizeLine) (hr : Room k callerA)
    (F : ∀ base : Heap, K.In base → base.Ns mainGlobals mg → FnG P w K mg base CX k fa fd [x] sp) (hbind : ∀ (s : Shared) (u : Value), BindsTo s fd ⟨[u], []⟩ [(x, u)])
    (hsp : ∀ H : Hp, Only H → SqL K H a (ns.map V.int) → sp [.ref a] H (fun v _ => v = .bl true) fun _ _ _ => False)
    (hCX : ∀ H e s', CX [] H s1 (fun _ _ _ => False) e s' → False) :
    codeAny (model P w) callerA (.call (.ref fa) ⟨[.ref a], []⟩) (fun r s' => r = .ok (.ret (.bool true)) ∧ OldK s1.heap s'.heap ∧ s'.os = s1.os ∧ AllBare s'.gens) s1 := by
  have rv := vals_ints hi
  have lenV := hi.length
  have core : ∀ H : Hp, Only H → SqL K H a (ns.map V.int) → HOk P w H s1.heap → (∀ b, H b ≠ none → b = a) → (H a ≠ none → K.lookup a = none) →
      codeAny (model P w) callerA (.call (.ref fa) ⟨[.ref a], []⟩) (fun r s' => r = .ok (.ret (.bool true)) ∧ OldK s1.heap s'.heap ∧ s'.os = s1.os ∧ AllBare s'.gens) s1 := by
    intro H hO hS hok hA hK
    have at_a : ∀ {b : Addr} {u : HO}, H b = some u → b = a := fun {b u} q => hA b (by rw [q]; exact fun z => nomatch z)
    have free : ∀ {b : Addr} {o : Obj} {es : Array DictEntry} {ep : Nat}, s1.heap.get? b = some o → o.data = .dict es ep → H b = none := by
      intro b o es ep e d
      cases q : H b with
      | none => rfl
      | some u =>
        rw [at_a q, ha] at e
        cases e
        exact nomatch d
    have ns1 : ∀ {b : Addr} {m : Str → Option Value}, s1.heap.Ns b m → (hidT s1.heap H).Ns b m := fun {b m} ⟨o, es, ep, e, d, r⟩ => ⟨o, es, ep, hidT_get e (free e d), d, r⟩
    have kin : K.In (hidT s1.heap H) := by
      intro b o e
      refine hidT_get (KX b o e) ?_
      cases q : H b with
      | none => rfl
      | some u =>
        have eb := at_a q
        rw [eb] at q e
        rw [hK (by rw [q]; exact fun z => nomatch z)] at e
        cases e
    have lim2 : (hidT s1.heap H).NoLimit := by
      obtain ⟨mc, h1, h2⟩ := hlim
      exact ⟨mc, ns1 h1, h2⟩
    have e0 : Env0 P w K mg (hidT s1.heap H) callerA [] s1 H :=
      ⟨rfl, ⟨kin, ns1 hns, ⟨mb, ns1 hb, hbb⟩, lim2⟩, fun b o e => of_hidT e, Nat.le_of_eq (hidT_size _ _), trivial, fun b z => absurd z List.not_mem_nil, hok, .of_eq hg⟩
    refine codeAny_mono ((F _ kin (ns1 hns)).go callerA [] s1 H ⟨[.ref a], []⟩ [.ref a] [.ref a] _ _ hr rfl e0 (hbind s1 (.ref a)) (.cons rfl .nil) (hsp H hO hS)) ?_
    intro r s' h
    cases r with
    | error e => exact (hCX H e s' h).elim
    | ok fl =>
      cases fl with
      | next => exact h.elim
      | brk => exact h.elim
      | cont => exact h.elim
      | ret u =>
        obtain ⟨v, H', os, bare, un, hok', r', q⟩ := h
        cases (show v = .bl true from q)
        cases (show u = Value.bool true from r')
        refine ⟨rfl, OldK.of_keep ?_, os, bare⟩
        intro b o e
        cases q : H b with
        | none => exact un.keep b o e q List.not_mem_nil List.not_mem_nil
        | some u =>
          rcases hO b with z | ⟨ob, xs, z⟩
          · rw [q] at z
            cases z
          · have e1 := (hok b _ z).1
            have e2 := (hok' b _ (un.frzs b ob _ z)).1
            rw [e] at e1
            cases e1
            exact e2
  cases hk : K.lookup a with
  | some o =>
    have e := KX a o hk
    rw [ha] at e
    cases e
    have sq : SqL K (fun _ => none) a (ns.map V.int) := .inr ⟨_, vs.toArray, _, hk, rfl, rfl, rfl, by rw [List.size_toArray, lenV]; exact hl, by simpa using rv⟩
    exact core (fun _ => none) (fun _ => .inl rfl) sq (fun b u z => nomatch z) (fun b z => absurd rfl z) fun z => absurd rfl z
  | none =>
    have at1 : (fun b => if b = a then some (HO.frz { cls := .type "list", data := .seq vs.toArray } (.lst (ns.map V.int))) else none) a = some (.frz { cls := .type "list", data := .seq vs.toArray } (.lst (ns.map V.int))) := if_pos rfl
    refine core (fun b => if b = a then some (.frz { cls := .type "list", data := .seq vs.toArray } (.lst (ns.map V.int))) else none) ?_ (.inl (.inr ⟨_, at1⟩)) ?_ ?_ fun _ => hk
    · intro b
      by_cases hb : b = a
      · exact .inr ⟨_, _, if_pos hb⟩
      · exact .inl (if_neg hb)
    · intro b u z
      by_cases hb : b = a
      · subst hb
        cases at1.symm.trans z
        exact ⟨ha, by rw [List.length_map]; exact hl, vs, _, rv, ha⟩
      · cases (if_neg hb).symm.trans z
    · intro b z
      by_cases hb : b = a
      · exact hb
      · exact absurd (if_neg hb) z

theorem walk_ofG {l : PySem.W.OpenLaw} {n k : Nat} {q : Program} {loose : List Str} {XP : (Str → Option Value) → Heap → Prop} {YP : World → Heap → Prop} {d : DefRec} {K : Params → PySem.W.Frag} {CX : World → CXT} {sp : World → Sp} {x : Str}
    (hn : l.most = some n) (hn2 : n ≤ sizeLine) (hdf : d.params.defaults = []) (hr : Room k callerA)
    (hY : ∀ (w : World) (h : Heap), YP w h → (K w.params).In h)
    (F : ∀ (w : World) (mg : Str → Option Value) (fa : Addr) (h : Heap), (K w.params).In h → h.Ns mainGlobals mg → mg d.name = some (.ref fa) →
      ∃ fd : FuncData, (∀ (s : Shared) (u : Value), BindsTo s fd ⟨[u], []⟩ [(x, u)]) ∧
        ∀ base : Heap, (K w.params).In base → base.Ns mainGlobals mg → FnG l.prog w (K w.params) mg base (CX w) k fa fd [x] (sp w))
    (hsp : ∀ (w : World) (H : Hp) (a : Addr) (ns : List Int), ns.length ≤ n → Only H → SqL (K w.params) H a (ns.map V.int) → sp w [.ref a] H (fun v _ => v = .bl true) fun _ _ _ => False)
    (hCX : ∀ (w : World) (H : Hp) (s : Shared) (e : Value) (s' : Shared), CX w [] H s (fun _ _ _ => False) e s' → False) :
    PySem.W.WalkO q loose XP YP l.row.toRowW d [] (fun f vs => PySem.call f vs) := by
  refine Att.attach_call hn hdf ?_
  intro w s₀ s₁ mg mb fa o pm cd doc a vs ns G Y ho hd hcd hmg hobj hints hlen hg
  have KX := hY w _ Y
  obtain ⟨fd, hb, hF⟩ := F w mg fa _ KX G.T.g hmg
  exact law_callG KX G.T.g G.T.b G.T.builtins G.T.nolimit hg hobj hints (Nat.le_trans hlen hn2) hr hF hb (fun H hO hS => hsp w H a ns hlen hO hS) fun H e s' => hCX w H s₁ e s'
end Ks

/-! What the laws' texts have in common. -/
namespace Ks
open PySem PySem.Spec L2
open PyProof.Rows hiding St

/-- the built-ins' names that are not given another meaning -/
structure Bx (mg : Str → Option Value) : Prop where
  m_isinstance : mg "isinstance" = none
  m_int : mg "int" = none
  m_bool : mg "bool" = none
  m_str : mg "str" = none
  m_len : mg "len" = none
  m_list : mg "list" = none
  m_range : mg "range" = none
  m_sum : mg "sum" = none
  m_abs : mg "abs" = none
  m_max : mg "max" = none
  m_min : mg "min" = none
  m_repr : mg "repr" = none
  m_zip : mg "zip" = none
/-- a def of the text: its object, its name, how its arguments bind -/
structure Dn (K : PySem.W.Frag) (mg : Str → Option Value) (x : Str) (st : Stmt) (ps : List Str) (f : Addr) (fd : FuncData) : Prop where
  F : Fun K x x st f fd
  g : mg x = some (.ref f)
  b : Binds K fd ps []
/-- an own class of errors over ValueError, made with a message -/
structure OwnE (K : PySem.W.Frag) (mg : Str → Option Value) (x : Str) (C : Addr) : Prop where
  g : mg x = some (.ref C)
  x : PySem.W.excIn K C [.type "ValueError", .type "Exception", .type "BaseException", .type "object"] "ValueError.__new__" = true
  k : PySem.W.keepIn K (.ref C) = true
  b : PySem.W.subIn K (.ref C) (.type "BaseException") = some true
  t : PySem.W.typeIn K (.ref C) = some (.type "type")
/-- an own class of errors that keeps one value -/
structure KeepE (K : PySem.W.Frag) (mg : Str → Option Value) (x f : Str) (C fI : Addr) (fd : FuncData) (ps : List Str) (B : String) (bmB : List Value) (newId initId : String) : Prop where
  T : ECls K C B bmB newId initId
  g : mg x = some (.ref C)
  i : PySem.W.findIn K (.ref C) "__init__" = some (some (.ref fI))
  t : PySem.W.typeIn K (.ref fI) = some (.type "function")
  n : PySem.W.findIn K (.ref C) f = some none
  b : Binds K fd ps []
theorem passZ {X : Cx} : Passes CX0 X (fun _ _ _ => False) := pass0
theorem passO {X : Cx} {W : XK} (tk : Takes X (fun cls d _ H => W cls d H)) : Passes (L2.CX X.prog X.w) X W := passes_call tk fun _ _ _ _ z => z

/-! ### values of any kind -/
inductive AnyV (H : Hp) : V → Prop
  | non : AnyV H .non
  | bl (b : Bool) : AnyV H (.bl b)
  | int (i : Int) : AnyV H (.int i)
  | str (z : Str) : AnyV H (.str z)
  | lst {a : Addr} {xs : List V} : H a = some (.lst xs) → AnyV H (.ref a)
  | tup {a : Addr} {xs : List V} : H a = some (.tup xs) → AnyV H (.ref a)
  | dct {a : Addr} {kvs : List (Key × V)} : H a = some (.dK kvs) → AnyV H (.ref a)
def isI : V → Bool
  | .int _ => true
  | .bl _ => true
  | _ => false
def isB : V → Bool
  | .bl _ => true
  | _ => false
def isS : V → Bool
  | .str _ => true
  | _ => false
theorem AnyV.typed {K : PySem.W.Frag} {H : Hp} {x : V} (h : AnyV H x) : ∃ T, TyX K H x (.type T) ∧ kitB T "int" = some (isI x) ∧ kitB T "bool" = some (isB x) ∧ kitB T "str" = some (isS x) := by
  cases h with
  | non => exact ⟨"NoneType", .base .non, (show kitB "NoneType" "int" = some false by decide +kernel), (show kitB "NoneType" "bool" = some false by decide +kernel), (show kitB "NoneType" "str" = some false by decide +kernel)⟩
  | bl b => exact ⟨"bool", .base (.bl b), (show kitB "bool" "int" = some true by decide +kernel), (show kitB "bool" "bool" = some true by decide +kernel), (show kitB "bool" "str" = some false by decide +kernel)⟩
  | int i => exact ⟨"int", .base (.int i), (show kitB "int" "int" = some true by decide +kernel), (show kitB "int" "bool" = some false by decide +kernel), (show kitB "int" "str" = some false by decide +kernel)⟩
  | str z => exact ⟨"str", .base (.str z), (show kitB "str" "int" = some false by decide +kernel), (show kitB "str" "bool" = some false by decide +kernel), (show kitB "str" "str" = some true by decide +kernel)⟩
  | lst e => exact ⟨"list", .base (.lst e), (show kitB "list" "int" = some false by decide +kernel), (show kitB "list" "bool" = some false by decide +kernel), (show kitB "list" "str" = some false by decide +kernel)⟩
  | tup e => exact ⟨"tuple", .base (.tup e), (show kitB "tuple" "int" = some false by decide +kernel), (show kitB "tuple" "bool" = some false by decide +kernel), (show kitB "tuple" "str" = some false by decide +kernel)⟩
  | dct e => exact ⟨"dict", .base (.dK e), (show kitB "dict" "int" = some false by decide +kernel), (show kitB "dict" "bool" = some false by decide +kernel), (show kitB "dict" "str" = some false by decide +kernel)⟩
/-- an integer, no boolean, in these bounds -/
def isNum (lo hi : Int) : V → Bool
  | .int i => decide (lo ≤ i) && decide (i ≤ hi)
  | _ => false

/-! ### a power of a great number -/
section
variable {X : Cx}
def CPowW (i j : Int) : Prop := 0 ≤ j ∧ (Builtin.Int.intBits i : Int) * j ≤ 2 ^ 27
theorem op_powW : OpR X (binaryOp .Pow) (rI CPowW fun i j => .int (i ^ j.toNat)) := opI fun _ _ _ _ _ _ _ hc q => PyProof.Rows.pow_int hc.1 hc.2 q
end
end Ks

/-! Texts of digits. -/
namespace Ks
open PySem PySem.Spec L2
open PyProof.Rows hiding St

abbrev cl (x : Str) : List Nat := x.cps.toList
theorem str_ext {x y : Str} (h : cl x = cl y) : x = y := by
  obtain ⟨⟨a⟩⟩ := x
  obtain ⟨⟨b⟩⟩ := y
  have h' : a = b := h
  rw [h']
theorem cl_len (x : Str) : (cl x).length = x.length := by
  show x.cps.toList.length = x.cps.size
  exact Array.length_toList

theorem tw_all {α : Type} {p : α → Bool} : ∀ {l : List α}, l.all p = true → l.takeWhile p = l
  | [], _ => rfl
  | a :: r, h => by
    rw [List.all_cons, Bool.and_eq_true] at h
    rw [List.takeWhile_cons, if_pos h.1, tw_all h.2]
theorem tw_lt {α : Type} {p : α → Bool} : ∀ {l : List α}, l.all p = false → (l.takeWhile p).length < l.length
  | [], h => by cases h
  | a :: r, h => by
    rw [List.takeWhile_cons]
    by_cases e : p a = true
    · rw [if_pos e]
      rw [List.all_cons, e, Bool.true_and] at h
      have := tw_lt h
      simp only [List.length_cons]
      omega
    · rw [if_neg e]
      simp
theorem dw_head {α : Type} {p : α → Bool} : ∀ {l : List α}, l.all p = false → ∃ a, a ∈ l.drop (l.takeWhile p).length ∧ p a = false
  | [], h => by cases h
  | a :: r, h => by
    rw [List.takeWhile_cons]
    by_cases e : p a = true
    · rw [if_pos e]
      rw [List.all_cons, e, Bool.true_and] at h
      obtain ⟨x, hx, hp⟩ := dw_head h
      exact ⟨x, by simpa using hx, hp⟩
    · rw [if_neg e]
      exact ⟨a, by simp, by simpa using e⟩

/-- a text stripped of some letters is empty just if it has no others -/
theorem strip_empty (a b : Str) : decide (V.str (Txt.stripChars a b) = V.str ("" : Str)) = (cl a).all fun c => b.cps.contains c := by
  have h0 : ("" : Str) = ⟨#[]⟩ := by decide
  have e : Txt.stripChars a b = PySem.W.stripped b.cps.contains true true a := PySem.W.stripBy_eq _ _ _ _
  rw [e, h0]
  unfold PySem.W.stripped
  simp only [if_true]
  show decide (V.str (Builtin.Str.strSub a (List.takeWhile b.cps.contains (cl a)).length (a.length - (List.takeWhile b.cps.contains (List.drop (List.takeWhile b.cps.contains (cl a)).length (cl a)).reverse).length)) = V.str ⟨#[]⟩) = _
  have hl := cl_len a
  cases q : (cl a).all fun c => b.cps.contains c with
  | true =>
    rw [tw_all q, List.drop_length]
    refine decide_eq_true ?_
    congr 1
    unfold Builtin.Str.strSub
    congr 1
    have hs : a.cps.size = a.length := rfl
    apply Array.eq_empty_of_size_eq_zero
    rw [Array.size_extract]
    simp
    omega
  | false =>
    refine decide_eq_false fun h => ?_
    have h1 := congrArg (fun v => match v with | V.str z => z.cps.size | _ => 0) h
    unfold Builtin.Str.strSub at h1
    simp only [Array.size_extract, List.size_toArray, List.length_nil] at h1
    obtain ⟨x, hx, hp⟩ := dw_head q
    have nall : (List.drop (List.takeWhile b.cps.contains (cl a)).length (cl a)).reverse.all b.cps.contains = false := by
      rw [Bool.eq_false_iff]
      intro z
      rw [List.all_eq_true] at z
      have := z x (List.mem_reverse.mpr hx)
      rw [hp] at this
      cases this
    have h2 := tw_lt nall
    have h3 := tw_lt q
    rw [List.length_reverse, List.length_drop] at h2
    have hs : a.cps.size = a.length := rfl
    omega

/-- a text of digits less than n -/
def alpha (n : Int) : Str := cutS "0123" none (some n)
def txt (n : Int) (z : Str) : Bool := decide (z.length ≤ 200) && (cl z).all fun c => (alpha n).cps.contains c
theorem alpha2 : alpha 2 = ⟨#[48, 49]⟩ := by decide +kernel
theorem alpha4 : alpha 4 = ⟨#[48, 49, 50, 51]⟩ := by decide +kernel
theorem digit_str (r : Nat) (h : r < 4) : Str.ofString (toString (r : Int)) = ⟨#[48 + r]⟩ := by
  match r, h with
  | 0, _ => decide +kernel
  | 1, _ => decide +kernel
  | 2, _ => decide +kernel
  | 3, _ => decide +kernel
theorem join_empty : ∀ ys : List Str, cl (Txt.join ("" : Str) ys) = (ys.map cl).flatten := by
  intro ys
  have h0 : cl ("" : Str) = [] := by decide
  rw [TL.join_eq]
  have := TL.tl_join ("" : Str) ys
  rw [show TL.tl ("" : Str) = [] from h0] at this
  refine this.trans ?_
  show TL.joinL [] (ys.map cl) = _
  generalize ys.map cl = zs
  induction zs with
  | nil => rfl
  | cons a r ih =>
    cases r with
    | nil => simp [TL.joinL]
    | cons b r =>
      show a ++ ([] ++ TL.joinL [] (b :: r)) = _
      rw [ih]
      simp
end Ks

/-! zip of two texts; the order of tuples. -/
namespace Ks
open PySem PySem.Spec L2
open PyProof.Rows hiding St

/-- the signs of two texts, two by two -/
def Itzs (x y : Str) : It :=
  ⟨fun i _ => i < min x.cps.size y.cps.size, fun i H v H' => ∃ T c d, v = .ref T ∧ H T = none ∧ H' = upd H T (.tup [.str ⟨#[c]⟩, .str ⟨#[d]⟩]) ∧ x.cps[i]? = some c ∧ y.cps[i]? = some d, fun i _ => i = min x.cps.size y.cps.size⟩
def StZ (z TI TO i1 i2 : Addr) (x y : Str) (t u : Tok) (i : Nat) (h : Heap) : Prop :=
  IsZip h z TI TO .none ∧ IsTupOf2 h TI (.ref i1) (.ref i2) ∧ (∃ a1 a2, IsTupOf2 h TO a1 a2) ∧ h.IsStrIter i1 (strIterType x) x t i ∧ h.IsStrIter i2 (strIterType y) y u i
theorem turn_zipS {P : Program} {w : World} {K : PySem.W.Frag} {elts : List Expr} {kk : Nat} {tpos : Pos} {z TI TO i1 i2 : Addr} {x y : Str} {t u : Tok} (S : ZipSep2 z TI TO i1 i2 [i1] [i2]) :
    Turn P w K (.Tuple elts kk tpos) (Itzs x y) (z :: TI :: TO :: ([i1] ++ [i2])) z (StZ z TI TO i1 i2 x y t u) where
  mem := List.mem_cons_self
  obj := by
    intro i h st c hc
    obtain ⟨hz, hTI, ⟨a1, a2, hTO⟩, ⟨o1, e1, _, d1⟩, ⟨o2, e2, _, d2⟩⟩ := st
    have e' : c = z ∨ c = TI ∨ c = TO ∨ c = i1 ∨ c = i2 := by simpa using hc
    rcases e' with rfl | rfl | rfl | rfl | rfl
    · exact ⟨_, hz, fun v q => nomatch q⟩
    · exact ⟨_, hTI, fun v q => nomatch q⟩
    · exact ⟨_, hTO, fun v q => nomatch q⟩
    · exact ⟨o1, e1, fun v q => by rw [d1] at q; cases q⟩
    · exact ⟨o2, e2, fun v q => by rw [d2] at q; cases q⟩
  keep := by
    intro i h h' st k
    obtain ⟨hz, hTI, ⟨a1, a2, hTO⟩, ⟨o1, e1, c1, d1⟩, ⟨o2, e2, c2, d2⟩⟩ := st
    exact ⟨k z (by simp) _ hz, k TI (by simp) _ hTI, ⟨a1, a2, k TO (by simp) _ hTO⟩, ⟨o1, k i1 (by simp) o1 e1, c1, d1⟩, ⟨o2, k i2 (by simp) o2 e2, c2, d2⟩⟩
  item := by
    intro X hP hw hK hc i pins s σ H E I hf st hg
    subst hP hw hK
    have hh := I.ok.hd hc
    have W := GoesN.zip2 (elts := elts) (x1 := kk) (pos := tpos) S (Draws.text (prog := X.prog) (w := X.w) (A := X.A.in1) hh i1 x t) (Draws.text (A := X.A.in1) hh i2 y u)
    refine W.goes i s _ E hg st ?_
    rintro v h' tk ⟨T, a, b, rfl, hT, ⟨c, tc, hx, rfl⟩, ⟨d, td, hy, rfl⟩, hIs⟩ st' keep _
    have new : ObjOk X.prog X.w (upd H T (.tup [.str ⟨#[c]⟩, .str ⟨#[d]⟩])) h' T (.tup [.str ⟨#[c]⟩, .str ⟨#[d]⟩]) :=
      ⟨by show 2 ≤ sizeLine; decide, [.str ⟨#[c]⟩ tc, .str ⟨#[d]⟩ td], .cons ⟨tc, rfl⟩ (.cons ⟨td, rfl⟩ .nil), hIs⟩
    have J := I.turnedNew (t' := tk) (ch := z :: TI :: TO :: ([i1] ++ [i2])) (fun b o hb q => keep b o (fun m => hb (by simp only [List.mem_cons, List.not_mem_nil, or_false] at m; rcases m with rfl | rfl | rfl | rfl <;> simp)) q) hf hT new
    refine ⟨.ref T, _, J, rfl, ⟨T, c, d, rfl, I.hok.fresh hT, rfl, hx, hy⟩, st', fun b hb => ?_⟩
    obtain ⟨o, ho, _⟩ : ∃ o, s.heap.get? b = some o ∧ ∀ v, o.data ≠ .cell v := by
      obtain ⟨hz, hTI, ⟨a1, a2, hTO⟩, ⟨o1, e1, _, d1⟩, ⟨o2, e2, _, d2⟩⟩ := st
      have e' : b = z ∨ b = TI ∨ b = TO ∨ b = i1 ∨ b = i2 := by simpa using hb
      rcases e' with rfl | rfl | rfl | rfl | rfl
      · exact ⟨_, hz, fun v q => nomatch q⟩
      · exact ⟨_, hTI, fun v q => nomatch q⟩
      · exact ⟨_, hTO, fun v q => nomatch q⟩
      · exact ⟨o1, e1, fun v q => by rw [d1] at q; cases q⟩
      · exact ⟨o2, e2, fun v q => by rw [d2] at q; cases q⟩
    rw [upd_ne (Nat.ne_of_lt (Nat.lt_of_lt_of_le (Heap.lt_size ho) hT))]
    exact (hf b hb).1
  done := by
    intro X hP hw hK hc i pins s σ H E I hf st hg
    subst hP hw hK
    have hh := I.ok.hd hc
    have W := GoesN.zip2 (elts := elts) (x1 := kk) (pos := tpos) S (Draws.text (prog := X.prog) (w := X.w) (A := X.A.in1) hh i1 x t) (Draws.text (A := X.A.in1) hh i2 y u)
    have e : i = min x.cps.size y.cps.size := hg
    subst e
    refine wpAny_mono (W.stops s (fun s1 => Inv X pins σ H s1) E st fun h' tk keep _ => ?_) (fun r s1 q => q) fun _ _ q => q
    exact I.turnedL (t' := tk) (ch := z :: TI :: TO :: ([i1] ++ [i2])) (fun b o hb q => keep b o (fun m => hb (by simp only [List.mem_cons, List.not_mem_nil, or_false] at m; rcases m with rfl | rfl | rfl | rfl <;> simp)) q) hf
  self := fun A i s Q E st h => wpAny_pyIter_zip st.1 h

def iZipS (ta : TA) : TI := fun σ H R => ta σ H fun vs H1 => ∃ x y, vs = [.str x, .str y] ∧ R (Itzs x y) H1
theorem pi_zipS {X : Cx} {e e2 : Expr} {ta : TA} {p pos tpos : Pos} {elts : List Expr} {kk : Nat} (hg : Gl X "zip") (hm : X.mg "zip" = none) (ha : PA X [e, e2] ta)
    (hst : starEach [e, e2] X.env = (false, eval e X.env) :: starEach [e2] X.env := by rfl) (hpl : (backTo pos (starEach [e2] X.env)).any (·.1) = false := by rfl) :
    PI X (.Tuple elts kk tpos) (.Call (.Name "zip" p) [e, e2] [] pos) (iZipS ta) := by
  constructor
  intro pins s σ H R I h
  refine Call_ (ld_blt I hg hm PyProof.Rows.boot_zip (PyProof.Rows.callWith_type1 (thn (ha.run pos pins s σ H _ I h) ?_) hst hpl))
  rintro us s1 ⟨vs, H1, I1, r1, x, y, ex, q⟩
  subst ex
  obtain ⟨u1, u2, rfl, ⟨t, rfl⟩, ⟨u, rfl⟩⟩ := vals2 r1
  refine zip_begins2 (begins_text x t) (begins_text y u) trivial trivial fun h' hz hTI hTO h1 h2 hsz hk => wpAny_pyIter_zip hz ?_
  have I2 : Inv X pins σ H1 { s1 with heap := h' } := I1.kept (t' := s1.toks) hk
  refine ⟨s1.heap.objs.size + 4, _, _, _, H1, rfl, I2, turn_zipS (t := t) (u := u) (zip_sep2 (fp1 := []) (fp2 := []) (by simp) (by simp)), ⟨hz, hTI, ⟨_, _, hTO⟩, ?_, ?_⟩, fun c hc => ?_, q⟩
  · exact ⟨_, h1, rfl, rfl⟩
  · exact ⟨_, h2, rfl, rfl⟩
  · have hle : s1.heap.objs.size ≤ c := by
      have e' : c = s1.heap.objs.size + 4 ∨ c = s1.heap.objs.size + 2 ∨ c = s1.heap.objs.size + 3 ∨ c = s1.heap.objs.size ∨ c = s1.heap.objs.size + 1 := by simpa using hc
      rcases e' with z | z | z | z | z <;> rw [z] <;> first | exact Nat.le_refl _ | exact Nat.le_add_right _ _
    have f := I1.fpOk hle (I1.hok.fresh hle)
    exact f
theorem walk_zipS {x y : Str} {n : Nat} (hn : n = min x.cps.size y.cps.size) : Walk (Itzs x y) n (fun _ => True) (fun i H v H' => ∃ T c d, v = .ref T ∧ H T = none ∧ H' = upd H T (.tup [.str ⟨#[c]⟩, .str ⟨#[d]⟩]) ∧ x.cps[i]? = some c ∧ y.cps[i]? = some d) := by
  subst hn
  exact ⟨fun _ _ hi _ => hi, fun _ _ => rfl, fun _ _ _ _ _ _ y => y⟩

/-- less, of data of one shape -/
def rLtD (K : PySem.W.Frag) : R2 := fun x y H Q => ∃ d e, Dp K H x d ∧ Dp K H y e ∧ PySem.W.alike d e = true ∧ d ≠ .none ∧ d.depth ≤ 60 ∧ Q (.bl (PySem.W.dataLt d e)) H
theorem op_ltD {X : Cx} (hu : X.A.units + 100 < cLine) : OpR X (compareOp .Lt) (rLtD X.K) := by
  intro pins s σ H x y v u Q I rx ry h
  obtain ⟨d, e, hd, he, al, nn, dp, q⟩ := h
  obtain ⟨as, r1⟩ := Dp.reads I d x v hd rx
  obtain ⟨bs, r2⟩ := Dp.reads I e y u he ry
  exact PySem.W.rcLt_alike d e X.A s v u as bs r1 r2 al nn (by have := Nat.min_le_left d.depth e.depth; omega) X.prog X.w _ _ ⟨.bl _, H, I, rfl, q⟩
end Ks

/-! Calls of defs with a star parameter, also under a try. -/
namespace Ks
open PySem PySem.Spec L2
open PyProof.Rows hiding St
section
variable {X : Cx} {CX : CXT} {k : Nat} {f : Addr} {sp : Sp} {E : L2.St → XK} {x : Str} {p pos : Pos} {e : Expr} {es : List Expr} {t : TA}
theorem run_fnRS {pins : List (Addr × Obj)} {σ : L2.St} {H : Hp} {s : Shared} {Q : VK} {us : List Value} {vs : List V} (F : FnR X.prog X.w X.K X.mg X.base CX k f sp) (hr : Room k X.A) (hx : PassesAt CX X σ (E σ)) (I : Inv X pins σ H s) (r : Vals vs us) (q : sp vs H Q (E σ)) :
    wpAny (model X.prog X.w) X.A (call (.ref f) us) (EP X pins σ Q) X.xe s := by
  refine wpAny_call (codeAny_mono (F X.A X.stack s H us vs Q (E σ) hr I.env0 r q) ?_)
  intro res s2 hq
  cases res with
  | error er => exact hx pins H s er s2 I hq
  | ok fl =>
    cases fl with
    | ret u => exact I.after hq
    | next => exact hq.elim
    | brk => exact hq.elim
    | cont => exact hq.elim
/-- f(e, ..) where f has a star parameter -/
theorem pe_callRS (F : FnR X.prog X.w X.K X.mg X.base CX k f sp) (hr : Room k X.A) (hg : Gl X x) (hm : X.mg x = some (.ref f)) (hk : PySem.W.keepIn X.K (.ref f) = true) (hx : ∀ σ, PassesAt CX X σ (E σ))
    (ha : PA X (e :: es) t) (hdb : (x == ("__debug__" : Str)) = false := by decide) (hst : starEach (e :: es) X.env = (false, eval e X.env) :: starEach es X.env := by rfl) (hpl : (backTo pos (starEach es X.env)).any (·.1) = false := by rfl) :
    PE X (.Call (.Name x p) (e :: es) [] pos) (tCallS sp E t) := by
  constructor
  intro pins s σ H Q I h
  refine wpAny_Call_Name_kw (ld_glob I hg hm ?_ hdb)
  refine PySem.W.callWith_K (h₀ := X.base) I.ok.mod.kin hk (thn (ha.run pos pins s σ H _ I h) ?_) hst hpl
  rintro us s1 ⟨vs, H1, I1, r, q⟩
  exact ⟨I1.kIn, run_fnRS F hr (hx σ) I1 r q⟩
theorem pe_callRS0 (F : FnR X.prog X.w X.K X.mg X.base CX k f sp) (hr : Room k X.A) (hg : Gl X x) (hm : X.mg x = some (.ref f)) (hk : PySem.W.keepIn X.K (.ref f) = true) (hx : ∀ σ, PassesAt CX X σ (E σ))
    (hdb : (x == ("__debug__" : Str)) = false := by decide) : PE X (.Call (.Name x p) [] [] pos) (tCallS sp E tNil) := by
  constructor
  intro pins s σ H Q I h
  refine Call_ (ld_glob I hg hm ?_ hdb)
  exact PySem.W.callWith_K0 I.kIn hk (run_fnRS (us := []) F hr (hx σ) I .nil h)
end
theorem passOut {X : Cx} {W : XK} (tk : Takes X (fun cls d _ H => W cls d H)) (σ : L2.St) : PassesAt (L2.CX X.prog X.w) X σ W := fun _ _ _ e s' I c => tk e s' (XE.of_call I (fun _ _ _ h => h) c)
end Ks

/-! The bag of drawn numbers: a list of three ints that each draw writes. -/
namespace Ks
open PySem PySem.Spec L2
open PyProof.Rows hiding St
/-- without what is tracked at b -/
def wo (b : Addr) (H : Hp) : Hp := fun a => if a = b then none else H a
def Bag (b : Addr) (H : Hp) : Prop := ∃ g m c : Int, H b = some (.lst [.int g, .int m, .int c])
/-- the bag is a bag again; all else is as it was -/
def Go (b : Addr) (H H' : Hp) : Prop := Bag b H' ∧ Same (wo b H) (wo b H')
theorem wo_ne {b a : Addr} {H : Hp} (h : a ≠ b) : wo b H a = H a := if_neg h
theorem wo_same (b : Addr) (H : Hp) : Same (wo b H) H := fun a o e => by
  by_cases h : a = b
  · have : wo b H a = none := if_pos h
    rw [this] at e
    cases e
  · rwa [wo_ne h] at e
theorem wo_up {b : Addr} {H H' : Hp} (s : Same H H') : Same (wo b H) (wo b H') := fun a o e => by
  by_cases h : a = b
  · have : wo b H a = none := if_pos h
    rw [this] at e
    cases e
  · rw [wo_ne h] at e ⊢
    exact s a o e
theorem wo_free {b : Addr} {H H' : Hp} (hb : H b = none) (s : Same H H') : Same H (wo b H') := fun a o e => by
  rw [wo_ne (ne_of_none e hb)]
  exact s a o e
theorem Go.refl {b : Addr} {H : Hp} (h : Bag b H) : Go b H H := ⟨h, Same.refl _⟩
theorem Go.trans {b : Addr} {H H1 H2 : Hp} (x : Go b H H1) (y : Go b H1 H2) : Go b H H2 := ⟨y.1, x.2.trans y.2⟩
theorem Go.same {b : Addr} {H H' : Hp} (h : Bag b H) (s : Same H H') : Go b H H' := by
  obtain ⟨g, m, c, e⟩ := h
  exact ⟨⟨g, m, c, s b _ e⟩, wo_up s⟩
theorem Go.at {b a : Addr} {H H' : Hp} {o : HO} (x : Go b H H') (h : a ≠ b) (e : H a = some o) : H' a = some o := by
  have := x.2 a o (by rw [wo_ne h]; exact e)
  rwa [wo_ne h] at this
theorem Go.put {b : Addr} {H H' : Hp} {g m c : Int} (x : Go b H H') : Go b H (upd H' b (.lst [.int g, .int m, .int c])) := by
  refine ⟨⟨g, m, c, upd_same⟩, fun a o e => ?_⟩
  have h : a ≠ b := fun z => by
    have : wo b H a = none := if_pos z
    rw [this] at e
    cases e
  have e1 := x.2 a o e
  rw [wo_ne h] at e1 ⊢
  rw [upd_ne h]
  exact e1
theorem Go.free {b a : Addr} {H H' : Hp} (x : Go b H H') (hb : Bag b H) (h : H' a = none) : H a = none := by
  cases q : H a with
  | none => rfl
  | some o =>
    have hne : a ≠ b := fun z => by
      obtain ⟨g, m, c, e⟩ := x.1
      rw [z, e] at h
      cases h
    rw [x.at hne q] at h
    cases h
/-- something new beside the bag -/
theorem Go.new {b a : Addr} {H H' : Hp} {o : HO} (x : Go b H H') (h : H' a = none) : Go b H (upd H' a o) :=
  x.trans (Go.same x.1 fun c u e => by
    rw [upd_ne (ne_of_none e h)]
    exact e)
/-- something tracked, not the bag, is written -/
theorem Go.set {b a : Addr} {H H' : Hp} {o : HO} (x : Go b H H') (h : H a = none) (hb : Bag b H) : Go b H (upd H' a o) := by
  have hne : a ≠ b := fun z => by
    obtain ⟨g, m, c, e⟩ := hb
    rw [z, e] at h
    cases h
  obtain ⟨⟨g, m, c, e⟩, s⟩ := x
  refine ⟨⟨g, m, c, by rw [upd_ne (Ne.symm hne)]; exact e⟩, fun d u e => ?_⟩
  have hd : d ≠ b := fun z => by
    have : wo b H d = none := if_pos z
    rw [this] at e
    cases e
  have hda : d ≠ a := fun z => by
    rw [wo_ne hd, z, h] at e
    cases e
  have := s d u e
  rw [wo_ne hd] at this ⊢
  rw [upd_ne hda]
  exact this
theorem Bag.ne {b a : Addr} {H : Hp} (hb : Bag b H) (h : H a = none) : a ≠ b := fun z => by
  obtain ⟨g, m, c, e⟩ := hb
  rw [z, e] at h
  cases h
/-! ### the promises of the drawing -/
def spDraw : Sp := fun vs H Q _ => ∃ b t, vs = [.ref b, .int t] ∧ 0 < t ∧ t.natAbs.log2 < 9000 ∧ Bag b H ∧ ∀ r : Nat, (r : Int) < t → ∀ H', Go b H H' → Q (.int r) H'
def spBag (K : PySem.W.Frag) : Sp := fun vs H Q _ => ∃ (a : Addr) (ns : List Int) (k : Int), vs = [.ref a, .int k] ∧ SqL K H a (ns.map V.int) ∧ (0 : Int) ≤ k ∧ ∀ p H', H p = none → Same H H' → Bag p H' → Q (.ref p) H'
def spOneOf : Sp := fun vs H Q _ => ∃ b p xs, vs = [.ref b, .ref p] ∧ Bag b H ∧ H p = some (.lst xs) ∧ p ≠ b ∧ xs ≠ [] ∧ xs.length ≤ 1000 ∧ ∀ x ∈ xs, ∀ H', Go b H H' → Q x H'
end Ks

/-! Data that stand in the heap: what each value is as data, at any depth. -/
namespace Ks
open PySem PySem.Spec L2
open PyProof.Rows hiding St
mutual
inductive Da (H : Hp) : V → PyData → Prop
  | non : Da H .non .none
  | bl (b : Bool) : Da H (.bl b) (.bool b)
  | int (i : Int) : Da H (.int i) (.int i)
  | str (z : Str) : Da H (.str z) (.str z)
  | lst {a : Addr} {xs : List V} {ds : List PyData} : H a = some (.lst xs) → DaAll H xs ds → Da H (.ref a) (.list ds)
  | tup {a : Addr} {xs : List V} {ds : List PyData} : H a = some (.tup xs) → DaAll H xs ds → Da H (.ref a) (.tuple ds)
inductive DaAll (H : Hp) : List V → List PyData → Prop
  | nil : DaAll H [] []
  | cons {v : V} {vs : List V} {d : PyData} {ds : List PyData} : Da H v d → DaAll H vs ds → DaAll H (v :: vs) (d :: ds)
end
mutual
theorem Da.dp {K : PySem.W.Frag} {H : Hp} : ∀ (d : PyData) (x : V), Da H x d → Dp K H x d
  | .none, _, h => by cases h; exact .non
  | .bool b, _, h => by cases h; exact .bl _
  | .int i, _, h => by cases h; exact .int _
  | .str x, _, h => by cases h; exact .str _
  | .list ds, _, h => by
    cases h with
    | lst e t => exact .lst (.inl (.inl e)) (DaAll.dp ds _ t)
  | .tuple ds, _, h => by
    cases h with
    | tup e t => exact .tup (.inl (.inl e)) (DaAll.dp ds _ t)
  | .dict _, _, h => by cases h
theorem DaAll.dp {K : PySem.W.Frag} {H : Hp} : ∀ (ds : List PyData) (xs : List V), DaAll H xs ds → DpAll K H xs ds
  | [], _, h => by cases h; exact .nil
  | d :: ds, _, h => by
    cases h with
    | cons h1 h2 => exact .cons (Da.dp d _ h1) (DaAll.dp ds _ h2)
end
mutual
theorem Da.up {H H' : Hp} (s : Same H H') : ∀ (d : PyData) (x : V), Da H x d → Da H' x d
  | .none, _, h => by cases h; exact .non
  | .bool b, _, h => by cases h; exact .bl _
  | .int i, _, h => by cases h; exact .int _
  | .str x, _, h => by cases h; exact .str _
  | .list ds, _, h => by
    cases h with
    | lst e t => exact .lst (s _ _ e) (DaAll.up s ds _ t)
  | .tuple ds, _, h => by
    cases h with
    | tup e t => exact .tup (s _ _ e) (DaAll.up s ds _ t)
  | .dict _, _, h => by cases h
theorem DaAll.up {H H' : Hp} (s : Same H H') : ∀ (ds : List PyData) (xs : List V), DaAll H xs ds → DaAll H' xs ds
  | [], _, h => by cases h; exact .nil
  | d :: ds, _, h => by
    cases h with
    | cons h1 h2 => exact .cons (Da.up s d _ h1) (DaAll.up s ds _ h2)
end
theorem DaAll.len {H : Hp} : ∀ {xs : List V} {ds : List PyData}, DaAll H xs ds → xs.length = ds.length
  | _, _, .nil => rfl
  | _, _, .cons _ t => by rw [List.length_cons, List.length_cons, t.len]
theorem DaAll.at {H : Hp} : ∀ {xs : List V} {ds : List PyData}, DaAll H xs ds → ∀ (i : Nat) (x : V), xs[i]? = some x → ∃ d, ds[i]? = some d ∧ Da H x d
  | _, _, .nil, i, x, h => by cases h
  | _, _, .cons h1 t, 0, x, h => by
    cases h
    exact ⟨_, rfl, h1⟩
  | _, _, .cons h1 t, i + 1, x, h => t.at i x h
theorem DaAll.at' {H : Hp} : ∀ {xs : List V} {ds : List PyData}, DaAll H xs ds → ∀ (i : Nat) (d : PyData), ds[i]? = some d → ∃ x, xs[i]? = some x ∧ Da H x d
  | _, _, .nil, i, x, h => by cases h
  | _, _, .cons h1 t, 0, x, h => by
    cases h
    exact ⟨_, rfl, h1⟩
  | _, _, .cons h1 t, i + 1, x, h => t.at' i x h
theorem DaAll.app {H : Hp} : ∀ {xs ys : List V} {ds es : List PyData}, DaAll H xs ds → DaAll H ys es → DaAll H (xs ++ ys) (ds ++ es)
  | _, _, _, _, .nil, h => h
  | _, _, _, _, .cons h1 t, h => .cons h1 (t.app h)
theorem DaAll.take {H : Hp} : ∀ {xs : List V} {ds : List PyData} (n : Nat), DaAll H xs ds → DaAll H (xs.take n) (ds.take n)
  | _, _, 0, _ => .nil
  | _, _, n + 1, .nil => .nil
  | _, _, n + 1, .cons h1 t => .cons h1 (t.take n)
theorem DaAll.drop {H : Hp} : ∀ {xs : List V} {ds : List PyData} (n : Nat), DaAll H xs ds → DaAll H (xs.drop n) (ds.drop n)
  | _, _, 0, h => h
  | _, _, n + 1, .nil => .nil
  | _, _, n + 1, .cons h1 t => t.drop n
theorem DaAll.rev {H : Hp} : ∀ {xs : List V} {ds : List PyData}, DaAll H xs ds → DaAll H xs.reverse ds.reverse
  | _, _, .nil => .nil
  | _, _, .cons h1 t => by
    rw [List.reverse_cons, List.reverse_cons]
    exact t.rev.app (.cons h1 .nil)
theorem DaAll.of {H : Hp} : ∀ {xs : List V}, (∀ x ∈ xs, ∃ d, Da H x d) → ∃ ds, DaAll H xs ds
  | [], _ => ⟨[], .nil⟩
  | x :: r, h => by
    obtain ⟨d, hd⟩ := h x (by simp)
    obtain ⟨ds, hs⟩ := DaAll.of (xs := r) fun y m => h y (by simp [m])
    exact ⟨_, .cons hd hs⟩
theorem Da.any {H : Hp} {x : V} {d : PyData} (h : Da H x d) : AnyV H x := by
  cases h with
  | non => exact .non
  | bl b => exact .bl b
  | int i => exact .int i
  | str z => exact .str z
  | lst e _ => exact .lst e
  | tup e _ => exact .tup e
/-- data, or a dict -/
inductive Vd (H : Hp) : V → Option PyData → Prop
  | da {x : V} {d : PyData} : Da H x d → Vd H x (some d)
  | dct {a : Addr} {kvs : List (Key × V)} : H a = some (.dK kvs) → Vd H (.ref a) none
theorem Vd.up {H H' : Hp} (s : Same H H') {x : V} {o : Option PyData} (h : Vd H x o) : Vd H' x o := by
  cases h with
  | da h => exact .da (h.up s _ _)
  | dct e => exact .dct (s _ _ e)
def tyD : Option PyData → String
  | none => "dict"
  | some .none => "NoneType"
  | some (.bool _) => "bool"
  | some (.int _) => "int"
  | some (.str _) => "str"
  | some (.list _) => "list"
  | some (.tuple _) => "tuple"
  | some (.dict _) => "dict"
def isTu : Option PyData → Bool
  | some (.tuple _) => true
  | _ => false
def isSt : Option PyData → Bool
  | some (.str _) => true
  | _ => false
def isBo : Option PyData → Bool
  | some (.bool _) => true
  | _ => false
def isIn : Option PyData → Bool
  | some (.bool _) => true
  | some (.int _) => true
  | _ => false
theorem Vd.ty {K : PySem.W.Frag} {H : Hp} {x : V} {o : Option PyData} (h : Vd H x o) : TyX K H x (.type (tyD o)) := by
  cases h with
  | da h =>
    cases h with
    | non => exact .base .non
    | bl b => exact .base (.bl b)
    | int i => exact .base (.int i)
    | str z => exact .base (.str z)
    | lst e _ => exact .base (.lst e)
    | tup e _ => exact .base (.tup e)
  | dct e => exact .base (.dK e)
theorem kit_tu (o : Option PyData) : kitB (tyD o) "tuple" = some (isTu o) := by
  match o with
  | none => exact (show kitB "dict" "tuple" = some false by decide +kernel)
  | some .none => exact (show kitB "NoneType" "tuple" = some false by decide +kernel)
  | some (.bool _) => exact (show kitB "bool" "tuple" = some false by decide +kernel)
  | some (.int _) => exact (show kitB "int" "tuple" = some false by decide +kernel)
  | some (.str _) => exact (show kitB "str" "tuple" = some false by decide +kernel)
  | some (.list _) => exact (show kitB "list" "tuple" = some false by decide +kernel)
  | some (.tuple _) => exact (show kitB "tuple" "tuple" = some true by decide +kernel)
  | some (.dict _) => exact (show kitB "dict" "tuple" = some false by decide +kernel)
theorem kit_st (o : Option PyData) : kitB (tyD o) "str" = some (isSt o) := by
  match o with
  | none => exact (show kitB "dict" "str" = some false by decide +kernel)
  | some .none => exact (show kitB "NoneType" "str" = some false by decide +kernel)
  | some (.bool _) => exact (show kitB "bool" "str" = some false by decide +kernel)
  | some (.int _) => exact (show kitB "int" "str" = some false by decide +kernel)
  | some (.str _) => exact (show kitB "str" "str" = some true by decide +kernel)
  | some (.list _) => exact (show kitB "list" "str" = some false by decide +kernel)
  | some (.tuple _) => exact (show kitB "tuple" "str" = some false by decide +kernel)
  | some (.dict _) => exact (show kitB "dict" "str" = some false by decide +kernel)
theorem kit_bo (o : Option PyData) : kitB (tyD o) "bool" = some (isBo o) := by
  match o with
  | none => exact (show kitB "dict" "bool" = some false by decide +kernel)
  | some .none => exact (show kitB "NoneType" "bool" = some false by decide +kernel)
  | some (.bool _) => exact (show kitB "bool" "bool" = some true by decide +kernel)
  | some (.int _) => exact (show kitB "int" "bool" = some false by decide +kernel)
  | some (.str _) => exact (show kitB "str" "bool" = some false by decide +kernel)
  | some (.list _) => exact (show kitB "list" "bool" = some false by decide +kernel)
  | some (.tuple _) => exact (show kitB "tuple" "bool" = some false by decide +kernel)
  | some (.dict _) => exact (show kitB "dict" "bool" = some false by decide +kernel)
theorem kit_in (o : Option PyData) : kitB (tyD o) "int" = some (isIn o) := by
  match o with
  | none => exact (show kitB "dict" "int" = some false by decide +kernel)
  | some .none => exact (show kitB "NoneType" "int" = some false by decide +kernel)
  | some (.bool _) => exact (show kitB "bool" "int" = some true by decide +kernel)
  | some (.int _) => exact (show kitB "int" "int" = some true by decide +kernel)
  | some (.str _) => exact (show kitB "str" "int" = some false by decide +kernel)
  | some (.list _) => exact (show kitB "list" "int" = some false by decide +kernel)
  | some (.tuple _) => exact (show kitB "tuple" "int" = some false by decide +kernel)
  | some (.dict _) => exact (show kitB "dict" "int" = some false by decide +kernel)
/-! ### small data -/
def asc7 (z : Str) : Bool := (cl z).all fun c => decide (c < 128)
/-- data of at most so many levels, of short texts and short rows -/
def sm : Nat → PyData → Bool
  | _, .none => true
  | _, .bool _ => true
  | _, .int _ => true
  | _, .str z => decide (z.length ≤ 300) && asc7 z
  | n + 1, .list xs => decide (xs.length ≤ 12) && xs.all (sm n)
  | n + 1, .tuple xs => decide (xs.length ≤ 12) && xs.all (sm n)
  | _, _ => false
theorem sok {z : Str} (h : asc7 z = true) : PyData.strOk z = true := by
  show z.cps.all _ = true
  rw [Array.all_eq_true]
  intro i hi
  have h1 : (z.cps.toList).all (fun c => decide (c < 128)) = true := h
  rw [List.all_eq_true] at h1
  have h2 := of_decide_eq_true (h1 z.cps[i] (by simp))
  rw [decide_eq_true_eq]
  omega
theorem sm_lay : ∀ (n : Nat) (d : PyData), sm n d = true → d.canLay0 = true ∧ d.depth ≤ n := by
  intro n
  induction n with
  | zero =>
    intro d h
    cases d with
    | none => exact ⟨by simp [PyData.canLay0], by simp [PyData.depth]⟩
    | bool b => exact ⟨by simp [PyData.canLay0], by simp [PyData.depth]⟩
    | int i => exact ⟨by simp [PyData.canLay0], by simp [PyData.depth]⟩
    | str z =>
      have h' : (decide (z.length ≤ 300) && asc7 z) = true := h
      rw [Bool.and_eq_true] at h'
      exact ⟨by rw [PyData.canLay0]; exact sok h'.2, by simp [PyData.depth]⟩
    | list xs => cases h
    | tuple xs => cases h
    | dict xs => cases h
  | succ n ih =>
    have all : ∀ xs : List PyData, xs.all (sm n) = true → PyData.canLayAll0 xs = true ∧ PyData.depthAll xs ≤ n := by
      intro xs
      induction xs with
      | nil => intro _; exact ⟨by simp [PyData.canLayAll0], by simp [PyData.depthAll]⟩
      | cons d r ihr =>
        intro h
        rw [List.all_cons, Bool.and_eq_true] at h
        have h1 := ih d h.1
        have h2 := ihr h.2
        refine ⟨by rw [PyData.canLayAll0, h1.1, h2.1]; rfl, ?_⟩
        rw [PyData.depthAll]
        exact Nat.max_le.mpr ⟨h1.2, h2.2⟩
    intro d h
    cases d with
    | none => exact ⟨by simp [PyData.canLay0], by simp [PyData.depth]⟩
    | bool b => exact ⟨by simp [PyData.canLay0], by simp [PyData.depth]⟩
    | int i => exact ⟨by simp [PyData.canLay0], by simp [PyData.depth]⟩
    | str z =>
      have h' : (decide (z.length ≤ 300) && asc7 z) = true := h
      rw [Bool.and_eq_true] at h'
      exact ⟨by rw [PyData.canLay0]; exact sok h'.2, by simp [PyData.depth]⟩
    | list xs =>
      have h' : (decide (xs.length ≤ 12) && xs.all (sm n)) = true := h
      rw [Bool.and_eq_true] at h'
      have := all xs h'.2
      exact ⟨by rw [PyData.canLay0]; exact this.1, by rw [PyData.depth]; omega⟩
    | tuple xs =>
      have h' : (decide (xs.length ≤ 12) && xs.all (sm n)) = true := h
      rw [Bool.and_eq_true] at h'
      have := all xs h'.2
      exact ⟨by rw [PyData.canLay0]; exact this.1, by rw [PyData.depth]; omega⟩
    | dict xs => cases h
theorem sm_shaped {n : Nat} {d : PyData} (hn : n ≤ 64) (h : sm n d = true) : SeqAt.shaped d = true := by
  have := sm_lay n d h
  unfold SeqAt.shaped
  rw [this.1, Bool.true_and, decide_eq_true_eq]
  omega
theorem sm_mono : ∀ (n m : Nat) (d : PyData), n ≤ m → sm n d = true → sm m d = true := by
  intro n
  induction n with
  | zero =>
    intro m d hm h
    cases d <;> cases m <;> first | exact h | cases h
  | succ n ih =>
    intro m d hm h
    obtain ⟨m, rfl⟩ : ∃ k, m = k + 1 := ⟨m - 1, by omega⟩
    have all : ∀ xs : List PyData, (decide (xs.length ≤ 12) && xs.all (sm n)) = true → (decide (xs.length ≤ 12) && xs.all (sm m)) = true := by
      intro xs h
      rw [Bool.and_eq_true, List.all_eq_true] at h ⊢
      exact ⟨h.1, fun x hx => ih m x (by omega) (h.2 x hx)⟩
    cases d with
    | list xs => exact all xs h
    | tuple xs => exact all xs h
    | dict xs => cases h
    | _ => exact h
theorem sm_tup {n : Nat} {xs : List PyData} (h : sm (n + 1) (.tuple xs) = true) : xs.length ≤ 12 ∧ ∀ x ∈ xs, sm n x = true := by
  have h' : (decide (xs.length ≤ 12) && xs.all (sm n)) = true := h
  rw [Bool.and_eq_true, List.all_eq_true, decide_eq_true_eq] at h'
  exact h'
theorem sm_str {n : Nat} {z : Str} (h : sm n (.str z) = true) : z.length ≤ 300 ∧ asc7 z = true := by
  have h' : (decide (z.length ≤ 300) && asc7 z) = true := by cases n <;> exact h
  rw [Bool.and_eq_true, decide_eq_true_eq] at h'
  exact h'
/-- whether the data are this text -/
def isW (s : Str) : PyData → Bool
  | .str z => decide (z = s)
  | _ => false
theorem eqv_str (d : PyData) (s : Str) : PyData.eqv d (.str s) = isW s d := by
  cases d <;> simp only [PyData.eqv, isW]
  rename_i z; by_cases h : z = s <;> simp [h]
end Ks

namespace K66
open PySem PySem.Spec L2
open PyProof.Rows hiding St
def topS (i : Nat) : Stmt := PySem.Challenge.pw_mayrows_k66_whole_promises_and_names.main.body.getD i (.Pass ⟨0, 0, 0, 0⟩)
abbrev sIsNumber : Stmt := topS 5
theorem scIsNumber : FnScope ["value", "low", "high"] ["value", "low", "high"] (defScope sIsNumber) := ⟨rfl, rfl, rfl, by decide +kernel, rfl, by decide +kernel, by decide +kernel⟩
abbrev sAreNumbersBelow : Stmt := topS 6
theorem scAreNumbersBelow : FnScope ["value", "bound", "part"] ["value", "bound"] (defScope sAreNumbersBelow) := ⟨rfl, rfl, rfl, by decide +kernel, rfl, by decide +kernel, by decide +kernel⟩
abbrev sAreAscending : Stmt := topS 7
theorem scAreAscending : FnScope ["parts", "part", "following"] ["parts"] (defScope sAreAscending) := ⟨rfl, rfl, rfl, by decide +kernel, rfl, by decide +kernel, by decide +kernel⟩
abbrev sIsName : Stmt := topS 13
theorem scIsName : FnScope ["value"] ["value"] (defScope sIsName) := ⟨rfl, rfl, rfl, by decide +kernel, rfl, by decide +kernel, by decide +kernel⟩
abbrev sIsPromise : Stmt := topS 14
theorem scIsPromise : FnScope ["value"] ["value"] (defScope sIsPromise) := ⟨rfl, rfl, rfl, by decide +kernel, rfl, by decide +kernel, by decide +kernel⟩
abbrev sNamesOf : Stmt := topS 15
theorem scNamesOf : FnScope ["promise"] ["promise"] (defScope sNamesOf) := ⟨rfl, rfl, rfl, by decide +kernel, rfl, by decide +kernel, by decide +kernel⟩
abbrev sCheckPromise : Stmt := topS 16
theorem scCheckPromise : FnScope ["promise"] ["promise"] (defScope sCheckPromise) := ⟨rfl, rfl, rfl, by decide +kernel, rfl, by decide +kernel, by decide +kernel⟩
abbrev sAreToldLines : Stmt := topS 17
theorem scAreToldLines : FnScope ["value"] ["value"] (defScope sAreToldLines) := ⟨rfl, rfl, rfl, by decide +kernel, rfl, by decide +kernel, by decide +kernel⟩
abbrev sLbag : Stmt := topS 19
theorem scLbag : FnScope ["_law_script", "_law_at", "_law_cell", "_law_great", "_law_mixed"] ["_law_script", "_law_at"] (defScope sLbag) := ⟨rfl, rfl, rfl, by decide +kernel, rfl, by decide +kernel, by decide +kernel⟩
abbrev sLdraw : Stmt := topS 20
theorem scLdraw : FnScope ["_law_bag_here", "_law_total", "_law_found", "_law_one", "_law_two"] ["_law_bag_here", "_law_total"] (defScope sLdraw) := ⟨rfl, rfl, rfl, by decide +kernel, rfl, by decide +kernel, by decide +kernel⟩
abbrev sLoneOf : Stmt := topS 21
theorem scLoneOf : FnScope ["_law_bag_here", "_law_items"] ["_law_bag_here", "_law_items"] (defScope sLoneOf) := ⟨rfl, rfl, rfl, by decide +kernel, rfl, by decide +kernel, by decide +kernel⟩
abbrev sLodd : Stmt := topS 22
theorem scLodd : FnScope ["_law_bag_here"] ["_law_bag_here"] (defScope sLodd) := ⟨rfl, rfl, rfl, by decide +kernel, rfl, by decide +kernel, by decide +kernel⟩
abbrev sLspoiled : Stmt := topS 23
theorem scLspoiled : FnScope ["_law_bag_here", "_law_value", "_law_deep", "_law_at"] ["_law_bag_here", "_law_value", "_law_deep"] (defScope sLspoiled) := ⟨rfl, rfl, rfl, by decide +kernel, rfl, by decide +kernel, by decide +kernel⟩
abbrev sLisNamed : Stmt := topS 24
theorem scLisNamed : FnScope ["_law_value", "_law_sign"] ["_law_value"] (defScope sLisNamed) := ⟨rfl, rfl, rfl, by decide +kernel, rfl, by decide +kernel, by decide +kernel⟩
abbrev sLisNumber : Stmt := topS 25
theorem scLisNumber : FnScope ["_law_value", "_law_high"] ["_law_value", "_law_high"] (defScope sLisNumber) := ⟨rfl, rfl, rfl, by decide +kernel, rfl, by decide +kernel, by decide +kernel⟩
abbrev sLareLines : Stmt := topS 26
theorem scLareLines : FnScope ["_law_value", "_law_line"] ["_law_value"] (defScope sLareLines) := ⟨rfl, rfl, rfl, by decide +kernel, rfl, by decide +kernel, by decide +kernel⟩
abbrev sLisTold : Stmt := topS 27
theorem scLisTold : FnScope ["_law_value"] ["_law_value"] (defScope sLisTold) := ⟨rfl, rfl, rfl, by decide +kernel, rfl, by decide +kernel, by decide +kernel⟩
abbrev sLname : Stmt := topS 28
theorem scLname : FnScope ["_law_bag_here", "_law_size", "_law_turn"] ["_law_bag_here"] (defScope sLname) := ⟨rfl, rfl, rfl, by decide +kernel, rfl, by decide +kernel, by decide +kernel⟩
abbrev sLanyPromise : Stmt := topS 29
theorem scLanyPromise : FnScope ["_law_bag_here", "_law_word", "_law_one", "_law_lines", "_law_line"] ["_law_bag_here"] (defScope sLanyPromise) := ⟨rfl, rfl, rfl, by decide +kernel, rfl, by decide +kernel, by decide +kernel⟩
abbrev sLisRight : Stmt := topS 30
theorem scLisRight : FnScope ["_law_value", "_law_due", "_law_names", "_law_wanted"] ["_law_value"] (defScope sLisRight) := ⟨rfl, rfl, rfl, by decide +kernel, rfl, by decide +kernel, by decide +kernel⟩
abbrev sLaw : Stmt := topS 31
theorem scLaw : FnScope ["_law_script", "_law_at", "_law_bag_here", "_law_turn", "_law_made", "_law_name_here", "_law_values", "_law_value"] ["_law_script"] (defScope sLaw) := ⟨rfl, rfl, rfl, by decide +kernel, rfl, by decide +kernel, by decide +kernel⟩
end K66

namespace Ks
open PySem PySem.Spec L2
open PyProof.Rows hiding St
/-- more built-ins' names -/
structure By (mg : Str → Option Value) : Prop where
  tuple : mg "tuple" = none
  all : mg "all" = none
  sorted : mg "sorted" = none
  dict : mg "dict" = none
/-- x in a tuple of data -/
def rInT (K : PySem.W.Frag) : R2 := fun x y H Q => ∃ d ds, Dp K H x d ∧ Dp K H y (.tuple ds) ∧ SeqAt.shaped d = true ∧ SeqAt.shaped (.tuple ds) = true ∧ Q (.bl (ds.any fun z => PyData.eqv z d)) H
theorem op_inT {X : Cx} (hu : X.A.units + 65 < cLine) : OpR X (compareOp .In) (rInT X.K) := by
  intro pins s σ H x y v u Q I rx ry h
  obtain ⟨d, ds, hd, he, sd, se, q⟩ := h
  obtain ⟨as, r1⟩ := Dp.reads I d x v hd rx
  obtain ⟨bs, r2⟩ := Dp.reads I (.tuple ds) y u he ry
  exact SeqAt.in_tuple_reads r2 r1 (SeqAt.canLay_of_shaped se) (SeqAt.canLay_of_shaped sd) (room_in_shaped sd hu) ⟨.bl _, H, I, rfl, q⟩
theorem same_new' {H : Hp} {p : Addr} {o : HO} (np : H p = none) : Same H (upd H p o) := fun b x e => by rw [upd_ne (ne_of_none e np)]; exact e
theorem walk_zipT {K : PySem.W.Frag} {a b : Addr} {xs ys : List V} {n : Nat} (hn : n = min xs.length ys.length) : Walk (RZ.ItzT K a b) n (fun H => SqT K H a xs ∧ SqT K H b ys) (YPair (fun i => xs[i]?) (fun i => ys[i]?)) := by
  subst hn
  refine ⟨fun i _ hi q => ?_, fun _ q => ⟨xs, ys, q.1, q.2, by omega⟩, fun i H v H' _ q y => ?_⟩
  · have h1 : i < xs.length := by omega
    have h2 : i < ys.length := by omega
    exact ⟨xs, ys, xs[i], ys[i], q.1, q.2, by simp [h1], by simp [h2]⟩
  · obtain ⟨T, x, z, h1, h2, h3, h4, h5⟩ := y
    exact ⟨T, x, z, h1, h2, h3, h4 xs q.1, h5 ys q.2⟩
def numD (lo hi : Int) : PyData → Bool
  | .int i => decide (lo ≤ i) && decide (i ≤ hi)
  | _ => false
theorem num_is {H : Hp} {x : V} {d : PyData} (h : Da H x d) (lo hi : Int) : isNum lo hi x = numD lo hi d := by
  cases h <;> rfl
/-- numbers from 0 to below -/
def numsB (b : Int) : PyData → Bool
  | .tuple ds => ds.all (numD 0 (b - 1))
  | _ => false
/-- each less than the one behind it -/
def ascN (ns : List Int) : Bool := ((ns.zip (ns.drop 1)).map fun p => decide (p.1 < p.2)).all id
/-- the ints of data -/
def intsD : List PyData → List Int := fun ds => ds.filterMap fun d => match d with | .int i => some i | _ => none
theorem ints_of {lo hi : Int} {H : Hp} : ∀ {xs : List V} {ds : List PyData}, DaAll H xs ds → ds.all (numD lo hi) = true → xs = (intsD ds).map V.int ∧ ds = (intsD ds).map PyData.int ∧ ∀ n ∈ intsD ds, lo ≤ n ∧ n ≤ hi
  | _, _, .nil, _ => ⟨rfl, rfl, fun n h => by cases h⟩
  | _, _, .cons h1 t, h => by
    rw [List.all_cons, Bool.and_eq_true] at h
    obtain ⟨e1, e2, e3⟩ := ints_of t h.2
    cases h1 with
    | int i =>
      refine ⟨by show V.int i :: _ = V.int i :: _; rw [e1]; rfl, congrArg (PyData.int i :: ·) e2, fun n hn => ?_⟩
      have hn' : n ∈ i :: intsD _ := hn
      rcases List.mem_cons.mp hn' with rfl | hn
      · have := h.1
        have h2 : (decide (lo ≤ n) && decide (n ≤ hi)) = true := this
        rw [Bool.and_eq_true, decide_eq_true_eq, decide_eq_true_eq] at h2
        exact h2
      · exact e3 n hn
    | _ => exact absurd h.1 (by simp [numD])
def linesD (d : PyData) : Bool := match d with
  | .tuple ds => ds.all (numD 0 3) && ascN (intsD ds)
  | _ => false
/-! ### names -/
def letters : Str := "abcdefghijklmnopqrstuvwxyz"
def nmZ (z : Str) : Bool := decide (1 ≤ z.length) && (decide (z.length ≤ 8) && (cl z).all fun c => letters.cps.contains c)
def nmD : Option PyData → Bool
  | some (.str z) => nmZ z
  | _ => false
/-- a promise -/
def prom : Option PyData → Bool
  | some (.tuple [w, a]) => nmD (some a) && isW "answered" w
  | some (.tuple [w, a, c]) => nmD (some a) && (if isW "most" w = true then numD 0 99 c else if isW "ahead" w = true then numD 0 3 c else (isW "within" w || isW "alike" w) && nmD (some c))
  | some (.tuple [w, a, c, n]) => nmD (some a) && (isW "told" w && (linesD c && numD 0 3 n))
  | _ => false
end Ks
namespace K66
open PySem PySem.Spec L2 Ks
open PyProof.Rows hiding St
section
variable {P : Program} {w : World} {K : PySem.W.Frag} {mg : Str → Option Value} {base : Heap}
def spIsNumber : Sp := fun vs H Q _ => ∃ x lo hi, vs = [x, .int lo, .int hi] ∧ AnyV H x ∧ Q (.bl (isNum lo hi x)) H
theorem okIsNumber {f : Addr} {fd : FuncData} (D : Dn K mg "is_number" sIsNumber ["value", "low", "high"] f fd) (T : Bx mg) : FnOk P w K mg base CX0 1 f fd ["value", "low", "high"] spIsNumber := by
  refine D.F.ok scIsNumber (fun vs H Q E h => ?_) (fun cdv A outer s H vs Q E hr h => ?_)
  · obtain ⟨x, lo, hi, rfl, _⟩ := h
    rfl
  · obtain ⟨x, lo, hi, rfl, hx, q⟩ := h
    refine ⟨_, (pss_one (ps_ret (pe_and (pe_callB call_isi (by rfl) T.m_isinstance (by decide +kernel) (pa_cons (pv 0) (pa_cons (pe_bltn (v := .ty "int") (by rfl) T.m_int (by decide +kernel) rfl) pa_nil))) (pe_and (pe_not (pe_callB call_isi (by rfl) T.m_isinstance (by decide +kernel) (pa_cons (pv 0) (pa_cons (pe_bltn (v := .ty "bool") (by rfl) T.m_bool (by decide +kernel) rfl) pa_nil)))) (pe_one (pe_chain op_le op_le (pv 1) (pv 0) (pv 2))))))), ?_⟩
    obtain ⟨t, ty, k1, k2, _⟩ := hx.typed (K := K)
    refine ⟨x, rfl, x, .ty "int", .type t, .type "int", isI x, rfl, .ty "int", ty, kit_ty k1, isI x, rfl, ite2 (fun e1 => ?_) (fun e1 => ?_)⟩
    · refine ⟨x, rfl, x, .ty "bool", .type t, .type "bool", isB x, rfl, .ty "bool", ty, kit_ty k2, isB x, rfl, !isB x, rfl, ite2 (fun e2 => ?_) (fun e2 => ?_)⟩
      · cases hx with
        | int i =>
          refine ⟨_, rfl, _, rfl, lo, i, rfl, rfl, decide (lo ≤ i), rfl, ite2 (fun e3 => ?_) (fun e3 => ?_)⟩
          · refine ⟨_, rfl, i, hi, rfl, rfl, ?_⟩
            have e : isNum lo hi (.int i) = decide (i ≤ hi) := by
              show (decide (lo ≤ i) && decide (i ≤ hi)) = _
              rw [e3, Bool.true_and]
            rw [e] at q
            exact q
          · have e : isNum lo hi (.int i) = false := by
              show (decide (lo ≤ i) && decide (i ≤ hi)) = _
              rw [Bool.eq_false_iff.mpr e3, Bool.false_and]
            rw [e] at q
            exact q
        | bl b => cases e2
        | non => cases e1
        | str z => cases e1
        | lst _ => cases e1
        | tup _ => cases e1
        | dct _ => cases e1
      · have e : isNum lo hi x = false := by
          cases hx <;> first | rfl | exact absurd rfl e2
        rw [e] at q
        exact q
    · have e : isNum lo hi x = false := by
        cases hx <;> first | rfl | exact absurd rfl e1
      rw [e] at q
      exact q

/-! ### are_numbers_below -/
def spNumsBelow : Sp := fun vs H Q _ => ∃ (x : V) (d : PyData) (n : Nat) (b : Int), vs = [x, .int b] ∧ Da H x d ∧ sm n d = true ∧ ∀ H', Same H H' → Q (.bl (numsB b d)) H'
theorem okNumsBelow {f f1 : Addr} {fd d1 : FuncData} (D : Dn K mg "are_numbers_below" sAreNumbersBelow ["value", "bound"] f fd) (DIsNumber : Dn K mg "is_number" sIsNumber ["value", "low", "high"] f1 d1) (T : Bx mg) (U : By mg) : FnOk P w K mg base CX0 2 f fd ["value", "bound"] spNumsBelow := by
  have GIsNumber : FnOk P w K mg base CX0 1 _ _ _ _ := okIsNumber DIsNumber T
  refine D.F.ok scAreNumbersBelow (fun vs H Q E h => ?_) (fun cdv A outer s H vs Q E hr h => ?_)
  · obtain ⟨x, d, n, b, rfl, _⟩ := h
    rfl
  · obtain ⟨x, d, n, b, rfl, hx, hsm, q⟩ := h
    refine ⟨_, ((pss_one (ps_ret (pe_and (pe_callB call_isi (by rfl) T.m_isinstance (by decide +kernel) (pa_cons (pv 0) (pa_cons (pe_bltn (v := .ty "tuple") (by rfl) U.tuple (by decide +kernel) rfl) pa_nil))) (pe_one (pe_callB (cr_all rfl) (by rfl) U.all (by decide +kernel) (pa_cons (pe_lc (own := [("part", 2)]) (g := gName 2) rfl scAreNumbersBelow.nd (pi_tup (pv 0)) (blkOk_by (own := [("part", 2)]) (N := ["value", "bound", "part"]) (sc := defScope sAreNumbersBelow) (by decide +kernel)) (fun _ _ _ _ _ => (pg_name (i := 2) scAreNumbersBelow.nd rfl (Or.inl rfl))) (fun _ _ _ _ _ => pts_nil) (fun _ _ _ _ _ => (pe_call GIsNumber (hr.mono (by decide)) (by rfl) DIsNumber.g DIsNumber.F.kp DIsNumber.b .nil pass0 (pa_cons (pv 2) (pa_cons pe_int (pa_cons (pe_op op_sub (pv 1) pe_int) pa_nil)))))) pa_nil))))))), ?_⟩
    refine ⟨x, rfl, x, .ty "tuple", .type (tyD (some d)), .type "tuple", isTu (some d), rfl, .ty "tuple", (Vd.da hx).ty, kit_ty (kit_tu _), _, rfl, ite2 (fun e => ?_) (fun e => ?_)⟩
    · cases hx with
      | @tup p xs ds hp ha =>
        obtain ⟨n, rfl⟩ : ∃ m, n = m + 1 := by
          cases n with
          | zero => cases hsm
          | succ m => exact ⟨m, rfl⟩
        obtain ⟨hl, hs⟩ := sm_tup hsm
        refine ⟨.ref p, rfl, p, rfl, ⟨_, .inl (.inl hp)⟩, fun D nD => ?_⟩
        refine lc_it (walk_tup (xs := xs)) (fun i H' => Same H H' ∧ H' D = some (.lst (((ds.take i).map (numD 0 (b - 1))).map V.bl))) ⟨same_new' nD, upd_same⟩ (fun _ _ _ h => .inl (.inl (h.1 _ _ hp))) (fun i x H1 H2 hi h hy => ?_) (fun H1 h => ?_)
        · obtain ⟨s1, eD⟩ := h
          obtain ⟨rfl, hx⟩ := hy
          obtain ⟨d, hd, dx⟩ := ha.at i x hx
          refine ⟨rfl, x, rfl, .int b, rfl, b, 1, rfl, rfl, x, 0, b - 1, rfl, (dx.up s1 _ _).any, ?_⟩
          rw [num_is dx]
          refine ⟨_, eD, ?_, fun a o ea => ?_, ?_⟩
          · rw [List.length_map, List.length_map, List.length_take]
            exact Nat.lt_of_lt_of_le (show min i ds.length < 13 by omega) (by decide)
          · rw [upd_ne (ne_of_none ea nD)]
            exact s1 a o ea
          · rw [upd_same, List.take_succ, hd, List.map_append, List.map_append]
            rfl
        · obtain ⟨s1, eD⟩ := h
          refine ⟨D, _, rfl, .inl (.inl eD), ?_⟩
          have : ((ds.take xs.length).map (numD 0 (b - 1))).all id = numsB b (.tuple ds) := by
            rw [ha.len, List.take_length, List.all_map]
            rfl
          rw [this]
          exact q _ s1
      | _ => cases e
    · have e2 : numsB b d = false := by
        cases d <;> first | rfl | exact absurd rfl e
      have := q H (Same.refl H)
      rw [e2] at this
      exact this
/-! ### are_ascending, of ints -/
def spAscending : Sp := fun vs H Q _ => ∃ (p : Addr) (ns : List Int), vs = [.ref p] ∧ H p = some (.tup (ns.map V.int)) ∧ ns.length ≤ 12 ∧ ∀ H', Same H H' → Q (.bl (ascN ns)) H'
theorem okAscending {f : Addr} {fd : FuncData} (D : Dn K mg "are_ascending" sAreAscending ["parts"] f fd) (T : Bx mg) (U : By mg) : FnOk P w K mg base CX0 2 f fd ["parts"] spAscending := by
  refine FnOk.mono (j := 1) (D.F.ok scAreAscending (fun vs H Q E h => ?_) (fun cdv A outer s H vs Q E hr h => ?_)) (by decide)
  · obtain ⟨p, ns, rfl, _⟩ := h
    rfl
  · obtain ⟨p, ns, rfl, hp, hl, q⟩ := h
    refine ⟨_, (pss_one (ps_ret (pe_callB (cr_all rfl) (by rfl) U.all (by decide +kernel) (pa_cons (pe_lc (own := [("part", 1), ("following", 2)]) (g := gTup K 2 (gCons (gName 1) (gCons (gName 2) gNil))) rfl scAreAscending.nd (RZ.pi_zipA (by rfl) T.m_zip (pa_cons (pv 0) (pa_cons (pe_slice sl_tupA (pv 0) (po_some pe_int) po_none) pa_nil))) (blkOk_by (own := [("part", 1), ("following", 2)]) (N := ["parts", "part", "following"]) (sc := defScope sAreAscending) (by decide +kernel)) (fun _ _ _ _ _ => (pg_tup rfl (pgs_cons (pg_name (i := 1) scAreAscending.nd rfl (Or.inl rfl)) (pgs_cons (pg_name (i := 2) scAreAscending.nd rfl (Or.inl rfl)) pgs_nil)))) (fun _ _ _ _ _ => pts_nil) (fun _ _ _ _ _ => (pe_cmpR op_lt (pv 1) (pv 2) (nomark _)))) pa_nil)))), ?_⟩
    have sq : ∀ {H' : Hp}, Same H H' → SqT K H' p (ns.map V.int) := fun s1 => .inl (.inl (s1 _ _ hp))
    refine ⟨.ref p, rfl, .ref p, rfl, 1, rfl, p, _, rfl, .inl (.inl hp), fun wh => ?_, fun nw => fun r nr => ?_⟩
    · have e0 : ns = [] := by
        cases ns with
        | nil => rfl
        | cons a t =>
          have h1 := wh.1
          rw [show HT.sIx ((a :: t).map V.int).length 0 (some 1) = min 1 ((a :: t).map V.int).length from HT.sIx_nat _ _ 1] at h1
          rw [List.length_map, List.length_cons] at h1
          omega
      subst e0
      refine ⟨p, p, _, _, rfl, .inr ⟨.inl (.inl hp), .inl (.inl hp), fun D nD => ?_⟩⟩
      refine lc_it (walk_zipT (xs := []) (ys := []) (n := 0) rfl) (fun i H' => Same H H' ∧ H' D = some (.lst [])) ⟨same_new' nD, upd_same⟩ (fun _ _ _ h => ⟨sq h.1, sq h.1⟩) (fun i x H1 H2 hi h hy => absurd hi (Nat.not_lt_zero i)) (fun H1 h => ?_)
      exact ⟨D, [], rfl, .inl (.inl h.2), q _ h.1⟩
    · have er : cutV (ns.map V.int) (some 1) none = (ns.drop 1).map V.int := by
        unfold cutV
        rw [show HT.sIx (ns.map V.int).length 0 (some 1) = min 1 (ns.map V.int).length from HT.sIx_nat _ _ 1, HT.sIx_none, List.length_map]
        cases ns with
        | nil => rfl
        | cons a t =>
          rw [List.length_cons, show min 1 (t.length + 1) = 1 by omega, List.map_cons, List.drop_succ_cons, List.drop_zero, List.drop_succ_cons, List.drop_zero, List.take_of_length_le (by rw [List.length_map]; omega)]
      rw [er]
      have s0 : Same H (upd H r (.tup ((ns.drop 1).map V.int))) := same_new' nr
      have pr : p ≠ r := ne_of_none hp nr
      refine ⟨p, r, _, _, rfl, .inr ⟨sq s0, .inl (.inl upd_same), fun D nD => ?_⟩⟩
      refine lc_it (walk_zipT (xs := ns.map V.int) (ys := (ns.drop 1).map V.int) (n := (ns.drop 1).length) (by rw [List.length_map, List.length_map, List.length_drop]; omega)) (fun i H' => Same (upd H r (.tup ((ns.drop 1).map V.int))) H' ∧ H' D = some (.lst ((((ns.zip (ns.drop 1)).take i).map fun p => decide (p.1 < p.2)).map V.bl))) ⟨same_new' nD, upd_same⟩ (fun _ _ _ h => ⟨sq (s0.trans h.1), .inl (.inl (h.1 _ _ upd_same))⟩) (fun i x H1 H2 hi h hy => ?_) (fun H1 h => ?_)
      · obtain ⟨s1, eD⟩ := h
        obtain ⟨t, x, y, rfl, nt, rfl, hx, hyy⟩ := hy
        have hx' : (ns.map V.int)[i]? = some x := hx
        have hy' : ((ns.drop 1).map V.int)[i]? = some y := hyy
        rw [List.getElem?_map] at hx' hy'
        obtain ⟨n, hn, rfl⟩ := Option.map_eq_some_iff.mp hx'
        obtain ⟨b, hb, rfl⟩ := Option.map_eq_some_iff.mp hy'
        have nDt : D ≠ t := ne_of_none eD nt
        refine ⟨t, _, rfl, .inl (.inl upd_same), rfl, _, _, rfl, _, _, rfl, rfl, rfl, .int n, rfl, .int b, rfl, n, b, rfl, rfl, ?_⟩
        refine ⟨_, by rw [upd_ne nDt]; exact eD, ?_, fun a o ea => ?_, ?_⟩
        · rw [List.length_map, List.length_map, List.length_take]
          exact Nat.lt_of_lt_of_le (show min i (ns.zip (ns.drop 1)).length < 13 by rw [List.length_zip, List.length_drop]; omega) (by decide)
        · have e1 := s1 a o ea
          rw [upd_ne (ne_of_none ea nD), upd_ne (ne_of_none e1 nt)]
          exact e1
        · have e2 : (ns.zip (ns.drop 1))[i]? = some (n, b) := by
            rw [List.getElem?_zip_eq_some]
            exact ⟨hn, hb⟩
          rw [upd_same, List.take_succ, e2, List.map_append, List.map_append]
          rfl
      · obtain ⟨s1, eD⟩ := h
        refine ⟨D, _, rfl, .inl (.inl eD), ?_⟩
        have : ((((ns.zip (ns.drop 1)).take (ns.drop 1).length).map fun p => decide (p.1 < p.2))).all id = ascN ns := by
          rw [List.take_of_length_le (by rw [List.length_zip]; omega)]
          rfl
        rw [this]
        exact q _ (s0.trans s1)
/-! ### _are_told_lines -/
theorem sm_lines {n : Nat} {d : PyData} (h : sm n d = true) (h2 : numsB 4 d = true) : ∃ ds, d = .tuple ds ∧ ds.length ≤ 12 ∧ ds.all (numD 0 3) = true := by
  cases d with
  | tuple ds =>
    cases n with
    | zero => cases h
    | succ n => exact ⟨ds, rfl, (sm_tup h).1, h2⟩
  | _ => cases h2
theorem linesD_of (d : PyData) : linesD d = (numsB 4 d && match d with | .tuple ds => ascN (intsD ds) | _ => true) := by
  cases d <;> rfl
def spLines : Sp := fun vs H Q _ => ∃ (x : V) (d : PyData) (n : Nat), vs = [x] ∧ Da H x d ∧ sm n d = true ∧ ∀ H', Same H H' → Q (.bl (linesD d)) H'
theorem okLines {f f1 f2 f3 : Addr} {fd d1 d2 d3 : FuncData} {tM : Tok} (D : Dn K mg "_are_told_lines" sAreToldLines ["value"] f fd) (DAreNumbersBelow : Dn K mg "are_numbers_below" sAreNumbersBelow ["value", "bound"] f2 d2) (DAreAscending : Dn K mg "are_ascending" sAreAscending ["parts"] f3 d3) (DIsNumber : Dn K mg "is_number" sIsNumber ["value", "low", "high"] f1 d1) (T : Bx mg) (U : By mg) (hM : mg "MANY_LINES" = some (.int 4 tM)) : FnOk P w K mg base CX0 3 f fd ["value"] spLines := by
  have GAreNumbersBelow : FnOk P w K mg base CX0 2 _ _ _ _ := okNumsBelow DAreNumbersBelow DIsNumber T U
  have GAreAscending : FnOk P w K mg base CX0 2 _ _ _ _ := okAscending DAreAscending T U
  refine D.F.ok scAreToldLines (fun vs H Q E h => ?_) (fun cdv A outer s H vs Q E hr h => ?_)
  · obtain ⟨x, d, n, rfl, _⟩ := h
    rfl
  · obtain ⟨x, d, n, rfl, hx, hsm, q⟩ := h
    refine ⟨_, (pss_one (ps_ret (pe_and (pe_call GAreNumbersBelow (hr.mono (by decide)) (by rfl) DAreNumbersBelow.g DAreNumbersBelow.F.kp DAreNumbersBelow.b .nil pass0 (pa_cons (pv 0) (pa_cons (pe_glob (v := .int 4) rfl hM ⟨_, rfl⟩) pa_nil))) (pe_one (pe_call GAreAscending (hr.mono (by decide)) (by rfl) DAreAscending.g DAreAscending.F.kp DAreAscending.b .nil pass0 (pa_cons (pv 0) pa_nil)))))), ?_⟩
    refine ⟨x, rfl, x, d, n, 4, rfl, hx, hsm, fun H1 s1 => ⟨_, rfl, ite2 (fun e => ?_) (fun e => ?_)⟩⟩
    · obtain ⟨ds, rfl, hl, ha⟩ := sm_lines hsm e
      cases hx with
      | @tup p xs _ hp hd =>
        obtain ⟨e1, e2, _⟩ := ints_of hd ha
        refine ⟨.ref p, rfl, p, intsD ds, rfl, ?_, ?_, fun H2 s2 => ?_⟩
        · rw [← e1]
          exact s1 _ _ hp
        · have : (intsD ds).length = ds.length := by
            have := congrArg List.length e2
            rw [List.length_map] at this
            exact this.symm
          omega
        · have := q H2 (s1.trans s2)
          rw [linesD_of, e] at this
          exact this
    · have e2 : numsB 4 d = false := Bool.eq_false_iff.mpr e
      have := q H1 s1
      rw [linesD_of, e2] at this
      exact this
end
end K66

namespace Ks
open PySem PySem.Spec L2
theorem units65 {k : Nat} {A : Around} (hr : Room k A) : A.units + 65 < cLine := by
  have := hr.un
  omega
end Ks
namespace K66
open PySem PySem.Spec L2 Ks
open PyProof.Rows hiding St
section
variable {P : Program} {w : World} {K : PySem.W.Frag} {mg : Str → Option Value} {base : Heap}
/-! ### is_name -/
def spIsName : Sp := fun vs H Q _ => ∃ (x : V) (o : Option PyData), vs = [x] ∧ Vd H x o ∧ (∀ z, o = some (.str z) → z.length ≤ sizeLine) ∧ Q (.bl (nmD o)) H
theorem okIsName {f : Addr} {fd : FuncData} {tN tL : Tok} (D : Dn K mg "is_name" sIsName ["value"] f fd) (T : Bx mg) (hN : mg "MAX_NAME" = some (.int 8 tN)) (hL : mg "LETTERS" = some (.str letters tL)) : FnOk P w K mg base CX0 1 f fd ["value"] spIsName := by
  refine D.F.ok scIsName (fun vs H Q E h => ?_) (fun cdv A outer s H vs Q E hr h => ?_)
  · obtain ⟨x, o, rfl, _⟩ := h
    rfl
  · obtain ⟨x, o, rfl, hx, hz, q⟩ := h
    refine ⟨_, (pss_one (ps_ret (pe_and (pe_callB call_isi (by rfl) T.m_isinstance (by decide +kernel) (pa_cons (pv 0) (pa_cons (pe_bltn (v := .ty "str") (by rfl) T.m_str (by decide +kernel) rfl) pa_nil))) (pe_and (pe_chain op_le op_le pe_int (pe_callB call_len (by rfl) T.m_len (by decide +kernel) (pa_cons (pv 0) pa_nil)) (pe_glob (v := .int 8) rfl hN ⟨_, rfl⟩)) (pe_one (pe_cmpR op_eq (pe_bm PySem.F.plainAttrs_str PySem.F.slot_str_strip PySem.F.type_str_strip mt_stripChars (pv 0) (pa_cons (pe_glob (v := .str letters) rfl hL ⟨_, rfl⟩) pa_nil)) pe_str (nomark _))))))), ?_⟩
    refine ⟨x, rfl, x, .ty "str", .type (tyD o), .type "str", isSt o, rfl, .ty "str", hx.ty, kit_ty (kit_st _), _, rfl, ite2 (fun e => ?_) (fun e => ?_)⟩
    · obtain ⟨z, rfl⟩ : ∃ z, o = some (.str z) := by
        match o, e with
        | some (.str z), _ => exact ⟨z, rfl⟩
      have hl := hz z rfl
      cases hx with
      | da hx =>
        cases hx with
        | str z =>
          refine ⟨_, rfl, .str z, z.length, rfl, ⟨hl, rfl⟩, 1, (z.length : Int), rfl, rfl, _, rfl, ite2 (fun e1 => ?_) (fun e1 => ?_)⟩
          · refine ⟨(z.length : Int), 8, rfl, rfl, _, rfl, ite2 (fun e2 => ?_) (fun e2 => ?_)⟩
            · refine ⟨_, rfl, rfl, z, letters, rfl, rfl, hl, rfl, ?_⟩
              have h1 : (1 : Int) ≤ z.length := of_decide_eq_true e1
              have h2 : (z.length : Int) ≤ 8 := of_decide_eq_true e2
              have : nmD (some (.str z)) = decide (V.str (Txt.stripChars z letters) = V.str ("" : Str)) := by
                rw [strip_empty]
                show (decide (1 ≤ z.length) && (decide (z.length ≤ 8) && _)) = _
                rw [decide_eq_true (by omega), decide_eq_true (by omega), Bool.true_and, Bool.true_and]
              rw [this] at q
              exact q
            · have h2 : ¬ (z.length : Int) ≤ 8 := by simpa using e2
              have : nmD (some (.str z)) = false := by
                show (decide (1 ≤ z.length) && (decide (z.length ≤ 8) && _)) = false
                rw [decide_eq_false (show ¬ z.length ≤ 8 by omega), Bool.false_and, Bool.and_false]
              rw [this] at q
              exact q
          · have h2 : ¬ (1 : Int) ≤ z.length := by simpa using e1
            have : nmD (some (.str z)) = false := by
              show (decide (1 ≤ z.length) && _) = false
              rw [decide_eq_false (show ¬ 1 ≤ z.length by omega), Bool.false_and]
            rw [this] at q
            exact ⟨_, rfl, iteF q⟩
    · have : nmD o = false := by
        match o, e with
        | none, _ => rfl
        | some (.str z), e => exact absurd rfl e
        | some .none, _ => rfl
        | some (.bool _), _ => rfl
        | some (.int _), _ => rfl
        | some (.list _), _ => rfl
        | some (.tuple _), _ => rfl
        | some (.dict _), _ => rfl
      rw [this] at q
      exact q
/-! ### is_promise -/
theorem prom_no {w a : PyData} {r : List PyData} (h : nmD (some a) = false) : prom (some (.tuple (w :: a :: r))) = false := by
  match r with
  | [] => show (nmD (some a) && _) = false; rw [h, Bool.false_and]
  | [c] => show (nmD (some a) && _) = false; rw [h, Bool.false_and]
  | [c, n] => show (nmD (some a) && _) = false; rw [h, Bool.false_and]
  | _ :: _ :: _ :: _ => rfl
def spIsPromise : Sp := fun vs H Q _ => ∃ (x : V) (o : Option PyData) (n : Nat), vs = [x] ∧ Vd H x o ∧ n ≤ 8 ∧ (∀ d, o = some d → sm n d = true) ∧ ∀ H', Same H H' → Q (.bl (prom o)) H'
structure Ds (K : PySem.W.Frag) (mg : Str → Option Value) (fN fB fA fM fL : Addr) (dN dB dA dM dL : FuncData) : Prop where
  num : Dn K mg "is_number" sIsNumber ["value", "low", "high"] fN dN
  below : Dn K mg "are_numbers_below" sAreNumbersBelow ["value", "bound"] fB dB
  asc : Dn K mg "are_ascending" sAreAscending ["parts"] fA dA
  name : Dn K mg "is_name" sIsName ["value"] fM dM
  lines : Dn K mg "_are_told_lines" sAreToldLines ["value"] fL dL
  hN : ∃ t, mg "MAX_NAME" = some (.int 8 t)
  hL : ∃ t, mg "LETTERS" = some (.str letters t)
  hM : ∃ t, mg "MANY_LINES" = some (.int 4 t)
  hA : ∃ t, mg "MOST_ANSWERS" = some (.int 99 t)
  hH : ∃ t, mg "MOST_AHEAD" = some (.int 3 t)
variable {fN fB fA fM fL : Addr} {dN dB dA dM dL : FuncData}
theorem okIsPromise {f : Addr} {fd : FuncData} (D : Dn K mg "is_promise" sIsPromise ["value"] f fd) (S : Ds K mg fN fB fA fM fL dN dB dA dM dL) (T : Bx mg) (U : By mg) : FnOk P w K mg base CX0 4 f fd ["value"] spIsPromise := by
  obtain ⟨t1, hN⟩ := S.hN
  obtain ⟨t2, hL⟩ := S.hL
  obtain ⟨t3, hM⟩ := S.hM
  obtain ⟨t4, hA⟩ := S.hA
  obtain ⟨t5, hH⟩ := S.hH
  have DIsNumber := S.num
  have DIsName := S.name
  have DAreToldLines := S.lines
  have GIsNumber : FnOk P w K mg base CX0 1 _ _ _ _ := okIsNumber S.num T
  have GIsName : FnOk P w K mg base CX0 1 _ _ _ _ := okIsName S.name T hN hL
  have GAreToldLines : FnOk P w K mg base CX0 3 _ _ _ _ := okLines S.lines S.below S.asc S.num T U hM
  refine D.F.ok scIsPromise (fun vs H Q E h => ?_) (fun cdv A outer s H vs Q E hr h => ?_)
  · obtain ⟨x, o, n, rfl, _⟩ := h
    rfl
  · obtain ⟨x, o, n, rfl, hx, hn, hs, q⟩ := h
    refine ⟨_, (pss_cons (ps_if (PW.pt (pw_or (pt_not (pt_val (pe_callB call_isi (by rfl) T.m_isinstance (by decide +kernel) (pa_cons (pv 0) (pa_cons (pe_bltn (v := .ty "tuple") (by rfl) U.tuple (by decide +kernel) rfl) pa_nil))))) (pw_or (pt_cmpR op_lt (pe_callB call_len_seq (by rfl) T.m_len (by decide +kernel) (pa_cons (pv 0) pa_nil)) pe_int (nomark _)) (pw_or1 (pt_not (pt_val (pe_call GIsName (hr.mono (by decide)) (by rfl) DIsName.g DIsName.F.kp DIsName.b .nil pass0 (pa_cons (pe_ix ix_tup (pv 0) pe_int (fun _ _ => rfl)) pa_nil)))))))) (pss_one (ps_ret pe_bl)) pss_nil)
  (pss_cons (ps_if (pt_cmpR op_eq (pe_callB call_len_seq (by rfl) T.m_len (by decide +kernel) (pa_cons (pv 0) pa_nil)) pe_int (nomark _)) (pss_one (ps_ret (pe_cmpR (op_eqD hr.units) (pe_ix ix_tup (pv 0) pe_int (fun _ _ => rfl)) pe_str (nomark _)))) pss_nil)
  (pss_cons (ps_if (pt_cmpR op_eq (pe_callB call_len_seq (by rfl) T.m_len (by decide +kernel) (pa_cons (pv 0) pa_nil)) pe_int (nomark _)) (pss_one (ps_ret (pe_and (pe_cmpR (op_eqD hr.units) (pe_ix ix_tup (pv 0) pe_int (fun _ _ => rfl)) pe_str (nomark _)) (pe_and (pe_call GAreToldLines (hr.mono (by decide)) (by rfl) DAreToldLines.g DAreToldLines.F.kp DAreToldLines.b .nil pass0 (pa_cons (pe_ix ix_tup (pv 0) pe_int (fun _ _ => rfl)) pa_nil)) (pe_one (pe_call GIsNumber (hr.mono (by decide)) (by rfl) DIsNumber.g DIsNumber.F.kp DIsNumber.b .nil pass0 (pa_cons (pe_ix ix_tup (pv 0) pe_int (fun _ _ => rfl)) (pa_cons pe_int (pa_cons (pe_op op_sub (pe_glob (v := .int 4) rfl hM ⟨_, rfl⟩) pe_int) pa_nil))))))))) pss_nil)
  (pss_cons (ps_if (pt_cmpR op_ne (pe_callB call_len_seq (by rfl) T.m_len (by decide +kernel) (pa_cons (pv 0) pa_nil)) pe_int (nomark _)) (pss_one (ps_ret pe_bl)) pss_nil)
  (pss_cons (ps_if (pt_cmpR (op_eqD hr.units) (pe_ix ix_tup (pv 0) pe_int (fun _ _ => rfl)) pe_str (nomark _)) (pss_one (ps_ret (pe_call GIsNumber (hr.mono (by decide)) (by rfl) DIsNumber.g DIsNumber.F.kp DIsNumber.b .nil pass0 (pa_cons (pe_ix ix_tup (pv 0) pe_int (fun _ _ => rfl)) (pa_cons pe_int (pa_cons (pe_glob (v := .int 99) rfl hA ⟨_, rfl⟩) pa_nil)))))) pss_nil)
  (pss_cons (ps_if (pt_cmpR (op_eqD hr.units) (pe_ix ix_tup (pv 0) pe_int (fun _ _ => rfl)) pe_str (nomark _)) (pss_one (ps_ret (pe_call GIsNumber (hr.mono (by decide)) (by rfl) DIsNumber.g DIsNumber.F.kp DIsNumber.b .nil pass0 (pa_cons (pe_ix ix_tup (pv 0) pe_int (fun _ _ => rfl)) (pa_cons pe_int (pa_cons (pe_glob (v := .int 3) rfl hH ⟨_, rfl⟩) pa_nil)))))) pss_nil)
  (pss_one (ps_ret (pe_and (pe_cmpR (op_inT (units65 hr)) (pe_ix ix_tup (pv 0) pe_int (fun _ _ => rfl)) (pe_tup (pa_cons pe_str (pa_cons pe_str pa_nil))) rfl) (pe_one (pe_call GIsName (hr.mono (by decide)) (by rfl) DIsName.g DIsName.F.kp DIsName.b .nil pass0 (pa_cons (pe_ix ix_tup (pv 0) pe_int (fun _ _ => rfl)) pa_nil)))))))))))), ?_⟩
    have q0 := q H (Same.refl H)
    refine ⟨x, rfl, x, .ty "tuple", .type (tyD o), .type "tuple", isTu o, rfl, .ty "tuple", hx.ty, kit_ty (kit_tu _), _, rfl, ite2 (fun e => ?_) (fun e => ?_)⟩
    · have : prom o = false := by
        match o, e with
        | none, _ => rfl
        | some (.tuple _), e => cases e
        | some .none, _ => rfl
        | some (.bool _), _ => rfl
        | some (.int _), _ => rfl
        | some (.str _), _ => rfl
        | some (.list _), _ => rfl
        | some (.dict _), _ => rfl
      rw [this] at q0
      exact q0
    · obtain ⟨ds, rfl⟩ : ∃ ds, o = some (.tuple ds) := by
        match o, e with
        | some (.tuple ds), _ => exact ⟨ds, rfl⟩
        | none, e => exact absurd rfl e
        | some .none, e => exact absurd rfl e
        | some (.bool _), e => exact absurd rfl e
        | some (.int _), e => exact absurd rfl e
        | some (.str _), e => exact absurd rfl e
        | some (.list _), e => exact absurd rfl e
        | some (.dict _), e => exact absurd rfl e
      obtain ⟨n, rfl⟩ : ∃ m, n = m + 1 := by
        cases n with
        | zero => exact absurd (hs _ rfl) (fun z => by cases z)
        | succ m => exact ⟨m, rfl⟩
      obtain ⟨hl, hsm⟩ := sm_tup (hs _ rfl)
      cases hx with
      | da hx =>
      cases hx with
      | @tup p xs _ hp ha =>
      have hS : SqT K H p xs := .inl (.inl hp)
      refine ⟨.ref p, rfl, p, xs, rfl, .inr hS, (xs.length : Int), 2, rfl, rfl, _, rfl, ?_⟩
      cases ha with
      | nil => exact ite2 (fun _ => q0) (fun e => absurd rfl e)
      | @cons v0 r0 w0 s0 h0 ha =>
      cases ha with
      | nil => exact ite2 (fun _ => q0) (fun e => absurd rfl e)
      | @cons v1 r1 w1 s1 h1 ha =>
      refine ite2 (fun e => absurd (of_decide_eq_true e) (by rw [List.length_cons, List.length_cons]; omega)) (fun _ => ?_)
      have m0 := hsm w0 (by simp)
      have m1 := hsm w1 (by simp)
      have sh0 : SeqAt.shaped w0 = true := sm_shaped (by omega) m0
      have fit : ∀ {d : PyData} (z : Str), sm n d = true → some d = some (.str z) → z.length ≤ sizeLine := fun {d} z h e => by
        cases e
        exact Nat.le_trans (sm_str h).1 (by decide)
      refine ⟨.ref p, rfl, p, _, 1, v1, rfl, rfl, hS, atI_nat (j := 1) rfl, v1, some w1, rfl, .da h1, fun z e => fit z m1 e, _, rfl, ite2 (fun e1 => ?_) (fun e1 => ?_)⟩
      · rw [prom_no (by simpa using e1)] at q0
        exact q0
      · have n1 : nmD (some w1) = true := by simpa using e1
        cases ha with
        | nil =>
          refine ⟨.ref p, rfl, p, _, rfl, .inr hS, rfl, _, rfl, iteT ?_⟩
          refine ⟨.ref p, rfl, p, _, 0, v0, rfl, rfl, hS, atI_nat (j := 0) rfl, w0, .str "answered", h0.dp, .str _, sh0, by decide +kernel, ?_⟩
          have : prom (some (.tuple [w0, w1])) = PyData.eqv w0 (.str "answered") := by
            show (nmD (some w1) && _) = _
            rw [n1, Bool.true_and, eqv_str]
          rw [this] at q0
          exact q0
        | @cons v2 r2 w2 s2 h2 ha =>
          have m2 := hsm w2 (by simp)
          have ne : ∀ {xs : List V} {k : Int}, (xs.length : Int) ≠ k → ¬ decide (V.int (xs.length : Int) = V.int k) = true := fun h e => h (V.int.inj (of_decide_eq_true e))
          refine ⟨.ref p, rfl, p, _, rfl, .inr hS, rfl, _, rfl, (if_neg (ne (by simp only [List.length_cons]; omega))).mpr ?_⟩
          cases ha with
          | nil =>
            refine ⟨.ref p, rfl, p, _, rfl, .inr hS, rfl, _, rfl, (if_neg (ne (by simp only [List.length_cons, List.length_nil]; omega))).mpr ?_⟩
            refine ⟨.ref p, rfl, p, _, rfl, .inr hS, rfl, _, rfl, (if_neg (by rw [show decide (V.int (([v0, v1, v2] : List V).length : Int) = V.int 3) = true from decide_eq_true rfl]; decide)).mpr ?_⟩
            refine ⟨.ref p, rfl, p, _, 0, v0, rfl, rfl, hS, atI_nat (j := 0) rfl, w0, .str "most", h0.dp, .str _, sh0, by decide +kernel, ?_⟩
            rw [eqv_str]
            refine ⟨_, rfl, ite2 (fun e2 => ?_) (fun e2 => ?_)⟩
            · refine ⟨.ref p, rfl, p, _, 2, v2, rfl, rfl, hS, atI_nat (j := 2) rfl, v2, 0, 99, rfl, h2.any, ?_⟩
              have : prom (some (.tuple [w0, w1, w2])) = isNum 0 99 v2 := by
                show (nmD (some w1) && if isW "most" w0 = true then _ else _) = _
                rw [n1, Bool.true_and, if_pos e2, num_is h2]
              rw [this] at q0
              exact q0
            · refine ⟨.ref p, rfl, p, _, 0, v0, rfl, rfl, hS, atI_nat (j := 0) rfl, w0, .str "ahead", h0.dp, .str _, sh0, by decide +kernel, ?_⟩
              rw [eqv_str]
              refine ⟨_, rfl, ite2 (fun e3 => ?_) (fun e3 => ?_)⟩
              · refine ⟨.ref p, rfl, p, _, 2, v2, rfl, rfl, hS, atI_nat (j := 2) rfl, v2, 0, 3, rfl, h2.any, ?_⟩
                have : prom (some (.tuple [w0, w1, w2])) = isNum 0 3 v2 := by
                  show (nmD (some w1) && if isW "most" w0 = true then _ else if isW "ahead" w0 = true then _ else _) = _
                  rw [n1, Bool.true_and, if_neg e2, if_pos e3, num_is h2]
                rw [this] at q0
                exact q0
              · have e4 : prom (some (.tuple [w0, w1, w2])) = ((isW "within" w0 || isW "alike" w0) && nmD (some w2)) := by
                  show (nmD (some w1) && if isW "most" w0 = true then _ else if isW "ahead" w0 = true then _ else _) = _
                  rw [n1, Bool.true_and, if_neg e2, if_neg e3]
                refine ⟨.ref p, rfl, p, _, 0, v0, rfl, rfl, hS, atI_nat (j := 0) rfl, (show 2 ≤ sizeLine by decide), fun t nt => ?_⟩
                have sT : Same H (upd H t (.tup [.str "within", .str "alike"])) := same_new' nt
                refine ⟨w0, [.str "within", .str "alike"], (h0.up sT _ _).dp, .tup (.inl (.inl upd_same)) (.cons (.str _) (.cons (.str _) .nil)), sh0, by decide +kernel, ?_⟩
                have e5 : ([PyData.str "within", PyData.str "alike"].any fun z => PyData.eqv z w0) = (isW "within" w0 || isW "alike" w0) := by
                  have c : ∀ s : Str, PyData.eqv (.str s) w0 = isW s w0 := fun s => by
                    cases w0 <;> simp only [PyData.eqv, isW]
                    rename_i z
                    by_cases h : s = z
                    · simp [h]
                    · rw [beq_false_of_ne h, decide_eq_false (fun e => h e.symm)]
                  simp only [List.any_cons, List.any_nil, Bool.or_false, c]
                rw [e5]
                refine ⟨_, rfl, ite2 (fun e6 => ?_) (fun e6 => ?_)⟩
                · refine ⟨.ref p, rfl, p, _, 2, v2, rfl, rfl, .inl (.inl (sT _ _ hp)), atI_nat (j := 2) rfl, v2, some w2, rfl, .da (h2.up sT _ _), fun z e => fit z m2 e, ?_⟩
                  have q1 := q _ sT
                  rw [e4, e6, Bool.true_and] at q1
                  exact q1
                · have q1 := q _ sT
                  rw [e4, Bool.eq_false_iff.mpr e6, Bool.false_and] at q1
                  exact q1
          | @cons v3 r3 w3 s3 h3 ha =>
            cases ha with
            | nil =>
              refine ⟨.ref p, rfl, p, _, rfl, .inr hS, rfl, _, rfl, iteT ?_⟩
              have e4 : prom (some (.tuple [w0, w1, w2, w3])) = (isW "told" w0 && (linesD w2 && numD 0 3 w3)) := by
                show (nmD (some w1) && _) = _
                rw [n1, Bool.true_and]
              refine ⟨.ref p, rfl, p, _, 0, v0, rfl, rfl, hS, atI_nat (j := 0) rfl, w0, .str "told", h0.dp, .str _, sh0, by decide +kernel, ?_⟩
              rw [eqv_str]
              refine ⟨_, rfl, ite2 (fun e2 => ?_) (fun e2 => ?_)⟩
              · refine ⟨.ref p, rfl, p, _, 2, v2, rfl, rfl, hS, atI_nat (j := 2) rfl, v2, w2, n, rfl, h2, m2, fun H1 t1 => ⟨_, rfl, ite2 (fun e3 => ?_) (fun e3 => ?_)⟩⟩
                · refine ⟨.ref p, rfl, p, _, 3, v3, rfl, rfl, .inl (.inl (t1 _ _ hp)), atI_nat (j := 3) rfl, 4, 1, rfl, rfl, v3, 0, 3, rfl, (h3.up t1 _ _).any, ?_⟩
                  have q1 := q _ t1
                  rw [e4, e2, e3, Bool.true_and, Bool.true_and, ← num_is h3] at q1
                  exact q1
                · have q1 := q _ t1
                  rw [e4, e2, Bool.eq_false_iff.mpr e3, Bool.true_and, Bool.false_and] at q1
                  exact q1
              · rw [e4, Bool.eq_false_iff.mpr e2, Bool.false_and] at q0
                exact q0
            | @cons v4 r4 w4 s4 h4 ha =>
              refine ⟨.ref p, rfl, p, _, rfl, .inr hS, rfl, _, rfl, (if_neg (ne (by simp only [List.length_cons]; omega))).mpr ?_⟩
              refine ⟨.ref p, rfl, p, _, rfl, .inr hS, rfl, _, rfl, (if_pos ?_).mpr q0⟩
              rw [decide_eq_false (fun e => absurd (V.int.inj e) (by simp only [List.length_cons]; omega))]
              rfl
end
end K66

namespace K66
open PySem PySem.Spec L2 Ks
open PyProof.Rows hiding St
/-- the names in a promise -/
def namesD : List PyData → List PyData
  | [w, a, c] => if ((isW "within" w || isW "alike" w) && !PyData.eqv a c) = true then [a, c] else [a]
  | _ :: a :: _ => [a]
  | _ => []
theorem prom_len {ds : List PyData} (h : prom (some (.tuple ds)) = true) : ∃ w a r, ds = w :: a :: r ∧ (r = [] ∨ (∃ c, r = [c]) ∨ ∃ c n, r = [c, n] ∧ isW "told" w = true) := by
  match ds, h with
  | [w, a], _ => exact ⟨w, a, [], rfl, .inl rfl⟩
  | [w, a, c], _ => exact ⟨w, a, [c], rfl, .inr (.inl ⟨c, rfl⟩)⟩
  | [w, a, c, n], h =>
    have h' : (nmD (some a) && (isW "told" w && (linesD c && numD 0 3 n))) = true := h
    rw [Bool.and_eq_true, Bool.and_eq_true] at h'
    exact ⟨w, a, [c, n], rfl, .inr (.inr ⟨c, n, rfl, h'.2.1⟩)⟩
theorem told_not {w : PyData} (h : isW "told" w = true) : (isW "within" w || isW "alike" w) = false := by
  cases w with
  | str z =>
    have : z = ("told" : Str) := of_decide_eq_true h
    subst this
    decide +kernel
  | _ => rfl
theorem any2 (w : PyData) : ([PyData.str "within", PyData.str "alike"].any fun z => PyData.eqv z w) = (isW "within" w || isW "alike" w) := by
  have c : ∀ s : Str, PyData.eqv (.str s) w = isW s w := fun s => by
    cases w <;> simp only [PyData.eqv, isW]
    rename_i z
    by_cases h : s = z
    · simp [h]
    · rw [beq_false_of_ne h, decide_eq_false (fun e => h e.symm)]
  simp only [List.any_cons, List.any_nil, Bool.or_false, c]
theorem cut13 (x : V) (r : List V) : cutV (x :: r) (some 1) none = r := by
  unfold cutV
  rw [show HT.sIx (x :: r).length 0 (some 1) = min 1 (x :: r).length from HT.sIx_nat _ _ 1, HT.sIx_none, List.length_cons, show min 1 (r.length + 1) = 1 by omega, List.drop_succ_cons, List.drop_zero, List.take_of_length_le (by omega)]
theorem cut12 (x y : V) (r : List V) : cutV (x :: y :: r) (some 1) (some 2) = [y] := by
  unfold cutV
  rw [show HT.sIx (x :: y :: r).length 0 (some 1) = min 1 (x :: y :: r).length from HT.sIx_nat _ _ 1, show HT.sIx (x :: y :: r).length (x :: y :: r).length (some 2) = min 2 (x :: y :: r).length from HT.sIx_nat _ _ 2, List.length_cons, List.length_cons, show min 1 (r.length + 1 + 1) = 1 by omega, show min 2 (r.length + 1 + 1) = 2 by omega]
  rfl
theorem no_whole (x : V) (r : List V) {hi : Option Int} : ¬ (HT.sIx (x :: r).length 0 (some 1) = 0 ∧ HT.sIx (x :: r).length (x :: r).length hi = (x :: r).length) := fun h => by
  have h1 := h.1
  rw [show HT.sIx (x :: r).length 0 (some 1) = min 1 (x :: r).length from HT.sIx_nat _ _ 1, List.length_cons] at h1
  omega
section
variable {P : Program} {w : World} {K : PySem.W.Frag} {mg : Str → Option Value} {base : Heap}
variable {fN fB fA fM fL : Addr} {dN dB dA dM dL : FuncData}
/-! ### check_promise -/
def spCheckPromise (C : Addr) : Sp := fun vs H Q E => ∃ (x : V) (o : Option PyData) (n : Nat), vs = [x] ∧ Vd H x o ∧ n ≤ 8 ∧ (∀ d, o = some d → sm n d = true) ∧ (prom o = true → ∀ H', Same H H' → Q .non H') ∧ (prom o = false → ∀ H', Same H H' → E (.ref C) none H')
theorem okCheckPromise {f f1 C : Addr} {fd d1 : FuncData} (D : Dn K mg "check_promise" sCheckPromise ["promise"] f fd) (DIsPromise : Dn K mg "is_promise" sIsPromise ["value"] f1 d1) (S : Ds K mg fN fB fA fM fL dN dB dA dM dL) (T : Bx mg) (U : By mg) (OInvalidPromise : OwnE K mg "InvalidPromise" C) : FnOk P w K mg base (L2.CX P w) 5 f fd ["promise"] (spCheckPromise C) := by
  have GIsPromise : FnOk P w K mg base CX0 4 _ _ _ _ := okIsPromise DIsPromise S T U
  refine D.F.okX scCheckPromise (fun vs H Q E h => ?_) (fun cdv A outer s H vs Q E hr h => ?_)
  · obtain ⟨x, o, n, rfl, _⟩ := h
    rfl
  · obtain ⟨x, o, n, rfl, hx, hn, hs, q, r⟩ := h
    refine ⟨_, (pss_one (ps_if (pt_not (pt_val (pe_call GIsPromise (hr.mono (by decide)) (by rfl) DIsPromise.g DIsPromise.F.kp DIsPromise.b .nil pass0 (pa_cons (pv 0) pa_nil)))) (pss_one (ps_raise rfl (takes_of rfl rfl rfl rfl) (pmk_own PySem.F.excBase_ValueError OInvalidPromise.x OInvalidPromise.g OInvalidPromise.k (raises_own OInvalidPromise.b OInvalidPromise.t) rfl))) pss_nil)), ?_⟩
    refine ⟨x, rfl, x, o, n, rfl, hx, hn, hs, fun H1 s1 => ⟨_, rfl, ite2 (fun e => ?_) (fun e => ?_)⟩⟩
    · exact r (by simpa using e) H1 s1
    · exact q (by simpa using e) H1 s1
/-! ### names_of -/
def spNamesOf (C : Addr) : Sp := fun vs H Q E => ∃ (x : V) (o : Option PyData) (n : Nat), vs = [x] ∧ Vd H x o ∧ n ≤ 8 ∧ (∀ d, o = some d → sm n d = true) ∧ (prom o = false → ∀ H', Same H H' → E (.ref C) none H') ∧ (∀ ds, o = some (.tuple ds) → prom o = true → ∀ y H', Same H H' → Da H' y (.tuple (namesD ds)) → Q y H')
theorem okNamesOf {f f1 f2 C : Addr} {fd d1 d2 : FuncData} (D : Dn K mg "names_of" sNamesOf ["promise"] f fd) (DCheckPromise : Dn K mg "check_promise" sCheckPromise ["promise"] f2 d2) (DIsPromise : Dn K mg "is_promise" sIsPromise ["value"] f1 d1) (S : Ds K mg fN fB fA fM fL dN dB dA dM dL) (T : Bx mg) (U : By mg) (O : OwnE K mg "InvalidPromise" C) : FnOk P w K mg base (L2.CX P w) 6 f fd ["promise"] (spNamesOf C) := by
  have GCheckPromise : FnOk P w K mg base (L2.CX P w) 5 _ _ _ _ := okCheckPromise DCheckPromise DIsPromise S T U O
  refine D.F.okX scNamesOf (fun vs H Q E h => ?_) (fun cdv A outer s H vs Q E hr h => ?_)
  · obtain ⟨x, o, n, rfl, _⟩ := h
    rfl
  · obtain ⟨x, o, n, rfl, hx, hn, hs, r, q⟩ := h
    refine ⟨_, (pss_cons (ps_expr (pe_call GCheckPromise (hr.mono (by decide)) (by rfl) DCheckPromise.g DCheckPromise.F.kp DCheckPromise.b .nil (passes_call (takes_of rfl rfl rfl rfl) (fun _ _ _ _ z => z)) (pa_cons (pv 0) pa_nil)))
  (pss_cons (ps_if (PW.pt (pw_and (pt_cmpR (op_inT (units65 hr)) (pe_ix ix_tup (pv 0) pe_int (fun _ _ => rfl)) (pe_tup (pa_cons pe_str (pa_cons pe_str pa_nil))) rfl) (pw_and1 (pt_cmpR (op_neD hr.units) (pe_ix ix_tup (pv 0) pe_int (fun _ _ => rfl)) (pe_ix ix_tup (pv 0) pe_int (fun _ _ => rfl)) (nomark _))))) (pss_one (ps_ret (pe_slice sl_tupA (pv 0) (po_some pe_int) po_none))) pss_nil)
  (pss_one (ps_ret (pe_slice sl_tupA (pv 0) (po_some pe_int) (po_some pe_int)))))), ?_⟩
    refine ⟨x, rfl, x, o, n, rfl, hx, hn, hs, fun ok H1 s1 => ?_, r⟩
    obtain ⟨ds, rfl⟩ : ∃ ds, o = some (.tuple ds) := by
      match o, ok with
      | some (.tuple ds), _ => exact ⟨ds, rfl⟩
    have q := q ds rfl ok
    obtain ⟨n, rfl⟩ : ∃ m, n = m + 1 := by
      cases n with
      | zero => exact absurd (hs _ rfl) (fun z => by cases z)
      | succ m => exact ⟨m, rfl⟩
    obtain ⟨hl, hsm⟩ := sm_tup (hs _ rfl)
    obtain ⟨w0, w1, rest, rfl, hrest⟩ := prom_len ok
    cases hx with
    | da hx =>
    cases hx with
    | @tup p xs _ hp ha =>
    cases ha with
    | @cons v0 r0 _ _ h0 ha =>
    cases ha with
    | @cons v1 r1 _ _ h1 ha =>
    have hp1 := s1 _ _ hp
    have hS : SqT K H1 p (v0 :: v1 :: r1) := .inl (.inl hp1)
    have sh : ∀ d ∈ w0 :: w1 :: rest, SeqAt.shaped d = true := fun d m => sm_shaped (by omega) (hsm d m)
    refine ⟨.ref p, rfl, p, _, 0, v0, rfl, rfl, hS, atI_nat (j := 0) rfl, (show 2 ≤ sizeLine by decide), fun t nt => ?_⟩
    have sT : Same H1 (upd H1 t (.tup [.str "within", .str "alike"])) := same_new' nt
    have hpT := sT _ _ hp1
    have hST : SqT K (upd H1 t (.tup [.str "within", .str "alike"])) p (v0 :: v1 :: r1) := .inl (.inl hpT)
    refine ⟨w0, [.str "within", .str "alike"], ((h0.up s1 _ _).up sT _ _).dp, .tup (.inl (.inl upd_same)) (.cons (.str _) (.cons (.str _) .nil)), sh w0 (by simp), by decide +kernel, ?_⟩
    rw [any2]
    have one : namesD (w0 :: w1 :: rest) = [w1] → ∀ u, upd H1 t (.tup [.str "within", .str "alike"]) u = none → Q (.ref u) (upd (upd H1 t (.tup [.str "within", .str "alike"])) u (.tup [v1])) := fun e u nu => by
      have sU := same_new' (o := .tup [v1]) nu
      have := q (.ref u) _ ((s1.trans sT).trans sU)
      rw [e] at this
      exact this (.tup upd_same (.cons ((((h1.up s1 _ _).up sT _ _).up sU _ _)) .nil))
    have last : namesD (w0 :: w1 :: rest) = [w1] → _ := one
    refine ⟨_, rfl, ite2 (fun e => ?_) (fun e => ?_)⟩
    · obtain ⟨c, rfl⟩ | hr2 : (∃ c, rest = [c]) ∨ rest = [] := by
        rcases hrest with h | h | ⟨c, n, h, h2⟩
        · exact .inr h
        · exact .inl h
        · rw [told_not h2] at e
          cases e
      · cases ha with
        | @cons v2 r2 _ _ h2 ha =>
        cases ha
        refine ⟨.ref p, rfl, p, _, 1, v1, rfl, rfl, hST, atI_nat (j := 1) rfl, .ref p, rfl, p, _, 2, v2, rfl, rfl, hST, atI_nat (j := 2) rfl, w1, c, ((h1.up s1 _ _).up sT _ _).dp, ((h2.up s1 _ _).up sT _ _).dp, sh w1 (by simp), sh c (by simp), _, rfl, ite2 (fun e2 => ?_) (fun e2 => ?_)⟩
        · refine ⟨.ref p, rfl, 1, rfl, p, _, rfl, hST, fun wh => absurd wh (no_whole _ _), fun _ u nu => ?_⟩
          rw [cut13]
          have sU := same_new' (o := .tup [v1, v2]) nu
          have e4 : namesD [w0, w1, c] = [w1, c] := by
            show (if _ then _ else _) = _
            rw [e, e2]
            rfl
          have := q (.ref u) _ ((s1.trans sT).trans sU)
          rw [e4] at this
          exact this (.tup upd_same (.cons (((h1.up s1 _ _).up sT _ _).up sU _ _) (.cons (((h2.up s1 _ _).up sT _ _).up sU _ _) .nil)))
        · refine ⟨.ref p, rfl, 1, rfl, 2, rfl, p, _, rfl, hST, fun wh => absurd wh (no_whole _ _), fun _ u nu => ?_⟩
          rw [cut12]
          refine one ?_ u nu
          show (if _ then _ else _) = _
          rw [e, Bool.eq_false_iff.mpr e2]
          rfl
      · exfalso
        subst hr2
        have h' : (nmD (some w1) && isW "answered" w0) = true := ok
        rw [Bool.and_eq_true] at h'
        cases w0 with
        | str z =>
          have : z = ("answered" : Str) := of_decide_eq_true h'.2
          subst this
          exact absurd e (by decide +kernel)
        | _ => have z := h'.2; cases z
    · refine iteF ?_
      refine ⟨.ref p, rfl, 1, rfl, 2, rfl, p, _, rfl, hST, fun wh => absurd wh (no_whole _ _), fun _ u nu => ?_⟩
      rw [cut12]
      refine one ?_ u nu
      rcases hrest with h | ⟨c, h⟩ | ⟨c, n, h, h2⟩
      · subst h
        rfl
      · subst h
        show (if _ then _ else _) = _
        rw [Bool.eq_false_iff.mpr e]
        rfl
      · subst h
        rfl
end
end K66

namespace Ks
open PySem PySem.Spec L2
open PyProof.Rows hiding St
/-! ### the keys of a dict of ints, sorted -/
def addK (ks : List Int) (n : Int) : List Int := if n ∈ ks then ks else ks ++ [n]
theorem keys_put {kvs : List (Key × V)} {ks : List Int} (n : Int) (v : V) (h : kvs.map (·.1) = ks.map Sum.inl) : (putK kvs (Sum.inl n : Key) v).map (·.1) = (addK ks n).map Sum.inl := by
  have e : (kvs.any fun kv => decide (kv.1 = Sum.inl n)) = decide (n ∈ ks) := by
    have : (kvs.any fun kv => decide (kv.1 = Sum.inl n)) = (kvs.map (·.1)).any fun k => decide (k = Sum.inl n) := by rw [List.any_map]; rfl
    rw [this, h, List.any_map]
    rw [Bool.eq_iff_iff, List.any_eq_true, decide_eq_true_eq]
    constructor
    · rintro ⟨m, hm, e⟩
      have := of_decide_eq_true e
      cases this
      exact hm
    · intro hm
      exact ⟨n, hm, by simp⟩
  unfold putK addK
  rw [e]
  by_cases hn : n ∈ ks
  · rw [decide_eq_true hn, if_pos rfl, if_pos hn, List.map_map, ← h]
    refine List.map_congr_left fun kv _ => ?_
    show (if kv.1 = Sum.inl n then (kv.1, v) else kv).1 = kv.1
    split <;> rfl
  · rw [decide_eq_false hn, if_neg (by decide), if_neg hn, List.map_append, List.map_append, h]
    rfl
theorem keys_merge : ∀ (ns : List Int) (kvs : List (Key × V)) (ks : List Int), kvs.map (·.1) = ks.map Sum.inl → (mergeK kvs (ns.map fun n => ((Sum.inl n : Key), V.bl true))).map (·.1) = (ns.foldl addK ks).map Sum.inl := by
  intro ns
  induction ns with
  | nil => intro kvs ks h; exact h
  | cons n r ih =>
    intro kvs ks h
    exact ih (putK kvs (Sum.inl n) (V.bl true)) (addK ks n) (keys_put n _ h)
theorem addK_nodup {ks : List Int} {n : Int} (h : ks.Nodup) : (addK ks n).Nodup := by
  unfold addK
  split
  · exact h
  · rename_i hn
    rw [List.nodup_append]
    refine ⟨h, by simp, fun a ha b hb e => ?_⟩
    have : b = n := by simpa using hb
    subst this
    subst e
    exact hn ha
theorem fold_nodup : ∀ (ns ks : List Int), ks.Nodup → (ns.foldl addK ks).Nodup := by
  intro ns
  induction ns with
  | nil => intro ks h; exact h
  | cons n r ih => intro ks h; exact ih _ (addK_nodup h)
theorem fold_len : ∀ (ns ks : List Int), (ns.foldl addK ks).length ≤ ks.length + ns.length := by
  intro ns
  induction ns with
  | nil => intro ks; exact Nat.le_refl _
  | cons n r ih =>
    intro ks
    have h1 := ih (addK ks n)
    have h2 : (addK ks n).length ≤ ks.length + 1 := by
      unfold addK
      split
      · omega
      · rw [List.length_append]; exact Nat.le_refl _
    rw [List.foldl_cons, List.length_cons]
    omega
theorem fold_id : ∀ (ns ks : List Int), (ks ++ ns).Nodup → ns.foldl addK ks = ks ++ ns := by
  intro ns
  induction ns with
  | nil => intro ks _; rw [List.append_nil]; rfl
  | cons n r ih =>
    intro ks h
    have hn : n ∉ ks := fun m => by
      rw [List.nodup_append] at h
      exact h.2.2 n m n (by simp) rfl
    rw [List.foldl_cons, show addK ks n = ks ++ [n] from if_neg hn, ih _ (by rw [List.append_assoc]; exact h), List.append_assoc]
    rfl
theorem asc_cons (a b : Int) (r : List Int) : ascN (a :: b :: r) = (decide (a < b) && ascN (b :: r)) := rfl
theorem asc_iff : ∀ ns : List Int, ascN ns = true ↔ ns.Pairwise (· < ·)
  | [] => ⟨fun _ => .nil, fun _ => rfl⟩
  | [a] => ⟨fun _ => List.pairwise_singleton _ _, fun _ => rfl⟩
  | a :: b :: r => by
    rw [asc_cons, Bool.and_eq_true, asc_iff (b :: r), decide_eq_true_eq, List.pairwise_cons (l := b :: r)]
    constructor
    · rintro ⟨h1, h2⟩
      refine ⟨fun c hc => ?_, h2⟩
      rcases List.mem_cons.mp hc with rfl | hc
      · exact h1
      · have := (List.pairwise_cons.mp h2).1 c hc
        omega
    · rintro ⟨h1, h2⟩
      exact ⟨h1 b (by simp), h2⟩
theorem lt_nodup {ns : List Int} (h : ns.Pairwise (· < ·)) : ns.Nodup := h.imp fun h e => by omega
theorem sorted_asc {ns ns' : List Int} (hp : ns'.Perm (ns.foldl addK [])) (hs : ns'.Pairwise (· ≤ ·)) : decide (ns' = ns) = ascN ns := by
  rw [Bool.eq_iff_iff, decide_eq_true_eq, asc_iff]
  constructor
  · intro e
    subst e
    have nd : ns'.Nodup := hp.nodup_iff.mpr (fold_nodup _ _ List.nodup_nil)
    have : ∀ l : List Int, l.Pairwise (· ≤ ·) → l.Nodup → l.Pairwise (· < ·) := by
      intro l
      induction l with
      | nil => intro _ _; exact .nil
      | cons a r ih =>
        intro h1 h2
        rw [List.pairwise_cons] at h1
        rw [List.nodup_cons] at h2
        refine List.pairwise_cons.mpr ⟨fun b hb => ?_, ih h1.2 h2.2⟩
        have := h1.1 b hb
        have ne : a ≠ b := fun e => h2.1 (e ▸ hb)
        omega
    exact this _ hs nd
  · intro h
    have e : ns.foldl addK [] = ns := fold_id ns [] (by rw [List.nil_append]; exact lt_nodup h)
    rw [e] at hp
    exact hp.eq_of_pairwise (fun a b _ _ h1 h2 => by omega) hs (h.imp fun h => by omega)
theorem eqv_ints : ∀ a b : List Int, PyData.eqvAll (a.map PyData.int) (b.map PyData.int) = decide (a = b)
  | [], [] => by simp [PyData.eqvAll]
  | [], _ :: _ => by simp [PyData.eqvAll]
  | _ :: _, [] => by simp [PyData.eqvAll]
  | x :: a, y :: b => by
    rw [List.map_cons, List.map_cons, PyData.eqvAll, eqv_ints a b, PyData.eqv]
    by_cases h : x = y
    · subst h
      simp
    · simp [h]
theorem eqv_nil (ds : List PyData) : PyData.eqv (.list ds) (.list []) = ds.isEmpty := by
  cases ds <;> simp [PyData.eqv, PyData.eqvAll]
theorem sm_list {n : Nat} {ds : List PyData} (h : ds.length ≤ 12) (h2 : ∀ d ∈ ds, sm n d = true) : sm (n + 1) (.list ds) = true := by
  show (decide (ds.length ≤ 12) && ds.all (sm n)) = true
  rw [Bool.and_eq_true, decide_eq_true_eq, List.all_eq_true]
  exact ⟨h, h2⟩
theorem sm_tuple {n : Nat} {ds : List PyData} (h : ds.length ≤ 12) (h2 : ∀ d ∈ ds, sm n d = true) : sm (n + 1) (.tuple ds) = true := by
  show (decide (ds.length ≤ 12) && ds.all (sm n)) = true
  rw [Bool.and_eq_true, decide_eq_true_eq, List.all_eq_true]
  exact ⟨h, h2⟩
theorem sm_txt {n : Nat} {z : Str} (h : z.length ≤ 300) (h2 : asc7 z = true) : sm n (.str z) = true := by
  have : (decide (z.length ≤ 300) && asc7 z) = true := by rw [decide_eq_true h, h2]; rfl
  cases n <;> exact this
end Ks
namespace K66
open PySem PySem.Spec L2 Ks
open PyProof.Rows hiding St
section
variable {P : Program} {w : World} {K : PySem.W.Frag} {mg : Str → Option Value} {base : Heap}
/-! ### _law_is_number -/
def spLnum : Sp := fun vs H Q _ => ∃ x hi, vs = [x, .int hi] ∧ AnyV H x ∧ Q (.bl (isNum 0 hi x)) H
theorem okLnum {f : Addr} {fd : FuncData} (D : Dn K mg "_law_is_number" sLisNumber ["_law_value", "_law_high"] f fd) (T : Bx mg) : FnOk P w K mg base CX0 1 f fd ["_law_value", "_law_high"] spLnum := by
  refine D.F.ok scLisNumber (fun vs H Q E h => ?_) (fun cdv A outer s H vs Q E hr h => ?_)
  · obtain ⟨x, hi, rfl, _⟩ := h
    rfl
  · obtain ⟨x, hi, rfl, hx, q⟩ := h
    refine ⟨_, (pss_one (ps_ret (pe_and (pe_callB call_isi (by rfl) T.m_isinstance (by decide +kernel) (pa_cons (pv 0) (pa_cons (pe_bltn (v := .ty "int") (by rfl) T.m_int (by decide +kernel) rfl) pa_nil))) (pe_and (pe_not (pe_callB call_isi (by rfl) T.m_isinstance (by decide +kernel) (pa_cons (pv 0) (pa_cons (pe_bltn (v := .ty "bool") (by rfl) T.m_bool (by decide +kernel) rfl) pa_nil)))) (pe_one (pe_chain op_le op_le pe_int (pv 0) (pv 1))))))), ?_⟩
    obtain ⟨t, ty, k1, k2, _⟩ := hx.typed (K := K)
    refine ⟨x, rfl, x, .ty "int", .type t, .type "int", isI x, rfl, .ty "int", ty, kit_ty k1, isI x, rfl, ite2 (fun e1 => ?_) (fun e1 => ?_)⟩
    · refine ⟨x, rfl, x, .ty "bool", .type t, .type "bool", isB x, rfl, .ty "bool", ty, kit_ty k2, isB x, rfl, !isB x, rfl, ite2 (fun e2 => ?_) (fun e2 => ?_)⟩
      · cases hx with
        | int i =>
          refine ⟨_, rfl, 0, i, rfl, rfl, decide (0 ≤ i), rfl, ite2 (fun e3 => ?_) (fun e3 => ?_)⟩
          · refine ⟨_, rfl, i, hi, rfl, rfl, ?_⟩
            have e : isNum 0 hi (.int i) = decide (i ≤ hi) := by
              show (decide (0 ≤ i) && decide (i ≤ hi)) = _
              rw [e3, Bool.true_and]
            rw [e] at q
            exact q
          · have e : isNum 0 hi (.int i) = false := by
              show (decide (0 ≤ i) && decide (i ≤ hi)) = _
              rw [Bool.eq_false_iff.mpr e3, Bool.false_and]
            rw [e] at q
            exact q
        | bl b => cases e2
        | non => cases e1
        | str z => cases e1
        | lst _ => cases e1
        | tup _ => cases e1
        | dct _ => cases e1
      · have e : isNum 0 hi x = false := by
          cases hx <;> first | rfl | exact absurd rfl e2
        rw [e] at q
        exact q
    · have e : isNum 0 hi x = false := by
        cases hx <;> first | rfl | exact absurd rfl e1
      rw [e] at q
      exact q
end
end K66

namespace Ks
open PySem PySem.Spec L2
open PyProof.Rows hiding St
/-- the signs of a text that are no letters -/
def offs (l : List Nat) : List Nat := l.filter fun c => !letters.cps.contains c
theorem mem_letters (c : Nat) : decide (c ∈ letters.cps.toList) = letters.cps.contains c := by
  rw [Bool.eq_iff_iff, decide_eq_true_eq, Array.contains_iff_mem, Array.mem_toList_iff]
theorem offs_nil (l : List Nat) : (offs l).isEmpty = l.all fun c => letters.cps.contains c := by
  unfold offs
  rw [Bool.eq_iff_iff, List.isEmpty_iff, List.filter_eq_nil_iff, List.all_eq_true]
  constructor
  · intro h c hc
    simpa using h c hc
  · intro h c hc
    simp only [h c hc]
    decide
theorem paired_imp {α β : Type} {R S : α → β → Prop} (h : ∀ a b, R a b → S a b) : ∀ {as : List α} {bs : List β}, Paired R as bs → Paired S as bs
  | _, _, .nil => .nil
  | _, _, .cons r rs => .cons (h _ _ r) (paired_imp h rs)
theorem paired_len {α β : Type} {R : α → β → Prop} : ∀ {as : List α} {bs : List β}, Paired R as bs → as.length = bs.length
  | _, _, .nil => rfl
  | _, _, .cons _ t => by rw [List.length_cons, List.length_cons, paired_len t]
theorem paired_map {α β γ : Type} {R : α → β → Prop} {S : α → γ → Prop} {g : β → γ} (h : ∀ a b, R a b → S a (g b)) : ∀ {as : List α} {bs : List β}, Paired R as bs → Paired S as (bs.map g)
  | _, _, .nil => .nil
  | _, _, .cons r rs => .cons (h _ _ r) (paired_map h rs)
theorem da_ints {H : Hp} : ∀ l : List Int, DaAll H (l.map V.int) (l.map PyData.int)
  | [] => .nil
  | c :: r => .cons (.int _) (da_ints r)
def signD (c : Nat) : PyData := .str ⟨#[c]⟩
theorem da_signs {H : Hp} : ∀ l : List Nat, DaAll H (l.map fun c => V.str ⟨#[c]⟩) (l.map signD)
  | [] => .nil
  | c :: r => .cons (.str _) (da_signs r)
end Ks
namespace K66
open PySem PySem.Spec L2 Ks
open PyProof.Rows hiding St
section
variable {P : Program} {w : World} {K : PySem.W.Frag} {mg : Str → Option Value} {base : Heap}
/-! ### _law_is_named -/
def spNamed : Sp := fun vs H Q _ => ∃ (x : V) (o : Option PyData) (n : Nat), vs = [x] ∧ Vd H x o ∧ n ≤ 8 ∧ (∀ d, o = some d → sm n d = true) ∧ ∀ H', Same H H' → Q (.bl (nmD o)) H'
theorem okNamed {f : Addr} {fd : FuncData} (D : Dn K mg "_law_is_named" sLisNamed ["_law_value"] f fd) (T : Bx mg) : FnOk P w K mg base CX0 1 f fd ["_law_value"] spNamed := by
  refine D.F.ok scLisNamed (fun vs H Q E h => ?_) (fun cdv A outer s H vs Q E hr h => ?_)
  · obtain ⟨x, o, n, rfl, _⟩ := h
    rfl
  · obtain ⟨x, o, n, rfl, hx, hn, hs, q⟩ := h
    refine ⟨_, (pss_cons (ps_if (PW.pt (pw_or (pt_not (pt_val (pe_callB call_isi (by rfl) T.m_isinstance (by decide +kernel) (pa_cons (pv 0) (pa_cons (pe_bltn (v := .ty "str") (by rfl) T.m_str (by decide +kernel) rfl) pa_nil))))) (pw_or1 (pt_not (pt_chain op_le op_le pe_int (pe_callB call_len (by rfl) T.m_len (by decide +kernel) (pa_cons (pv 0) pa_nil)) pe_int))))) (pss_one (ps_ret pe_bl)) pss_nil)
  (pss_one (ps_ret (pe_cmpR (op_eqD hr.units) (pe_lc (own := [("_law_sign", 1)]) (g := gName 1) rfl scLisNamed.nd (pi_str (pv 0)) (blkOk_by (own := [("_law_sign", 1)]) (N := ["_law_value", "_law_sign"]) (sc := defScope sLisNamed) (by decide +kernel)) (fun _ _ _ _ _ => (pg_name (i := 1) scLisNamed.nd rfl (Or.inl rfl))) (fun _ _ _ _ _ => (pts_one (pt_cmpR op_notIn_sign (pv 1) pe_str rfl))) (fun _ _ _ _ _ => (pv 1))) (pe_lst pa_nil) (nomark _))))), ?_⟩
    have q0 := q H (Same.refl H)
    refine ⟨x, rfl, x, .ty "str", .type (tyD o), .type "str", isSt o, rfl, .ty "str", hx.ty, kit_ty (kit_st _), _, rfl, ite2 (fun e => ?_) (fun e => ?_)⟩
    · have : nmD o = false := by
        match o, e with
        | none, _ => rfl
        | some (.str z), e => cases e
        | some .none, _ => rfl
        | some (.bool _), _ => rfl
        | some (.int _), _ => rfl
        | some (.list _), _ => rfl
        | some (.tuple _), _ => rfl
        | some (.dict _), _ => rfl
      rw [this] at q0
      exact q0
    · obtain ⟨z, rfl⟩ : ∃ z, o = some (.str z) := by
        match o, e with
        | some (.str z), _ => exact ⟨z, rfl⟩
        | none, e => exact absurd rfl e
        | some .none, e => exact absurd rfl e
        | some (.bool _), e => exact absurd rfl e
        | some (.int _), e => exact absurd rfl e
        | some (.tuple _), e => exact absurd rfl e
        | some (.list _), e => exact absurd rfl e
        | some (.dict _), e => exact absurd rfl e
      obtain ⟨hl, ha⟩ := sm_str (hs _ rfl)
      have hl' : z.length ≤ sizeLine := Nat.le_trans hl (by decide)
      cases hx with
      | da hx =>
      cases hx with
      | str z =>
      refine ⟨_, rfl, .str z, z.length, rfl, ⟨hl', rfl⟩, 1, (z.length : Int), rfl, rfl, _, rfl, ite2 (fun e1 => ?_) (fun e1 => ?_)⟩
      · have h1 : (1 : Int) ≤ z.length := of_decide_eq_true e1
        refine ⟨(z.length : Int), 8, rfl, rfl, _, rfl, ite2 (fun e2 => ?_) (fun e2 => ?_)⟩
        · have h2 : ¬ (z.length : Int) ≤ 8 := by simpa using e2
          have : nmD (some (.str z)) = false := by
            show (decide (1 ≤ z.length) && (decide (z.length ≤ 8) && _)) = false
            rw [decide_eq_false (show ¬ z.length ≤ 8 by omega), Bool.false_and, Bool.and_false]
          rw [this] at q0
          exact q0
        · have h2 : (z.length : Int) ≤ 8 := by simpa using e2
          refine ⟨_, rfl, z, rfl, fun D nD => ?_⟩
          have hsz : z.cps.size = z.length := rfl
          refine lc_it (walk_str (z := z)) (fun i H' => Same H H' ∧ H' D = some (.lst ((offs ((cl z).take i)).map fun c => V.str ⟨#[c]⟩))) ⟨same_new' nD, upd_same⟩ (fun _ _ _ _ => trivial) (fun i x H1 H2 hi h hy => ?_) (fun H1 h => ?_)
          · obtain ⟨s1, eD⟩ := h
            obtain ⟨rfl, c, hc, rfl⟩ := hy
            have hc' : (cl z)[i]? = some c := by
              show z.cps.toList[i]? = _
              rw [Array.getElem?_toList]
              exact hc
            have tk : (cl z).take (i + 1) = (cl z).take i ++ [c] := by rw [List.take_succ, hc']; rfl
            refine ⟨rfl, _, rfl, c, letters, rfl, rfl, _, rfl, ite2 (fun e3 => ?_) (fun e3 => ?_)⟩
            · rw [mem_letters] at e3
              refine ⟨_, rfl, _, eD, ?_, fun a o ea => ?_, ?_⟩
              · rw [List.length_map]
                have h3 : (offs ((cl z).take i)).length ≤ ((cl z).take i).length := List.length_filter_le _ _
                rw [List.length_take] at h3
                exact Nat.lt_of_le_of_lt (show _ ≤ i by omega) (Nat.lt_of_lt_of_le (show i < 9 by omega) (by decide))
              · rw [upd_ne (ne_of_none ea nD)]
                exact s1 a o ea
              · rw [upd_same, tk]
                unfold offs
                rw [List.filter_append, List.filter_cons, if_pos e3, List.map_append]
                rfl
            · rw [mem_letters] at e3
              refine ⟨s1, ?_⟩
              rw [eD, tk]
              unfold offs
              rw [List.filter_append, List.filter_cons, if_neg e3, List.filter_nil, List.append_nil]
          · obtain ⟨s1, eD⟩ := h
            have hz : (cl z).take z.cps.size = cl z := List.take_of_length_le (by rw [cl_len]; exact Nat.le_refl _)
            rw [hz] at eD
            refine ⟨(show 0 ≤ sizeLine by decide), fun u nu => ?_⟩
            have sU : Same H1 (upd H1 u (.lst [])) := same_new' nu
            have hb : sm 1 (.list ((offs (cl z)).map signD)) = true := by
              refine sm_list ?_ fun d hd => ?_
              · rw [List.length_map]
                have h3 : (offs (cl z)).length ≤ (cl z).length := List.length_filter_le _ _
                rw [cl_len] at h3
                omega
              · obtain ⟨c, hc, rfl⟩ := List.mem_map.mp hd
                have hc2 : c ∈ cl z := (List.mem_filter.mp hc).1
                have : (cl z).all (fun c => decide (c < 128)) = true := ha
                rw [List.all_eq_true] at this
                refine sm_txt (show 1 ≤ 300 by decide) ?_
                show [c].all (fun c => decide (c < 128)) = true
                rw [List.all_cons, this c hc2]
                rfl
            refine ⟨.list ((offs (cl z)).map signD), .list [], (Da.lst (sU _ _ eD) (da_signs _)).dp, .lst (.inl (.inl upd_same)) .nil, sm_shaped (by decide) hb, by decide +kernel, ?_⟩
            have e4 : nmD (some (.str z)) = PyData.eqv (.list ((offs (cl z)).map signD)) (.list []) := by
              rw [eqv_nil]
              show (decide (1 ≤ z.length) && (decide (z.length ≤ 8) && _)) = _
              rw [decide_eq_true (by omega), decide_eq_true (by omega), Bool.true_and, Bool.true_and, ← offs_nil]
              cases offs (cl z) <;> rfl
            have q1 := q _ (s1.trans sU)
            rw [e4] at q1
            exact q1
      · have h2 : ¬ (1 : Int) ≤ z.length := by simpa using e1
        have : nmD (some (.str z)) = false := by
          show (decide (1 ≤ z.length) && _) = false
          rw [decide_eq_false (show ¬ 1 ≤ z.length by omega), Bool.false_and]
        rw [this] at q0
        exact ⟨_, rfl, iteT q0⟩
/-! ### _law_are_lines -/
theorem bad_nil (ds : List PyData) : (ds.filter fun d => !numD 0 3 d).isEmpty = ds.all (numD 0 3) := by
  rw [Bool.eq_iff_iff, List.isEmpty_iff, List.filter_eq_nil_iff, List.all_eq_true]
  constructor
  · intro h c hc
    simpa using h c hc
  · intro h c hc
    simp only [h c hc]
    decide
def spAreLines : Sp := fun vs H Q _ => ∃ (x : V) (d : PyData) (n : Nat), vs = [x] ∧ Da H x d ∧ n ≤ 8 ∧ sm n d = true ∧ ∀ H', Same H H' → Q (.bl (linesD d)) H'
theorem okAreLines {f f1 : Addr} {fd d1 : FuncData} (D : Dn K mg "_law_are_lines" sLareLines ["_law_value"] f fd) (DLisNumber : Dn K mg "_law_is_number" sLisNumber ["_law_value", "_law_high"] f1 d1) (T : Bx mg) (U : By mg) : FnOk P w K mg base CX0 2 f fd ["_law_value"] spAreLines := by
  have GLisNumber : FnOk P w K mg base CX0 1 _ _ _ _ := okLnum DLisNumber T
  refine D.F.ok scLareLines (fun vs H Q E h => ?_) (fun cdv A outer s H vs Q E hr h => ?_)
  · obtain ⟨x, d, n, rfl, _⟩ := h
    rfl
  · obtain ⟨x, d, n, rfl, hx, hn, hs, q⟩ := h
    refine ⟨_, (pss_cons (ps_if (PW.pt (pw_or (pt_not (pt_val (pe_callB call_isi (by rfl) T.m_isinstance (by decide +kernel) (pa_cons (pv 0) (pa_cons (pe_bltn (v := .ty "tuple") (by rfl) U.tuple (by decide +kernel) rfl) pa_nil))))) (pw_or1 (pt_cmpR (op_neD hr.units) (pe_lc (own := [("_law_line", 1)]) (g := gName 1) rfl scLareLines.nd (pi_tup (pv 0)) (blkOk_by (own := [("_law_line", 1)]) (N := ["_law_value", "_law_line"]) (sc := defScope sLareLines) (by decide +kernel)) (fun _ _ _ _ _ => (pg_name (i := 1) scLareLines.nd rfl (Or.inl rfl))) (fun _ _ _ _ _ => (pts_one (pt_not (pt_val (pe_call GLisNumber (hr.mono (by decide)) (by rfl) DLisNumber.g DLisNumber.F.kp DLisNumber.b .nil pass0 (pa_cons (pv 1) (pa_cons pe_int pa_nil))))))) (fun _ _ _ _ _ => (pv 1))) (pe_lst pa_nil) (nomark _))))) (pss_one (ps_ret pe_bl)) pss_nil)
  (pss_one (ps_ret (pe_cmpR (op_eqD hr.units) (pe_callB (call_sortedDI rfl) (by rfl) U.sorted (by decide +kernel) (pa_cons (pe_callTy (call_dictP rfl) (by rfl) U.dict (by decide +kernel) (pa_cons (pe_lc (own := [("_law_line", 1)]) (g := gName 1) rfl scLareLines.nd (pi_tup (pv 0)) (blkOk_by (own := [("_law_line", 1)]) (N := ["_law_value", "_law_line"]) (sc := defScope sLareLines) (by decide +kernel)) (fun _ _ _ _ _ => (pg_name (i := 1) scLareLines.nd rfl (Or.inl rfl))) (fun _ _ _ _ _ => pts_nil) (fun _ _ _ _ _ => (pe_tup (pa_cons (pv 1) (pa_cons pe_bl pa_nil))))) pa_nil)) pa_nil)) (pe_callTy call_list_of (by rfl) T.m_list (by decide +kernel) (pa_cons (pv 0) pa_nil)) (nomark _))))), ?_⟩
    have q0 := q H (Same.refl H)
    refine ⟨x, rfl, x, .ty "tuple", .type (tyD (some d)), .type "tuple", isTu (some d), rfl, .ty "tuple", (Vd.da hx).ty, kit_ty (kit_tu _), _, rfl, ite2 (fun e => ?_) (fun e => ?_)⟩
    · have : linesD d = false := by
        cases d <;> first | rfl | cases e
      rw [this] at q0
      exact q0
    · obtain ⟨ds, rfl⟩ : ∃ ds, d = .tuple ds := by
        cases d with
        | tuple ds => exact ⟨ds, rfl⟩
        | _ => exact absurd rfl e
      obtain ⟨n, rfl⟩ : ∃ m, n = m + 1 := by
        cases n with
        | zero => cases hs
        | succ m => exact ⟨m, rfl⟩
      obtain ⟨hl, hsm⟩ := sm_tup hs
      cases hx with
      | @tup p xs _ hp ha =>
      have hlx := ha.len
      refine ⟨.ref p, rfl, p, rfl, ⟨_, .inl (.inl hp)⟩, fun D nD => ?_⟩
      refine lc_it (walk_tup (xs := xs)) (fun i H' => Same H H' ∧ ∃ vs, H' D = some (.lst vs) ∧ DaAll H vs ((ds.take i).filter fun d => !numD 0 3 d)) ⟨same_new' nD, _, upd_same, .nil⟩ (fun _ _ _ h => .inl (.inl (h.1 _ _ hp))) (fun i x H1 H2 hi h hy => ?_) (fun H1 h => ?_)
      · obtain ⟨s1, vs, eD, dv⟩ := h
        obtain ⟨rfl, hx⟩ := hy
        obtain ⟨d, hd, dx⟩ := ha.at i x hx
        have tk : ds.take (i + 1) = ds.take i ++ [d] := by rw [List.take_succ, hd]; rfl
        refine ⟨rfl, x, rfl, x, 3, rfl, (dx.up s1 _ _).any, _, rfl, ite2 (fun e3 => ?_) (fun e3 => ?_)⟩
        · rw [num_is dx] at e3
          refine ⟨x, rfl, _, eD, ?_, fun a o ea => ?_, vs ++ [x], ?_, ?_⟩
          · rw [dv.len]
            have h3 : ((ds.take i).filter fun d => !numD 0 3 d).length ≤ (ds.take i).length := List.length_filter_le _ _
            rw [List.length_take] at h3
            exact Nat.lt_of_lt_of_le (show _ < 13 by omega) (by decide)
          · rw [upd_ne (ne_of_none ea nD)]
            exact s1 a o ea
          · rw [upd_same]
          · rw [tk, List.filter_append, List.filter_cons, if_pos e3]
            exact dv.app (.cons dx .nil)
        · rw [num_is dx] at e3
          refine ⟨s1, vs, eD, ?_⟩
          rw [tk, List.filter_append, List.filter_cons, if_neg e3, List.filter_nil, List.append_nil]
          exact dv
      · obtain ⟨s1, vs, eD, dv⟩ := h
        have hz : ds.take xs.length = ds := List.take_of_length_le (by omega)
        rw [hz] at dv
        refine ⟨(show 0 ≤ sizeLine by decide), fun u nu => ?_⟩
        have sU : Same H1 (upd H1 u (.lst [])) := same_new' nu
        have hb : sm (n + 1) (.list (ds.filter fun d => !numD 0 3 d)) = true := by
          refine sm_list ?_ fun d hd => ?_
          · have h3 : (ds.filter fun d => !numD 0 3 d).length ≤ ds.length := List.length_filter_le _ _
            omega
          · exact hsm d (List.mem_filter.mp hd).1
        refine ⟨.list (ds.filter fun d => !numD 0 3 d), .list [], (Da.lst (sU _ _ eD) (dv.up (s1.trans sU) _ _)).dp, .lst (.inl (.inl upd_same)) .nil, sm_shaped (by omega) hb, by decide +kernel, ?_⟩
        rw [eqv_nil, bad_nil]
        refine ⟨_, rfl, ite2 (fun e4 => ?_) (fun e4 => ?_)⟩
        · have e5 : ds.all (numD 0 3) = false := by simpa using e4
          have : linesD (.tuple ds) = false := by
            show (ds.all (numD 0 3) && _) = false
            rw [e5, Bool.false_and]
          have q1 := q _ (s1.trans sU)
          rw [this] at q1
          exact q1
        · have e5 : ds.all (numD 0 3) = true := by simpa using e4
          obtain ⟨ex, ed, hb2⟩ := ints_of ha e5
          have hlen : (intsD ds).length = ds.length := by
            have := congrArg List.length ed
            rw [List.length_map] at this
            exact this.symm
          have eL : linesD (.tuple ds) = ascN (intsD ds) := by
            show (ds.all (numD 0 3) && _) = _
            rw [e5, Bool.true_and]
          generalize hns : intsD ds = ns at ex ed hb2 hlen eL
          have s2 : Same H (upd H1 u (.lst [])) := s1.trans sU
          subst ex
          have hp2 := s2 _ _ hp
          refine ⟨.ref p, rfl, p, rfl, ⟨_, .inl (.inl hp2)⟩, fun D2 nD2 => ?_⟩
          refine lc_it (walk_tup (xs := ns.map V.int)) (fun i H' => Same (upd H1 u (.lst [])) H' ∧ ∃ ps : List Addr, H' D2 = some (.lst (ps.map V.ref)) ∧ Paired (fun t n => H' t = some (.tup [.int n, .bl true])) ps (ns.take i)) ⟨same_new' nD2, [], upd_same, .nil⟩ (fun _ _ _ h => .inl (.inl (h.1 _ _ hp2))) (fun i x H2 H3 hi h hy => ?_) (fun H2 h => ?_)
          · obtain ⟨t1, ps, eD, pr⟩ := h
            obtain ⟨rfl, hx⟩ := hy
            have hx' : (ns.map V.int)[i]? = some x := hx
            rw [List.getElem?_map] at hx'
            obtain ⟨m, hm, rfl⟩ := Option.map_eq_some_iff.mp hx'
            have tk : ns.take (i + 1) = ns.take i ++ [m] := by rw [List.take_succ, hm]; rfl
            refine ⟨rfl, .int m, rfl, (show 2 ≤ sizeLine by decide), fun t nt => ?_⟩
            have nDt : D2 ≠ t := ne_of_none eD nt
            have pl : ps.length ≤ 12 := by
              have := paired_len pr
              rw [List.length_take] at this
              omega
            refine ⟨_, by rw [upd_ne nDt]; exact eD, ?_, fun a o ea => ?_, ps ++ [t], ?_, ?_⟩
            · rw [List.length_map]
              exact Nat.lt_of_lt_of_le (show ps.length < 13 by omega) (by decide)
            · have e1 := t1 a o ea
              rw [upd_ne (ne_of_none ea nD2), upd_ne (ne_of_none e1 nt)]
              exact e1
            · rw [upd_same, List.map_append]
              rfl
            · rw [tk]
              have nt' : t ≠ D2 := fun e => nDt e.symm
              refine (paired_imp (fun a m e => ?_) pr).snoc ?_
              · have a1 : a ≠ t := ne_of_none e nt
                have a2 : a ≠ D2 := fun z => by rw [z, eD] at e; cases e
                rw [upd_ne a2, upd_ne a1]
                exact e
              · rw [upd_ne nt', upd_same]
          · obtain ⟨t1, ps, eD, pr⟩ := h
            rw [List.length_map, List.take_length] at pr
            have pl : ps.length = ns.length := paired_len pr
            refine ⟨D2, ps, ns.map (fun n => ((Sum.inl n : Key), V.bl true)), rfl, .inl (.inl eD), paired_map (fun a m e => .inl (.inl e)) pr, fun g ng => ?_⟩
            have s3 := same_new' (o := .dK (mergeK [] (ns.map fun n => ((Sum.inl n : Key), V.bl true)))) ng
            refine ⟨g, _, ns.foldl addK [], rfl, .inl upd_same, keys_merge ns [] [] rfl, ?_, fun ns' v hpm hso nv => ?_⟩
            · have := fold_len ns []
              rw [List.length_nil] at this
              omega
            have s4 := same_new' (o := .lst (ns'.map V.int)) nv
            have sall := ((s2.trans t1).trans s3).trans s4
            have hp4 := sall _ _ hp
            refine ⟨.ref p, rfl, p, _, rfl, .inr (.inl (.inl hp4)), fun l nl => ?_⟩
            have s5 := same_new' (o := .lst (ns.map V.int)) nl
            have hv := s5 _ _ (upd_same (H := upd H2 g (.dK (mergeK [] (ns.map fun n => ((Sum.inl n : Key), V.bl true))))) (a := v) (o := .lst (ns'.map V.int)))
            have l1 : ns'.length ≤ 12 := by
              have h1 := hpm.length_eq
              have h2 := fold_len ns []
              rw [List.length_nil] at h2
              omega
            have smi : ∀ l : List Int, l.length ≤ 12 → SeqAt.shaped (.list (l.map PyData.int)) = true := fun l h => sm_shaped (n := 1) (by decide) (sm_list (by rw [List.length_map]; exact h) fun d hd => by
              obtain ⟨c, _, rfl⟩ := List.mem_map.mp hd
              rfl)
            refine ⟨.list (ns'.map PyData.int), .list (ns.map PyData.int), (Da.lst hv (da_ints _)).dp, (Da.lst upd_same (da_ints _)).dp, smi _ l1, smi _ (by omega), ?_⟩
            have : PyData.eqv (.list (ns'.map PyData.int)) (.list (ns.map PyData.int)) = linesD (.tuple ds) := by
              rw [PyData.eqv, eqv_ints, sorted_asc hpm hso, eL]
            rw [this]
            exact q _ (sall.trans s5)
end
end K66

namespace Ks
open PySem PySem.Spec L2
open PyProof.Rows hiding St
theorem isW_ne {a b : Str} {w : PyData} (h : a ≠ b) (e : isW a w = true) : isW b w = false := by
  cases w with
  | str z =>
    have : z = a := of_decide_eq_true e
    subst this
    exact decide_eq_false h
  | _ => cases e
theorem anyW (a b : Str) (w : PyData) : ([PyData.str a, PyData.str b].any fun z => PyData.eqv z w) = (isW a w || isW b w) := by
  have c : ∀ s : Str, PyData.eqv (.str s) w = isW s w := fun s => by
    cases w <;> simp only [PyData.eqv, isW]
    rename_i z
    by_cases h : s = z
    · simp [h]
    · rw [beq_false_of_ne h, decide_eq_false (fun e => h e.symm)]
  simp only [List.any_cons, List.any_nil, Bool.or_false, c]
theorem told_not' {w : PyData} (h : (isW "within" w || isW "alike" w) = true) : isW "told" w = false := by
  rcases Bool.or_eq_true_iff.mp h with e | e <;> exact isW_ne (by decide +kernel) e
theorem eqv_self {n : Nat} {d : PyData} (h : sm n d = true) : PyData.eqv d d = true := SeqAt.eqv_refl d (sm_lay n d h).1
end Ks
namespace K66
open PySem PySem.Spec L2 Ks
open PyProof.Rows hiding St
section
variable {P : Program} {w : World} {K : PySem.W.Frag} {mg : Str → Option Value} {base : Heap}
/-! ### _law_is_told -/
theorem okTold {f f1 f2 f3 : Addr} {fd d1 d2 d3 : FuncData} (D : Dn K mg "_law_is_told" sLisTold ["_law_value"] f fd) (DLisNumber : Dn K mg "_law_is_number" sLisNumber ["_law_value", "_law_high"] f1 d1) (DLisNamed : Dn K mg "_law_is_named" sLisNamed ["_law_value"] f2 d2) (DLareLines : Dn K mg "_law_are_lines" sLareLines ["_law_value"] f3 d3) (T : Bx mg) (U : By mg) : FnOk P w K mg base CX0 3 f fd ["_law_value"] spIsPromise := by
  have GLisNumber : FnOk P w K mg base CX0 1 _ _ _ _ := okLnum DLisNumber T
  have GLisNamed : FnOk P w K mg base CX0 1 _ _ _ _ := okNamed DLisNamed T
  have GLareLines : FnOk P w K mg base CX0 2 _ _ _ _ := okAreLines DLareLines DLisNumber T U
  refine D.F.ok scLisTold (fun vs H Q E h => ?_) (fun cdv A outer s H vs Q E hr h => ?_)
  · obtain ⟨x, o, n, rfl, _⟩ := h
    rfl
  · obtain ⟨x, o, n, rfl, hx, hn, hs, q⟩ := h
    refine ⟨_, (pss_cons (ps_if (PW.pt (pw_or (pt_not (pt_val (pe_callB call_isi (by rfl) T.m_isinstance (by decide +kernel) (pa_cons (pv 0) (pa_cons (pe_bltn (v := .ty "tuple") (by rfl) U.tuple (by decide +kernel) rfl) pa_nil))))) (pw_or (pt_not (pt_chain op_le op_le pe_int (pe_callB call_len_seq (by rfl) T.m_len (by decide +kernel) (pa_cons (pv 0) pa_nil)) pe_int)) (pw_or (pt_not (pt_val (pe_callB call_isi (by rfl) T.m_isinstance (by decide +kernel) (pa_cons (pe_ix ix_tup (pv 0) pe_int (fun _ _ => rfl)) (pa_cons (pe_bltn (v := .ty "str") (by rfl) T.m_str (by decide +kernel) rfl) pa_nil))))) (pw_or1 (pt_not (pt_val (pe_call GLisNamed (hr.mono (by decide)) (by rfl) DLisNamed.g DLisNamed.F.kp DLisNamed.b .nil pass0 (pa_cons (pe_ix ix_tup (pv 0) pe_int (fun _ _ => rfl)) pa_nil))))))))) (pss_one (ps_ret pe_bl)) pss_nil)
  (pss_cons (ps_if (pt_cmpR (op_inT (units65 hr)) (pe_ix ix_tup (pv 0) pe_int (fun _ _ => rfl)) (pe_tup (pa_cons pe_str (pa_cons pe_str pa_nil))) rfl) (pss_one (ps_ret (pe_and (pe_cmpR op_eq (pe_callB call_len_seq (by rfl) T.m_len (by decide +kernel) (pa_cons (pv 0) pa_nil)) pe_int (nomark _)) (pe_one (pe_call GLisNamed (hr.mono (by decide)) (by rfl) DLisNamed.g DLisNamed.F.kp DLisNamed.b .nil pass0 (pa_cons (pe_ix ix_tup (pv 0) pe_int (fun _ _ => rfl)) pa_nil)))))) pss_nil)
  (pss_cons (ps_if (pt_cmpR (op_inT (units65 hr)) (pe_ix ix_tup (pv 0) pe_int (fun _ _ => rfl)) (pe_tup (pa_cons pe_str (pa_cons pe_str pa_nil))) rfl) (pss_one (ps_ret (pe_and (pe_cmpR op_eq (pe_callB call_len_seq (by rfl) T.m_len (by decide +kernel) (pa_cons (pv 0) pa_nil)) pe_int (nomark _)) (pe_one (pe_call GLisNumber (hr.mono (by decide)) (by rfl) DLisNumber.g DLisNumber.F.kp DLisNumber.b .nil pass0 (pa_cons (pe_ix ix_tup (pv 0) pe_int (fun _ _ => rfl)) (pa_cons (pe_ifExp (pt_cmpR (op_eqD hr.units) (pe_ix ix_tup (pv 0) pe_int (fun _ _ => rfl)) pe_str (nomark _)) pe_int pe_int) pa_nil))))))) pss_nil)
  (pss_cons (ps_if (pt_cmpR (op_eqD hr.units) (pe_ix ix_tup (pv 0) pe_int (fun _ _ => rfl)) pe_str (nomark _)) (pss_one (ps_ret (pe_and (pe_cmpR op_eq (pe_callB call_len_seq (by rfl) T.m_len (by decide +kernel) (pa_cons (pv 0) pa_nil)) pe_int (nomark _)) (pe_and (pe_call GLareLines (hr.mono (by decide)) (by rfl) DLareLines.g DLareLines.F.kp DLareLines.b .nil pass0 (pa_cons (pe_ix ix_tup (pv 0) pe_int (fun _ _ => rfl)) pa_nil)) (pe_one (pe_call GLisNumber (hr.mono (by decide)) (by rfl) DLisNumber.g DLisNumber.F.kp DLisNumber.b .nil pass0 (pa_cons (pe_ix ix_tup (pv 0) pe_int (fun _ _ => rfl)) (pa_cons pe_int pa_nil)))))))) pss_nil)
  (pss_one (ps_ret (pe_cmpR (op_eqD hr.units) (pv 0) (pe_tup (pa_cons pe_str (pa_cons (pe_ix ix_tup (pv 0) pe_int (fun _ _ => rfl)) pa_nil))) (nomark _)))))))), ?_⟩
    have q0 := q H (Same.refl H)
    refine ⟨x, rfl, x, .ty "tuple", .type (tyD o), .type "tuple", isTu o, rfl, .ty "tuple", hx.ty, kit_ty (kit_tu _), _, rfl, ite2 (fun e => ?_) (fun e => ?_)⟩
    · have : prom o = false := by
        match o, e with
        | none, _ => rfl
        | some (.tuple _), e => cases e
        | some .none, _ => rfl
        | some (.bool _), _ => rfl
        | some (.int _), _ => rfl
        | some (.str _), _ => rfl
        | some (.list _), _ => rfl
        | some (.dict _), _ => rfl
      rw [this] at q0
      exact q0
    · obtain ⟨ds, rfl⟩ : ∃ ds, o = some (.tuple ds) := by
        match o, e with
        | some (.tuple ds), _ => exact ⟨ds, rfl⟩
        | none, e => exact absurd rfl e
        | some .none, e => exact absurd rfl e
        | some (.bool _), e => exact absurd rfl e
        | some (.int _), e => exact absurd rfl e
        | some (.str _), e => exact absurd rfl e
        | some (.list _), e => exact absurd rfl e
        | some (.dict _), e => exact absurd rfl e
      have hs0 := hs _ rfl
      obtain ⟨n, rfl⟩ : ∃ m, n = m + 1 := by
        cases n with
        | zero => exact absurd hs0 (fun z => by cases z)
        | succ m => exact ⟨m, rfl⟩
      obtain ⟨hl, hsm⟩ := sm_tup hs0
      cases hx with
      | da hx =>
      cases hx with
      | @tup p xs _ hp ha =>
      have hS : SqT K H p xs := .inl (.inl hp)
      have hlen := ha.len
      refine ⟨.ref p, rfl, p, xs, rfl, .inr hS, 2, (xs.length : Int), rfl, rfl, _, rfl, ite2 (fun e1 => ?_) (fun e1 => ?_)⟩
      case refine_2 =>
        have h2 : ¬ (2 : Int) ≤ xs.length := by simpa using e1
        have : prom (some (.tuple ds)) = false := by
          match ds, hlen with
          | [], _ => rfl
          | [_], _ => rfl
          | _ :: _ :: r, h => rw [h, List.length_cons, List.length_cons] at h2; omega
        rw [this] at q0
        exact ⟨_, rfl, iteT q0⟩
      have h1 : (2 : Int) ≤ xs.length := of_decide_eq_true e1
      refine ⟨(xs.length : Int), 4, rfl, rfl, _, rfl, ite2 (fun e2 => ?_) (fun e2 => ?_)⟩
      · have h2 : ¬ (xs.length : Int) ≤ 4 := by simpa using e2
        have : prom (some (.tuple ds)) = false := by
          match ds, hlen with
          | [], _ => rfl
          | [_], _ => rfl
          | [_, _], h => rw [h] at h2; simp at h2
          | [_, _, _], h => rw [h] at h2; simp at h2
          | [_, _, _, _], h => rw [h] at h2; simp at h2
          | _ :: _ :: _ :: _ :: _ :: _, _ => rfl
        rw [this] at q0
        exact q0
      have h4 : (xs.length : Int) ≤ 4 := by simpa using e2
      obtain ⟨w0, w1, rest, rfl⟩ : ∃ w0 w1 rest, ds = w0 :: w1 :: rest := by
        match ds, hlen with
        | [], h => rw [h] at h1; simp at h1
        | [_], h => rw [h] at h1; simp at h1
        | w0 :: w1 :: r, _ => exact ⟨w0, w1, r, rfl⟩
      cases ha with
      | @cons v0 r0 _ _ h0 ha =>
      cases ha with
      | @cons v1 r1 _ _ h1' ha =>
      have sh : ∀ d ∈ w0 :: w1 :: rest, SeqAt.shaped d = true := fun d m => sm_shaped (by omega) (hsm d m)
      have sms : ∀ d ∈ w0 :: w1 :: rest, ∀ e, some d = some e → sm n e = true := fun d m e h => by cases h; exact hsm d m
      refine ⟨.ref p, rfl, p, _, 0, v0, rfl, rfl, hS, atI_nat (j := 0) rfl, v0, .ty "str", .type (tyD (some w0)), .type "str", isSt (some w0), rfl, .ty "str", (Vd.da h0).ty, kit_ty (kit_st _), _, rfl, ite2 (fun e3 => ?_) (fun e3 => ?_)⟩
      · have : prom (some (.tuple (w0 :: w1 :: rest))) = false := by
          have ns : ∀ s, isW s w0 = false := fun s => by cases w0 <;> first | rfl | cases e3
          match rest with
          | [] => show (nmD (some w1) && isW "answered" w0) = false; rw [ns, Bool.and_false]
          | [c] => show (nmD (some w1) && if isW "most" w0 = true then _ else if isW "ahead" w0 = true then _ else (isW "within" w0 || isW "alike" w0) && _) = false; rw [ns, ns, ns, ns, if_neg (by decide), if_neg (by decide), Bool.or_self, Bool.false_and, Bool.and_false]
          | [c, n] => show (nmD (some w1) && (isW "told" w0 && _)) = false; rw [ns, Bool.false_and, Bool.and_false]
          | _ :: _ :: _ :: _ => rfl
        rw [this] at q0
        exact q0
      refine ⟨.ref p, rfl, p, _, 1, v1, rfl, rfl, hS, atI_nat (j := 1) rfl, v1, some w1, n, rfl, .da h1', by omega, sms w1 (by simp), fun H1 s1 => ⟨_, rfl, ite2 (fun e4 => ?_) (fun e4 => ?_)⟩⟩
      · have q1 := q H1 s1
        rw [prom_no (by simpa using e4)] at q1
        exact q1
      have n1 : nmD (some w1) = true := by simpa using e4
      have hp1 := s1 _ _ hp
      have hS1 : SqT K H1 p (v0 :: v1 :: r1) := .inl (.inl hp1)
      have up1 : ∀ {d : PyData} {y : V}, Da H y d → Da H1 y d := fun h => h.up s1 _ _
      refine ⟨.ref p, rfl, p, _, 0, v0, rfl, rfl, hS1, atI_nat (j := 0) rfl, (show 2 ≤ sizeLine by decide), fun t nt => ?_⟩
      have s2 : Same H1 (upd H1 t (.tup [.str "within", .str "alike"])) := same_new' nt
      have hp2 := s2 _ _ hp1
      have S2 := s1.trans s2
      refine ⟨w0, [.str "within", .str "alike"], (h0.up S2 _ _).dp, .tup (.inl (.inl upd_same)) (.cons (.str _) (.cons (.str _) .nil)), sh w0 (by simp), by decide +kernel, ?_⟩
      rw [anyW]
      have ne : ∀ {xs : List V} {k : Int}, (xs.length : Int) ≠ k → ¬ decide (V.int (xs.length : Int) = V.int k) = true := fun h e => h (V.int.inj (of_decide_eq_true e))
      have p2 : prom (some (.tuple [w0, w1])) = isW "answered" w0 := by
        show (nmD (some w1) && _) = _
        rw [n1, Bool.true_and]
      have p3 : ∀ c, prom (some (.tuple [w0, w1, c])) = (if isW "most" w0 = true then numD 0 99 c else if isW "ahead" w0 = true then numD 0 3 c else (isW "within" w0 || isW "alike" w0) && nmD (some c)) := fun c => by
        show (nmD (some w1) && _) = _
        rw [n1, Bool.true_and]
      have p4 : ∀ c m, prom (some (.tuple [w0, w1, c, m])) = (isW "told" w0 && (linesD c && numD 0 3 m)) := fun c m => by
        show (nmD (some w1) && _) = _
        rw [n1, Bool.true_and]
      refine ⟨_, rfl, ite2 (fun e5 => ?_) (fun e5 => ?_)⟩
      · have nA : isW "answered" w0 = false := by
          rcases Bool.or_eq_true_iff.mp e5 with e | e <;> exact isW_ne (by decide +kernel) e
        have nM : isW "most" w0 = false := by
          rcases Bool.or_eq_true_iff.mp e5 with e | e <;> exact isW_ne (by decide +kernel) e
        have nH : isW "ahead" w0 = false := by
          rcases Bool.or_eq_true_iff.mp e5 with e | e <;> exact isW_ne (by decide +kernel) e
        have nT : isW "told" w0 = false := told_not' e5
        have q2 := q _ S2
        cases ha with
        | nil =>
          refine ⟨.ref p, rfl, p, _, rfl, .inr (.inl (.inl hp2)), rfl, _, rfl, (if_neg (ne (by simp only [List.length_cons, List.length_nil]; omega))).mpr ?_⟩
          rw [p2, nA] at q2
          exact q2
        | @cons v2 r2 w2 s2' h2 ha =>
        cases ha with
        | nil =>
          refine ⟨.ref p, rfl, p, _, rfl, .inr (.inl (.inl hp2)), rfl, _, rfl, iteT ?_⟩
          refine ⟨.ref p, rfl, p, _, 2, v2, rfl, rfl, .inl (.inl hp2), atI_nat (j := 2) rfl, v2, some w2, n, rfl, .da (h2.up S2 _ _), by omega, sms w2 (by simp), fun H3 s3 => ?_⟩
          have q3 := q H3 (S2.trans s3)
          rw [p3, nM, nH, if_neg (by decide), if_neg (by decide), e5, Bool.true_and] at q3
          exact q3
        | @cons v3 r3 w3 s3' h3 ha =>
          refine ⟨.ref p, rfl, p, _, rfl, .inr (.inl (.inl hp2)), rfl, _, rfl, (if_neg (ne (by simp only [List.length_cons]; omega))).mpr ?_⟩
          cases ha with
          | nil =>
            rw [p4, nT, Bool.false_and] at q2
            exact q2
          | cons _ _ =>
            simp only [List.length_cons] at h4
            omega
      · have nW : (isW "within" w0 || isW "alike" w0) = false := Bool.eq_false_iff.mpr e5
        refine ⟨.ref p, rfl, p, _, 0, v0, rfl, rfl, .inl (.inl hp2), atI_nat (j := 0) rfl, (show 2 ≤ sizeLine by decide), fun t2 nt2 => ?_⟩
        have s3 : Same (upd H1 t (.tup [.str "within", .str "alike"])) (upd (upd H1 t (.tup [.str "within", .str "alike"])) t2 (.tup [.str "most", .str "ahead"])) := same_new' nt2
        have hp3 := s3 _ _ hp2
        have S3 := S2.trans s3
        have q3 := q _ S3
        refine ⟨w0, [.str "most", .str "ahead"], (h0.up S3 _ _).dp, .tup (.inl (.inl upd_same)) (.cons (.str _) (.cons (.str _) .nil)), sh w0 (by simp), by decide +kernel, ?_⟩
        rw [anyW]
        refine ⟨_, rfl, ite2 (fun e6 => ?_) (fun e6 => ?_)⟩
        · have nA : isW "answered" w0 = false := by
            rcases Bool.or_eq_true_iff.mp e6 with e | e <;> exact isW_ne (by decide +kernel) e
          have nT : isW "told" w0 = false := by
            rcases Bool.or_eq_true_iff.mp e6 with e | e <;> exact isW_ne (by decide +kernel) e
          cases ha with
          | nil =>
            refine ⟨.ref p, rfl, p, _, rfl, .inr (.inl (.inl hp3)), rfl, _, rfl, (if_neg (ne (by simp only [List.length_cons, List.length_nil]; omega))).mpr ?_⟩
            rw [p2, nA] at q3
            exact q3
          | @cons v2 r2 w2 s2' h2 ha =>
          cases ha with
          | nil =>
            refine ⟨.ref p, rfl, p, _, rfl, .inr (.inl (.inl hp3)), rfl, _, rfl, iteT ?_⟩
            refine ⟨.ref p, rfl, p, _, 2, v2, rfl, rfl, .inl (.inl hp3), atI_nat (j := 2) rfl, .ref p, rfl, p, _, 0, v0, rfl, rfl, .inl (.inl hp3), atI_nat (j := 0) rfl, w0, .str "most", (h0.up S3 _ _).dp, .str _, sh w0 (by simp), by decide +kernel, ?_⟩
            rw [eqv_str]
            refine ⟨_, rfl, ite2 (fun e7 => ?_) (fun e7 => ?_)⟩
            · refine ⟨v2, 99, rfl, (h2.up S3 _ _).any, ?_⟩
              rw [num_is h2]
              rw [p3, if_pos e7] at q3
              exact q3
            · refine ⟨v2, 3, rfl, (h2.up S3 _ _).any, ?_⟩
              have eh : isW "ahead" w0 = true := by
                rw [Bool.eq_false_iff.mpr e7, Bool.false_or] at e6
                exact e6
              rw [num_is h2]
              rw [p3, if_neg e7, if_pos eh] at q3
              exact q3
          | @cons v3 r3 w3 s3' h3 ha =>
            refine ⟨.ref p, rfl, p, _, rfl, .inr (.inl (.inl hp3)), rfl, _, rfl, (if_neg (ne (by simp only [List.length_cons]; omega))).mpr ?_⟩
            cases ha with
            | nil =>
              rw [p4, nT, Bool.false_and] at q3
              exact q3
            | cons _ _ =>
              simp only [List.length_cons] at h4
              omega
        · have nMH : isW "most" w0 = false ∧ isW "ahead" w0 = false := by
            have := Bool.eq_false_iff.mpr e6
            rw [Bool.or_eq_false_iff] at this
            exact this
          refine ⟨.ref p, rfl, p, _, 0, v0, rfl, rfl, .inl (.inl hp3), atI_nat (j := 0) rfl, w0, .str "told", (h0.up S3 _ _).dp, .str _, sh w0 (by simp), by decide +kernel, ?_⟩
          rw [eqv_str]
          refine ⟨_, rfl, ite2 (fun e7 => ?_) (fun e7 => ?_)⟩
          · have nA : isW "answered" w0 = false := isW_ne (by decide +kernel) e7
            cases ha with
            | nil =>
              refine ⟨.ref p, rfl, p, _, rfl, .inr (.inl (.inl hp3)), rfl, _, rfl, (if_neg (ne (by simp only [List.length_cons, List.length_nil]; omega))).mpr ?_⟩
              rw [p2, nA] at q3
              exact q3
            | @cons v2 r2 w2 s2' h2 ha =>
            cases ha with
            | nil =>
              refine ⟨.ref p, rfl, p, _, rfl, .inr (.inl (.inl hp3)), rfl, _, rfl, (if_neg (ne (by simp only [List.length_cons, List.length_nil]; omega))).mpr ?_⟩
              rw [p3, nMH.1, nMH.2, if_neg (by decide), if_neg (by decide), nW, Bool.false_and] at q3
              exact q3
            | @cons v3 r3 w3 s3' h3 ha =>
            cases ha with
            | nil =>
              refine ⟨.ref p, rfl, p, _, rfl, .inr (.inl (.inl hp3)), rfl, _, rfl, iteT ?_⟩
              refine ⟨.ref p, rfl, p, _, 2, v2, rfl, rfl, .inl (.inl hp3), atI_nat (j := 2) rfl, v2, w2, n, rfl, h2.up S3 _ _, by omega, hsm w2 (by simp), fun H4 s4 => ⟨_, rfl, ite2 (fun e8 => ?_) (fun e8 => ?_)⟩⟩
              · have S4 := S3.trans s4
                refine ⟨.ref p, rfl, p, _, 3, v3, rfl, rfl, .inl (.inl (S4 _ _ hp)), atI_nat (j := 3) rfl, v3, 3, rfl, (h3.up S4 _ _).any, ?_⟩
                have q4 := q H4 S4
                rw [p4, e7, e8, Bool.true_and, Bool.true_and, ← num_is h3] at q4
                exact q4
              · have q4 := q H4 (S3.trans s4)
                rw [p4, e7, Bool.eq_false_iff.mpr e8, Bool.true_and, Bool.false_and] at q4
                exact q4
            | cons _ _ =>
              simp only [List.length_cons] at h4
              omega
          · have nT : isW "told" w0 = false := Bool.eq_false_iff.mpr e7
            refine ⟨.ref p, rfl, .ref p, rfl, p, _, 1, v1, rfl, rfl, .inl (.inl hp3), atI_nat (j := 1) rfl, (show 2 ≤ sizeLine by decide), fun u nu => ?_⟩
            have s4 := same_new' (o := .tup [.str "answered", v1]) nu
            have S4 := S3.trans s4
            have q4 := q _ S4
            have sm2 : sm (n + 1) (.tuple [.str "answered", w1]) = true := sm_tuple (by show 2 ≤ 12; decide) fun d hd => by
              simp only [List.mem_cons, List.not_mem_nil, or_false] at hd
              rcases hd with rfl | rfl
              · exact sm_txt (by decide) (by decide)
              · exact hsm _ (by simp)
            refine ⟨.tuple (w0 :: w1 :: rest), .tuple [.str "answered", w1], (Da.tup (S4 _ _ hp) (.cons (h0.up S4 _ _) (.cons (h1'.up S4 _ _) (ha.up S4 _ _)))).dp, (Da.tup upd_same (.cons (.str _) (.cons (h1'.up S4 _ _) .nil))).dp, sm_shaped (by omega) hs0, sm_shaped (by omega) sm2, ?_⟩
            have : PyData.eqv (.tuple (w0 :: w1 :: rest)) (.tuple [.str "answered", w1]) = prom (some (.tuple (w0 :: w1 :: rest))) := by
              rw [PyData.eqv, PyData.eqvAll, PyData.eqvAll, eqv_self (hsm w1 (by simp)), Bool.true_and, eqv_str]
              match rest, h4, hlen with
              | [], _, _ => rw [PyData.eqvAll, p2, Bool.and_true]
              | [c], _, _ => rw [PyData.eqvAll, p3, nMH.1, nMH.2, if_neg (by decide), if_neg (by decide), nW, Bool.false_and, Bool.and_false]
              | [c, m], _, _ => rw [PyData.eqvAll, p4, nT, Bool.false_and, Bool.and_false]
              | _ :: _ :: _ :: _, h4, h => rw [h] at h4; simp only [List.length_cons] at h4; omega
            rw [this]
            exact q4
end
end K66

namespace K66
open PySem PySem.Spec L2 Ks
open PyProof.Rows hiding St
section
variable {P : Program} {w : World} {K : PySem.W.Frag} {mg : Str → Option Value} {base : Heap}
theorem okLdraw {f : Addr} {fd : FuncData} (D : Dn K mg "_law_draw" sLdraw ["_law_bag_here", "_law_total"] f fd) (T : Bx mg) : FnOk P w K mg base CX0 1 f fd ["_law_bag_here", "_law_total"] spDraw := by
  refine D.F.ok scLdraw (fun vs H Q E h => ?_) (fun cdv A outer s H vs Q E hr h => ?_)
  · obtain ⟨b, t, rfl, _⟩ := h
    rfl
  · obtain ⟨b, t, rfl, ht, hw, ⟨g, m, c, hb⟩, q⟩ := h
    refine ⟨_, ((pss_cons (ps_if (pt_cmpR op_gt (pe_ix ix_list (pv 0) pe_int (fun _ _ => rfl)) pe_int (nomark _)) (pss_cons (ps_set (i := 2) scLdraw.nd rfl (Or.inl rfl) (pe_op op_mod (pe_callTy call_int1 (by rfl) T.m_int (by decide +kernel) (pa_cons (pe_ix ix_list (pv 0) pe_int (fun _ _ => rfl)) pa_nil)) (pv 1)))
  (pss_cons (ps_asg (pe_op op_fdivW (pe_ix ix_list (pv 0) pe_int (fun _ _ => rfl)) (pv 1)) (pg_sub (pv 0) pe_int set_list))
  (pss_one (ps_ret (pv 2))))) pss_nil)
  (pss_cons (ps_asg (pe_op op_add (pe_ix ix_list (pv 0) pe_int (fun _ _ => rfl)) pe_int) (pg_sub (pv 0) pe_int set_list))
  (pss_cons (ps_set (i := 3) scLdraw.nd rfl (Or.inl rfl) (pe_op op_mod (pe_callTy call_int1 (by rfl) T.m_int (by decide +kernel) (pa_cons (pe_op op_add (pe_ix ix_list (pv 0) pe_int (fun _ _ => rfl)) (pe_op op_mul pe_int (pe_ix ix_list (pv 0) pe_int (fun _ _ => rfl)))) pa_nil)) pe_int))
  (pss_cons (ps_set (i := 4) scLdraw.nd rfl (Or.inl rfl) (pe_op op_add (pe_op op_mul (pe_op op_mod (pe_callTy call_int1 (by rfl) T.m_int (by decide +kernel) (pa_cons (pe_op op_mul (pv 3) (pv 3)) pa_nil)) pe_int) (pv 3)) (pe_op op_mul pe_int (pe_ix ix_list (pv 0) pe_int (fun _ _ => rfl)))))
  (pss_one (ps_ret (pe_op op_mod (pe_callTy call_int1 (by rfl) T.m_int (by decide +kernel) (pa_cons (pe_op op_fdivW (pe_op op_mod (pe_callTy call_int1 (by rfl) T.m_int (by decide +kernel) (pa_cons (pv 4) pa_nil)) pe_int) pe_int) pa_nil)) (pv 1))))))))), ?_⟩
    have at0 : ∀ {H' : Hp} {x y z : Int}, H' b = some (.lst [.int x, .int y, .int z]) → SqL K H' b [.int x, .int y, .int z] := fun e => .inl (.inl e)
    have fin : ∀ i : Int, ∃ r : Nat, i % t = (r : Int) ∧ (r : Int) < t := fun i => ⟨(i % t).toNat, by have := Int.emod_nonneg i (Int.ne_of_gt ht); omega, by have := Int.emod_lt_of_pos i ht; have := Int.emod_nonneg i (Int.ne_of_gt ht); omega⟩
    refine ⟨.ref b, rfl, b, _, 0, .int g, rfl, rfl, at0 hb, rfl, g, 0, rfl, rfl, _, rfl, ite2 (fun e => ?_) (fun e => ?_)⟩
    · refine ⟨.ref b, rfl, b, _, 0, .int g, rfl, rfl, at0 hb, rfl, .inl ⟨g, rfl, .int t, rfl, g, t, rfl, rfl, ht, ?_⟩⟩
      refine ⟨.ref b, rfl, b, _, 0, .int g, rfl, rfl, at0 hb, rfl, .int t, rfl, g, t, rfl, rfl, ⟨ht, hw⟩, .ref b, rfl, b, _, 0, 0, rfl, rfl, hb, rfl, ?_⟩
      obtain ⟨r, er, lr⟩ := fin g
      refine ⟨_, rfl, ?_⟩
      have := q r lr _ (Go.put (g := g / t) (m := m) (c := c) (Go.refl ⟨g, m, c, hb⟩))
      rw [← er] at this
      exact this
    · refine ⟨.ref b, rfl, b, _, 2, .int c, rfl, rfl, at0 hb, rfl, c, 1, rfl, rfl, .ref b, rfl, b, _, 2, 2, rfl, rfl, hb, rfl, ?_⟩
      have hb2 : (upd H b (.lst [.int g, .int m, .int (c + 1)])) b = some (.lst [.int g, .int m, .int (c + 1)]) := upd_same
      have s2 := at0 hb2
      refine ⟨.ref b, rfl, b, _, 1, .int m, rfl, rfl, s2, rfl, .ref b, rfl, b, _, 2, .int (c + 1), rfl, rfl, s2, rfl, 1048609, c + 1, rfl, rfl, .inl ⟨by decide, by decide⟩, m, _, rfl, rfl, .inl ⟨_, rfl, _, _, rfl, rfl, (show (0 : Int) < _ by decide), ?_⟩⟩
      refine ⟨_, rfl, _, rfl, _, _, rfl, rfl, ?_, .inl ⟨_, rfl, _, _, rfl, rfl, (show (0 : Int) < _ by decide), ?_⟩⟩
      · have h1 := Int.emod_nonneg (m + 1048609 * (c + 1)) (show (2305843009213693951 : Int) ≠ 0 by decide)
        have h2 := Int.emod_lt_of_pos (m + 1048609 * (c + 1)) (show (0 : Int) < 2305843009213693951 by decide)
        exact .inl ⟨by omega, by omega⟩
      refine ⟨_, rfl, _, _, rfl, rfl, ?_, .ref b, rfl, b, _, 2, .int (c + 1), rfl, rfl, s2, rfl, 8117, c + 1, rfl, rfl, .inl ⟨by decide, by decide⟩, _, _, rfl, rfl, ?_⟩
      · have h1 := Int.emod_nonneg (m + 1048609 * (c + 1)) (show (2305843009213693951 : Int) ≠ 0 by decide)
        have h2 := Int.emod_lt_of_pos (m + 1048609 * (c + 1)) (show (0 : Int) < 2305843009213693951 by decide)
        exact .inr ⟨by show _ < _; omega, by show _ < _; omega⟩
      refine ⟨_, rfl, .inl ⟨_, rfl, _, _, rfl, rfl, (show (0 : Int) < _ by decide), _, _, rfl, rfl, ⟨by decide, (by decide +kernel)⟩, .inl ⟨_, rfl, .int t, rfl, _, t, rfl, rfl, ht, ?_⟩⟩⟩
      obtain ⟨r, er, lr⟩ := fin ((((m + 1048609 * (c + 1)) % 2305843009213693951 * ((m + 1048609 * (c + 1)) % 2305843009213693951)) % 2305843009213693723 * ((m + 1048609 * (c + 1)) % 2305843009213693951) + 8117 * (c + 1)) % 2305843009213693921 / 16384)
      have := q r lr _ (Go.put (g := g) (m := m) (c := c + 1) (Go.refl ⟨g, m, c, hb⟩))
      rw [← er] at this
      exact this
end
end K66

namespace K66
open PySem PySem.Spec L2 Ks
open PyProof.Rows hiding St
section
variable {P : Program} {w : World} {K : PySem.W.Frag} {mg : Str → Option Value} {base : Heap}
theorem cut1L (xs : List V) : cutV xs none (some 1) = xs.take 1 := by
  unfold cutV
  rw [show HT.sIx xs.length xs.length (some 1) = min 1 xs.length from HT.sIx_nat xs.length xs.length 1, HT.sIx_none]
  cases xs with
  | nil => rfl
  | cons x r =>
    rw [show min 1 (x :: r).length = 1 by
      rw [List.length_cons]
      omega]
    rfl
theorem okLbag {f : Addr} {fd : FuncData} (D : Dn K mg "_law_bag" sLbag ["_law_script", "_law_at"] f fd) (T : Bx mg) : FnOk P w K mg base CX0 1 f fd ["_law_script", "_law_at"] (spBag K) := by
  refine D.F.ok scLbag (fun vs H Q E h => ?_) (fun cdv A outer s H vs Q E hr h => ?_)
  · obtain ⟨a, ns, k, rfl, _⟩ := h
    rfl
  · obtain ⟨a, ns, k, rfl, hS, hk, q⟩ := h
    refine ⟨_, ((pss_cons (ps_set (i := 2) scLbag.nd rfl (Or.inl rfl) (pe_ifExp (pt_cmpR op_lt (pv 1) (pe_callB call_len_seq (by rfl) T.m_len (by decide +kernel) (pa_cons (pv 0) pa_nil)) (nomark _)) (pe_ix ix_list (pv 0) (pv 1) (fun _ _ => rfl)) (pe_op op_add (pe_op op_add (pe_callB (cr_sum rfl) (by rfl) T.m_sum (by decide +kernel) (pa_cons (pe_slice sl_list (pv 0) po_none (po_some pe_int)) pa_nil)) (pe_op op_mul pe_int (pv 1))) pe_int)))
  (pss_cons (ps_set (i := 3) scLbag.nd rfl (Or.inl rfl) (pe_op op_mod (pe_callTy call_int1 (by rfl) T.m_int (by decide +kernel) (pa_cons (pe_callB call_abs (by rfl) T.m_abs (by decide +kernel) (pa_cons (pv 2) pa_nil)) pa_nil)) (pe_op Ks.op_powW (pe_op Ks.op_powW pe_int pe_int) pe_int)))
  (pss_cons (ps_set (i := 4) scLbag.nd rfl (Or.inl rfl) (pe_op op_add (pe_op op_add (pe_op op_add (pe_op op_mul (pe_op op_mod (pe_callTy call_int1 (by rfl) T.m_int (by decide +kernel) (pa_cons (pv 3) pa_nil)) pe_int) pe_int) (pe_op op_mul pe_int (pv 1))) (pe_op op_mul pe_int (pe_callTy call_int1 (by rfl) T.m_int (by decide +kernel) (pa_cons (pe_cmpR op_lt (pv 2) pe_int (nomark _)) pa_nil)))) pe_int))
  (pss_one (ps_ret (pe_lst (pa_cons (pe_callB (call_max2 rfl) (by rfl) T.m_max (by decide +kernel) (pa_cons pe_int (pa_cons (pe_op op_sub (pv 3) (pe_op Ks.op_powW pe_int pe_int)) pa_nil))) (pa_cons (pe_op op_mod (pe_callTy call_int1 (by rfl) T.m_int (by decide +kernel) (pa_cons (pv 4) pa_nil)) pe_int) (pa_cons pe_int pa_nil)))))))))), ?_⟩
    have pw : ∀ i : Int, (i = 47 ∨ i = 18) → CPowW 10 i := by
      rintro i (rfl | rfl) <;> exact ⟨by decide, by decide +kernel⟩
    refine ⟨.int k, rfl, .ref a, rfl, a, _, rfl, .inl hS, k, _, rfl, rfl, _, rfl, ite2 (fun e => ?a) (fun e => ?b)⟩
    case a =>
      have hk2 : k.toNat < (ns.map V.int).length := by
        have : k < ((ns.map V.int).length : Int) := of_decide_eq_true e
        omega
      have hk3 : k.toNat < ns.length := by rwa [List.length_map] at hk2
      have sm : Same H H := Same.refl H
      refine ⟨.ref a, rfl, .int k, rfl, a, _, k, .int ns[k.toNat], rfl, rfl, hS, ?_, ?_⟩
      · have := atI_nat (xs := ns.map V.int) (j := k.toNat) (v := .int ns[k.toNat]) (by rw [List.getElem?_map, List.getElem?_eq_getElem hk3]; rfl)
        rwa [Int.toNat_of_nonneg hk] at this
      refine ⟨_, rfl, _, rfl, .inl ⟨_, rfl, _, _, rfl, rfl, pw _ (.inl rfl), _, _, rfl, rfl, ⟨by decide, by decide +kernel⟩, _, _, rfl, rfl, (show (0 : Int) < _ by decide +kernel), ?_⟩⟩
      refine ⟨_, rfl, .inl ⟨_, rfl, _, _, rfl, rfl, (show (0 : Int) < _ by decide), _, _, rfl, rfl, .inr ⟨by decide, by decide⟩, .int k, rfl, _, _, rfl, rfl, .inl ⟨by decide, by decide⟩, _, _, rfl, rfl, ?_⟩⟩
      refine ⟨_, rfl, _, _, rfl, rfl, .inr ⟨_, rfl, _, _, rfl, rfl, .inl ⟨by decide, by decide⟩, _, _, rfl, rfl, _, _, rfl, rfl, ?_⟩⟩
      refine ⟨_, rfl, _, _, rfl, rfl, pw _ (.inr rfl), _, _, rfl, rfl, _, _, rfl, _, rfl, .inl ⟨_, rfl, _, _, rfl, rfl, (show (0 : Int) < _ by decide), (show 3 ≤ sizeLine by decide), fun c nc => ?_⟩⟩
      exact q c _ (sm.free nc) (sm.trans (same_new' nc)) ⟨_, _, _, upd_same⟩
    case b =>
      refine ⟨.ref a, rfl, 1, rfl, a, _, rfl, hS, fun p np => ?_⟩
      have sm : Same H (upd H p (.lst (cutV (ns.map V.int) none (some 1)))) := same_new' np
      refine ⟨p, ns.take 1, rfl, .inl (.inl ?_), .int k, rfl, 103, k, rfl, rfl, .inl ⟨by decide, by decide⟩, _, _, rfl, rfl, _, _, rfl, rfl, ?_⟩
      · rw [upd_same, cut1L, List.map_take]
      refine ⟨_, rfl, _, rfl, .inl ⟨_, rfl, _, _, rfl, rfl, pw _ (.inl rfl), _, _, rfl, rfl, ⟨by decide, by decide +kernel⟩, _, _, rfl, rfl, (show (0 : Int) < _ by decide +kernel), ?_⟩⟩
      refine ⟨_, rfl, .inl ⟨_, rfl, _, _, rfl, rfl, (show (0 : Int) < _ by decide), _, _, rfl, rfl, .inr ⟨by decide, by decide⟩, .int k, rfl, _, _, rfl, rfl, .inl ⟨by decide, by decide⟩, _, _, rfl, rfl, ?_⟩⟩
      refine ⟨_, rfl, _, _, rfl, rfl, .inr ⟨_, rfl, _, _, rfl, rfl, .inl ⟨by decide, by decide⟩, _, _, rfl, rfl, _, _, rfl, rfl, ?_⟩⟩
      refine ⟨_, rfl, _, _, rfl, rfl, pw _ (.inr rfl), _, _, rfl, rfl, _, _, rfl, _, rfl, .inl ⟨_, rfl, _, _, rfl, rfl, (show (0 : Int) < _ by decide), (show 3 ≤ sizeLine by decide), fun c nc => ?_⟩⟩
      exact q c _ (sm.free nc) (sm.trans (same_new' nc)) ⟨_, _, _, upd_same⟩
theorem okLoneOf {f f1 : Addr} {fd fd1 : FuncData} (D : Dn K mg "_law_one_of" sLoneOf ["_law_bag_here", "_law_items"] f fd) (DLdraw : Dn K mg "_law_draw" sLdraw ["_law_bag_here", "_law_total"] f1 fd1) (T : Bx mg) : FnOk P w K mg base CX0 2 f fd ["_law_bag_here", "_law_items"] spOneOf := by
  have GLdraw : FnOk P w K mg base CX0 1 _ _ _ _ := okLdraw DLdraw T
  refine D.F.ok scLoneOf (fun vs H Q E h => ?_) (fun cdv A outer s H vs Q E hr h => ?_)
  · obtain ⟨b, p, xs, rfl, _⟩ := h
    rfl
  · obtain ⟨b, p, xs, rfl, hb, hp, hne, h0, hl, q⟩ := h
    refine ⟨_, ((pss_one (ps_ret (pe_ix ix_list (pv 1) (pe_call GLdraw (hr.mono (by decide)) (by rfl) DLdraw.g DLdraw.F.kp DLdraw.b .nil pass0 (pa_cons (pv 0) (pa_cons (pe_callB call_len_seq (by rfl) T.m_len (by decide +kernel) (pa_cons (pv 1) pa_nil)) pa_nil))) (fun _ _ => rfl))))), ?_⟩
    have hl0 : 0 < xs.length := List.length_pos_iff.mpr h0
    refine ⟨.ref p, rfl, .ref b, rfl, .ref p, rfl, p, xs, rfl, .inl (.inl (.inl hp)), b, _, rfl, by omega, ?_, hb, fun r lr H' go => ?_⟩
    · have h1 := Nat.log2_le_self (xs.length : Int).natAbs
      have h2 : (xs.length : Int).natAbs = xs.length := Int.natAbs_natCast _
      omega
    · have hr : r < xs.length := by omega
      refine ⟨p, xs, (r : Int), xs[r], rfl, rfl, .inl (.inl (go.at hne hp)), atI_nat (List.getElem?_eq_getElem hr), q _ (List.getElem_mem hr) _ go⟩
end
end K66

namespace Ks
open PySem PySem.Spec L2
open PyProof.Rows hiding St
theorem vals_at : ∀ {xs : List V} {us : List Value}, xs.length = us.length → (∀ (i : Nat) (x : V) (u : Value), xs[i]? = some x → us[i]? = some u → RelV x u) → Vals xs us
  | [], [], _, _ => .nil
  | [], _ :: _, h, _ => by cases h
  | _ :: _, [], h, _ => by cases h
  | x :: xs, u :: us, h, q => .cons (q 0 x u rfl rfl) (vals_at (by simpa using h) fun i y v a b => q (i + 1) y v (by simpa using a) (by simpa using b))
/-- a text's signs -/
def signs (z : Str) : List V := z.cps.toList.map fun c => .str ⟨#[c]⟩
theorem call_list_strS {X : Cx} (hc : X.calm = true) : CallR X (.type "list") (fun xs H Q => ∃ z : Str, xs = [.str z] ∧ z.length ≤ sizeLine ∧ ∀ l, H l = none → Q (.ref l) (upd H l (.lst (signs z)))) := by
  intro pins s σ H xs us Q I r h
  obtain ⟨z, rfl, hz, q⟩ := h
  obtain ⟨u, rfl, rx⟩ := Vals.one r
  obtain ⟨t, rfl⟩ := rx
  refine call_list_str (I.ok.hd hc) z t (fun h' tk acc' c' kp e it => ?_) hz
  have hl : (signs z).length = z.cps.size := by rw [signs, List.length_map, Array.length_toList]
  have rv : Vals (signs z) acc'.toList := by
    refine vals_at (by rw [hl, Array.length_toList, it.1]) fun i x u hx hu => ?_
    obtain ⟨c, t, h1, h2⟩ := it.2 i u (by rw [← hu, Array.getElem?_toList])
    rw [signs, List.getElem?_map, Array.getElem?_toList, h1] at hx
    cases hx
    exact ⟨t, h2⟩
  exact ⟨.ref s.heap.objs.size, _, I.laid (t' := tk) kp (Nat.le_refl _) (show ObjOk X.prog X.w _ h' _ (.lst (signs z)) from ⟨by rw [hl]; exact hz, acc'.toList, c', rv, e⟩), rfl, q _ (I.hok.fresh (Nat.le_refl _))⟩
end Ks

/-! tuple * 2, the empty one too. -/
namespace Ks
open PySem PySem.Spec L2 HT
open PyProof.Rows hiding St
theorem tuple_mul0 (l : Addr) (items : Array Value) (n : Nat) (dd : Option Addr) (sl : Array (Option Value)) (x : Int) (u : Tok) (c0 : (decide (x < -(2 ^ 63)) || decide (x ≥ 2 ^ 63)) = false) (c1 : (items.isEmpty || x == 1) = true) :
    Meets (Builtin.«tuple.__mul__» ⟨[.ref l, .int x u], []⟩) (fun _ R s => s.heap.get? l = some { cls := .type "tuple", dict := dd, data := .seq items n, slots := sl } ∧
      R (.ok (.ret (Value.ref l))) s) :=
  .of_wp fun prog w A R s h => by
    obtain ⟨hp, g, d, tk, os⟩ := s
    obtain ⟨hl, h⟩ := h
    have f1 := AutoSeq1.idx_int
    wp_walk using wpAny_loadPart' hl
    repeat (first
      | (refine wpAny_ite_false (decide_eq_false (by rw [c0]; exact Bool.false_ne_true)) ?_; wp_walk using wpAny_loadPart' hl)
      | (refine wpAny_ite_true (decide_eq_true c1) ?_; wp_walk using wpAny_loadPart' hl))
    exact ⟨_, rfl, h⟩
/-- t * 2: the empty one is itself -/
def rRep2 (K : PySem.W.Frag) : R2 := fun x y H Q => ∃ l xs, x = .ref l ∧ y = .int 2 ∧ SqT K H l xs ∧ xs.length ≤ 1000 ∧ (xs = [] → Q (.ref l) H) ∧ (xs ≠ [] → ∀ p, H p = none → Q (.ref p) (upd H p (.tup (xs ++ xs))))
section
variable {X : Cx}
theorem op_rep2 : OpR X (binaryOp .Mult) (rRep2 X.K) := by
  intro pins s σ H x y v u Q I rx ry h
  obtain ⟨l, xs, rfl, rfl, hT, hz, q0, q1⟩ := h
  by_cases hx : xs = []
  · subst hx
    cases rx
    obtain ⟨t, rfl⟩ := ry
    obtain ⟨its, r, ⟨⟨cls, dd, data, sl⟩, ho, hc, n, hd⟩, hs⟩ := I.tuple hT
    simp only at hc hd
    subst hc hd
    cases r
    exact wpAny_binaryOp_repeat_ref (T := "tuple") (U := "int") (by decide) ⟨_, ho, rfl⟩ (fun s' => typeIs_int s' 2 t) noFill_tuple_mul F.fills_int_mul F.slot_int_rmul repeat_tuple F.slot_int_index.lookup
      (call_meets F.slot_int_rmul (typeIs_int s 2 t) F.entry_int_rmul (F.args_int_rmul_2 _ _) (int_rmul_tuple 2 t l _ n dd sl)
        ⟨ho, rfl, ⟨_, ho, rfl⟩, call_meets F.slot_tuple_mul ⟨_, ho, rfl⟩ F.entry_tuple_mul (F.args_tuple_mul_2 _ _) (tuple_mul0 l _ n dd sl 2 t (by decide) (by rfl)) ⟨ho, ⟨.ref l, H, I, rfl, q0 rfl⟩⟩⟩)
  · have e : (List.replicate (2 : Int).toNat xs).flatten = xs ++ xs := by
      show (List.replicate 2 xs).flatten = _
      simp [List.replicate]
    exact op_repT pins s σ H _ _ v u Q I rx ry ⟨l, 2, xs, rfl, rfl, hT, hx, by decide, by decide, hz, fun p hp => by rw [e]; exact q1 hx p hp⟩
end
/-! ### t[::-1] of a tuple -/
section
variable {prog : Program} {w : World} {A : Around} {E : Value → Shared → Prop} {s : Shared}
theorem places_rev (n : Nat) : Builtin.Slice.slicePlaces ((n : Int) - 1) (-1) (-1) = n := by
  unfold Builtin.Slice.slicePlaces
  rw [if_neg (by decide)]
  by_cases h : n = 0
  · subst h
    rfl
  · rw [if_pos (by omega)]
    have : ((n : Int) - 1 - -1 - 1) / (- -1) + 1 = n := by
      rw [show (- -1 : Int) = 1 by decide, Int.ediv_one]
      omega
    rw [this]
    exact Int.toNat_natCast n
theorem sliceApplied_rev {sl : Addr} {t : Tok} {n : Nat} {Q : Int × Int × Nat → Shared → Prop} (hs : s.heap.IsSliceOf sl .none .none (.int (-1) t))
    (h : Q ((n : Int) - 1, -1, n) s) : wpAny (model prog w) A (Builtin.Slice.sliceApplied (.ref sl) (pure (n : Int))) Q E s := by
  obtain ⟨os, hos, hcs, hds⟩ := id hs
  unfold Builtin.Slice.sliceApplied Builtin.Slice.sliceFields
  refine wpAny_bind (wpAny_bind (wpAny_field hos hds (x := .none) rfl (wpAny_bind (wpAny_field hos hds (x := .none) rfl (wpAny_bind (wpAny_field hos hds (x := .int (-1) t) rfl (wpAny_pure ?_)))))))
  refine wpAny_bind (slicePart_int ?_)
  show wpAny _ _ (if ((-1 : Int) == 0) = true then _ else _) _ _ s
  rw [if_neg (by decide)]
  refine wpAny_bind (slicePart_none (wpAny_bind (slicePart_none (wpAny_bind (wpAny_pure ?_)))))
  show wpAny _ _ (pure ((n : Int) - 1, (-1 : Int), Builtin.Slice.slicePlaces ((n : Int) - 1) (-1) (-1))) _ _ s
  rw [places_rev]
  exact wpAny_pure h
theorem fm_congr {α β : Type} {f g : α → Option β} : ∀ {l : List α}, (∀ x ∈ l, f x = g x) → l.filterMap f = l.filterMap g
  | [], _ => rfl
  | a :: r, h => by
    rw [List.filterMap_cons, List.filterMap_cons, h a (by simp), fm_congr fun x m => h x (by simp [m])]
theorem pick_rev (xs : Array Value) : ((List.range xs.size).filterMap fun (m : Nat) => xs[(((xs.size : Nat) : Int) - 1 + (m : Int) * -1).toNat]?).toArray = xs.toList.reverse.toArray := by
  have e : (List.range xs.size).filterMap (fun (m : Nat) => xs[(((xs.size : Nat) : Int) - 1 + (m : Int) * -1).toNat]?) = ((List.range xs.size).map (fun m => xs.size - 1 - m)).filterMap (fun i => xs[i]?) := by
    rw [List.filterMap_map]
    refine fm_congr fun m hm => ?_
    have := List.mem_range.mp hm
    have e2 : (((xs.size : Nat) : Int) - 1 + (m : Int) * -1).toNat = xs.size - 1 - m := by omega
    rw [e2]
    rfl
  rw [e]
  have e3 : (List.range xs.size).map (fun m => xs.size - 1 - m) = (List.range xs.size).reverse := by
    refine List.ext_getElem (by simp) fun i h1 h2 => ?_
    simp
  rw [e3, List.filterMap_reverse, PySem.W.krv_all]
theorem getItem_tuple_rev {t sl : Addr} {items : Array Value} {u : Tok} {Q : Value → Shared → Prop} (ht : IsTup s.heap t items) (hs : s.heap.IsSliceOf sl .none .none (.int (-1) u))
    (h : Q (.ref s.heap.objs.size) { s with heap := s.heap.push { cls := .type "tuple", data := .seq items.toList.reverse.toArray } })
    (hsz : items.size ≤ sizeLine) : wpAny (model prog w) A (getItem (.ref t) (.ref sl)) Q E s := by
  have htake : sizeOk (.seq items.toList.reverse.toArray) := by
    show items.toList.reverse.toArray.size ≤ sizeLine
    rw [List.size_toArray, List.length_reverse, Array.length_toList]
    exact hsz
  obtain ⟨os, hos, hcs, hds⟩ := id hs
  have hTs : s.TypeIs (.ref sl) "slice" := ⟨os, hos, hcs⟩
  unfold getItem
  try with_reducible refine wpAny_holding ?_
  first | refine wpAny_bind (wpAny_pure ?_) | skip
  refine wpAny_bind (wpAny_sequenceKey ht.typeIs (by decide) ?_)
  refine wpAny_bind (wpAny_callSpecial?_slot (name := Str.ofString "__getitem__") ht.typeIs PyProof.Rows.slot_tuple_getitem
    (wpAny_call_entry PyProof.Rows.slot_tuple_getitem ht.typeIs entry_tuple_getitem ?_ (args_tuple_getitem _ _)))
  show wpAny _ _ (Builtin.Tuple.tupleItemsOf (.ref t) >>= _) _ _ s
  refine wpAny_bind (tupleItemsOf_ ht ?_)
  refine wpAny_bind (wpAny_typeOf hTs ?_)
  rw [if_pos (by decide)]
  refine wpAny_bind (sliceApplied_rev hs ?_)
  show wpAny _ _ (if (((items.size : Nat) : Int) - 1 == 0 && (-1 : Int) == 1 && items.size == items.size) = true then _ else _) _ _ s
  rw [if_neg (by simp), pick_rev]
  first
    | exact wpAny_bind (m := Builtin.Tuple.tupleExact _) (wpAny_newObj_type (wpAny_pure ⟨_, rfl, wpAny_pure h⟩) htake)
    | exact wpAny_bind (m := Builtin.Tuple.tupleExact _) (wpAny_newObj_type (wpAny_bind (wpAny_pure (wpAny_pure ⟨_, rfl, wpAny_pure h⟩))) htake)
    | exact wpAny_bind (wpAny_bind (m := Builtin.Tuple.tupleExact _) (wpAny_newObj_type (wpAny_pure (wpAny_pure ⟨_, rfl, wpAny_pure h⟩)) htake))
    | exact wpAny_bind (wpAny_bind (m := Builtin.Tuple.tupleExact _) (wpAny_newObj_type (wpAny_pure ⟨_, rfl, wpAny_pure h⟩) htake))
end
def tRevT (K : PySem.W.Frag) (te : TE) : TE := fun σ H Q => te σ H fun x H1 => ∃ a xs, x = .ref a ∧ SqT K H1 a xs ∧ ∀ p, H1 p = none → Q (.ref p) (upd H1 p (.tup xs.reverse))
theorem pe_revT {X : Cx} {e : Expr} {te : TE} {k : Nat} {p1 p2 p3 pos : Pos} (he : PE X e te) : PE X (.Subscript e (.Slice none none (some (.UnaryOp .USub (.Constant (.int 1) k p1) p2)) p3) pos) (tRevT X.K te) := by
  refine ⟨fun pins s σ H Q I h => ?_⟩
  refine Subscript_ (thn (he.run pins s σ H _ I h) fun v s1 ⟨x, H1, I1, r1, q1⟩ => ?_)
  obtain ⟨a, xs, ex, hx, q⟩ := q1
  subst ex
  cases r1
  have hst : PO X (some (.UnaryOp .USub (.Constant (.int 1) k p1) p2)) (tPart (tUn (rU fun i => .int (-i)) (tC (.int 1)))) := po_some (pe_un un_neg pe_int)
  refine wpAny_Slice (thn (po_none.run pins s1 σ H1 (fun o H2 => o = none ∧ H2 = H1) I1 ⟨rfl, rfl⟩) fun vl s2 ⟨l, H2, I2, pl, el, e2⟩ => ?_)
  subst el e2
  refine thn (po_none.run pins s2 σ H2 (fun o H3 => o = none ∧ H3 = H2) I2 ⟨rfl, rfl⟩) fun vu s3 ⟨u, H3, I3, pu, eu, e3⟩ => ?_
  subst eu e3
  refine thn (hst.run pins s3 σ H3 (fun o H4 => o = some (-1) ∧ H4 = H3) I3 ⟨1, rfl, -1, rfl, rfl, rfl⟩) fun vs s4 ⟨o, H4, I4, ps, eo, e4⟩ => ?_
  subst eo e4
  cases pl
  cases pu
  obtain ⟨tk, rfl⟩ : ∃ tk, vs = .int (-1) tk := by
    cases ps with
    | int i t => exact ⟨t, rfl⟩
  have I5 : Inv X pins σ H4 { s4 with heap := s4.heap.push { cls := .type "slice", data := .fields #[.none, .none, .int (-1) tk] } } := I4.kept (t' := s4.toks) fun b ob q => Heap.get?_push_of_some _ q
  obtain ⟨its, r, ht, hz⟩ := I5.tuple hx
  have hlen := r.length
  show wpAny (model X.prog X.w) X.A (subscriptTail e (.Slice none none (some (.UnaryOp .USub (.Constant (.int 1) k p1) p2)) p3) (.ref a) (.ref s4.heap.objs.size)) (EP X pins σ Q) X.xe { s4 with heap := s4.heap.push { cls := .type "slice", data := .fields #[.none, .none, .int (-1) tk] } }
  refine tail_any (ops := [.ref a, .ref s4.heap.objs.size]) ht.typeIs (PyProof.Rows.slot_tuple_getitem.lookup) ?_ (by with_unfolding_all rfl)
  refine getItem_tuple_rev ht (Heap.IsSliceOf.new _ .none .none (.int (-1) tk)) ?_ (by rw [List.size_toArray]; omega)
  refine ⟨.ref _, _, I5.laid (t' := s4.toks) (o := .tup xs.reverse) (fun b ob q => Heap.get?_push_of_some _ q) (Nat.le_refl _) ?_, rfl, q _ (I5.hok.fresh (Nat.le_refl _))⟩
  refine ⟨by rw [List.length_reverse]; exact hz, _, r.reverse, ?_⟩
  exact IsTup.new _ _
end Ks

namespace Ks
open PySem PySem.Spec L2
open PyProof.Rows hiding St
theorem asc_append {a b : Str} (h1 : asc7 a = true) (h2 : asc7 b = true) : asc7 (a ++ b) = true := by
  unfold asc7 at *
  rw [show cl (a ++ b) = cl a ++ cl b from Array.toList_append, List.all_append, h1, h2]
  rfl
theorem len_append (a b : Str) : (a ++ b).length = a.length + b.length := Array.size_append
theorem asc_join {ys : List Str} (h : ∀ y ∈ ys, asc7 y = true) : asc7 (Txt.join "" ys) = true := by
  unfold asc7
  rw [join_empty, List.all_eq_true]
  intro c hc
  obtain ⟨l, hl, hcl⟩ := List.mem_flatten.mp hc
  obtain ⟨y, hy, rfl⟩ := List.mem_map.mp hl
  have := h y hy
  unfold asc7 at this
  rw [List.all_eq_true] at this
  exact this c hcl
theorem len_join (ys : List Str) : (Txt.join "" ys).length = (ys.map (·.length)).sum := by
  rw [← cl_len, join_empty, List.length_flatten, List.map_map]
  congr 1
/-- what one_of asks and gives, of data -/
theorem one_da {b p : Addr} {xs : List V} {H : Hp} {Q : VK} {E : XK} (Pd : PyData → Prop) (hb : Bag b H) (np : H p = none) (ne : xs ≠ []) (hl : xs.length ≤ 1000)
    (each : ∀ x ∈ xs, ∃ d, Da (wo b H) x d ∧ Pd d) (q : ∀ y d H', Go b H H' → Da (wo b H') y d → Pd d → Q y H') : spOneOf [.ref b, .ref p] (upd H p (.lst xs)) Q E := by
  have g0 := (Go.refl hb).new (o := .lst xs) np
  refine ⟨b, p, xs, rfl, g0.1, upd_same, hb.ne np, ne, hl, fun x hx H' go => ?_⟩
  obtain ⟨d, h1, h2⟩ := each x hx
  have g := g0.trans go
  exact q x d H' g (h1.up g.2 _ _) h2
/-! ### what is made first -/
def fi : List Int := [0, 1, 2, 3, 4, 99, 100, -1, 10 ^ 60]
def fr : Nat → PyData → Bool
  | _, .none => true
  | _, .bool _ => true
  | _, .int i => decide (i ∈ fi)
  | _, .str z => decide (z.length ≤ 20) && asc7 z
  | n + 1, .list xs => decide (xs.length ≤ 5) && xs.all (fr n)
  | n + 1, .tuple xs => decide (xs.length ≤ 5) && xs.all (fr n)
  | _, _ => false
theorem fr_str {n : Nat} {z : Str} (h : fr n (.str z) = true) : z.length ≤ 20 ∧ asc7 z = true := by
  have h' : (decide (z.length ≤ 20) && asc7 z) = true := by cases n <;> exact h
  rw [Bool.and_eq_true, decide_eq_true_eq] at h'
  exact h'
theorem fr_txt {n : Nat} {z : Str} (h : z.length ≤ 20) (h2 : asc7 z = true) : fr n (.str z) = true := by
  have : (decide (z.length ≤ 20) && asc7 z) = true := by rw [decide_eq_true h, h2]; rfl
  cases n <;> exact this
theorem fr_tup {n : Nat} {xs : List PyData} (h : fr (n + 1) (.tuple xs) = true) : xs.length ≤ 5 ∧ ∀ x ∈ xs, fr n x = true := by
  have h' : (decide (xs.length ≤ 5) && xs.all (fr n)) = true := h
  rw [Bool.and_eq_true, List.all_eq_true, decide_eq_true_eq] at h'
  exact h'
theorem fr_tuple {n : Nat} {xs : List PyData} (h : xs.length ≤ 5) (h2 : ∀ d ∈ xs, fr n d = true) : fr (n + 1) (.tuple xs) = true := by
  show (decide (xs.length ≤ 5) && xs.all (fr n)) = true
  rw [Bool.and_eq_true, decide_eq_true_eq, List.all_eq_true]
  exact ⟨h, h2⟩
theorem fr_list {n : Nat} {xs : List PyData} (h : xs.length ≤ 5) (h2 : ∀ d ∈ xs, fr n d = true) : fr (n + 1) (.list xs) = true := by
  show (decide (xs.length ≤ 5) && xs.all (fr n)) = true
  rw [Bool.and_eq_true, decide_eq_true_eq, List.all_eq_true]
  exact ⟨h, h2⟩
theorem fr_sm : ∀ (n : Nat) (d : PyData), fr n d = true → sm n d = true := by
  intro n
  induction n with
  | zero =>
    intro d h
    cases d with
    | str z =>
      have := fr_str h
      exact sm_txt (by omega) this.2
    | list _ => cases h
    | tuple _ => cases h
    | dict _ => cases h
    | _ => rfl
  | succ n ih =>
    intro d h
    cases d with
    | str z =>
      have := fr_str h
      exact sm_txt (by omega) this.2
    | list xs =>
      have h' : (decide (xs.length ≤ 5) && xs.all (fr n)) = true := h
      rw [Bool.and_eq_true, List.all_eq_true, decide_eq_true_eq] at h'
      exact sm_list (by omega) fun d hd => ih d (h'.2 d hd)
    | tuple xs =>
      have h' := fr_tup h
      exact sm_tuple (by omega) fun d hd => ih d (h'.2 d hd)
    | dict _ => cases h
    | _ => rfl
end Ks
namespace K66
open PySem PySem.Spec L2 Ks
open PyProof.Rows hiding St
section
variable {P : Program} {w : World} {K : PySem.W.Frag} {mg : Str → Option Value} {base : Heap}
/-! ### _law_name -/
def spName : Sp := fun vs H Q _ => ∃ b, vs = [.ref b] ∧ Bag b H ∧ ∀ (z : Str) H', Go b H H' → z.length ≤ 20 → asc7 z = true → Q (.str z) H'
theorem okLname {f f1 f2 : Addr} {fd fd1 fd2 : FuncData} (D : Dn K mg "_law_name" sLname ["_law_bag_here"] f fd) (DLoneOf : Dn K mg "_law_one_of" sLoneOf ["_law_bag_here", "_law_items"] f1 fd1) (DLdraw : Dn K mg "_law_draw" sLdraw ["_law_bag_here", "_law_total"] f2 fd2) (T : Bx mg) : FnOk P w K mg base CX0 3 f fd ["_law_bag_here"] spName := by
  have GLoneOf : FnOk P w K mg base CX0 2 _ _ _ _ := okLoneOf DLoneOf DLdraw T
  refine D.F.ok scLname (fun vs H Q E h => ?_) (fun cdv A outer s H vs Q E hr h => ?_)
  · obtain ⟨b, rfl, _⟩ := h
    rfl
  · obtain ⟨b, rfl, hb, q⟩ := h
    refine ⟨_, (pss_cons (ps_set (i := 1) scLname.nd rfl (Or.inl rfl) (pe_call GLoneOf (hr.mono (by decide)) (by rfl) DLoneOf.g DLoneOf.F.kp DLoneOf.b .nil pass0 (pa_cons (pv 0) (pa_cons (pe_lst (pa_cons pe_int (pa_cons pe_int (pa_cons pe_int (pa_cons pe_int (pa_cons pe_int (pa_cons pe_int (pa_cons pe_int pa_nil)))))))) pa_nil))))
  (pss_one (ps_ret (pe_op op_add_str (pe_join pe_str (pe_lc (own := [("_law_turn", 2)]) (g := gName 2) rfl scLname.nd (pi_range1 (by rfl) T.m_range (pa_cons (pv 1) pa_nil)) (blkOk_by (own := [("_law_turn", 2)]) (N := ["_law_bag_here", "_law_size", "_law_turn"]) (sc := defScope sLname) (by decide +kernel)) (fun _ _ _ _ _ => (pg_name (i := 2) scLname.nd rfl (Or.inl rfl))) (fun _ _ _ _ _ => pts_nil) (fun _ _ _ _ _ => (pe_call GLoneOf (hr.mono (by decide)) (by rfl) DLoneOf.g DLoneOf.F.kp DLoneOf.b .nil pass0 (pa_cons (pv 0) (pa_cons (pe_callTy (Ks.call_list_strS rfl) (by rfl) T.m_list (by decide +kernel) (pa_cons pe_str pa_nil)) pa_nil)))))) (pe_call GLoneOf (hr.mono (by decide)) (by rfl) DLoneOf.g DLoneOf.F.kp DLoneOf.b .nil pass0 (pa_cons (pv 0) (pa_cons (pe_lst (pa_cons pe_str (pa_cons pe_str (pa_cons pe_str (pa_cons pe_str (pa_cons pe_str (pa_cons pe_str (pa_cons pe_str pa_nil)))))))) pa_nil))))))), ?_⟩
    refine ⟨.ref b, rfl, (show 7 ≤ sizeLine by decide), fun l nl => ?_⟩
    have g0 := (Go.refl hb).new (o := .lst [.int 1, .int 1, .int 2, .int 8, .int 8, .int 9, .int 0]) nl
    refine ⟨b, l, _, rfl, g0.1, upd_same, hb.ne nl, (fun z => nomatch z), (show 7 ≤ 1000 by decide), fun x hx H1 go => ?_⟩
    have g1 := g0.trans go
    obtain ⟨k, rfl, hk⟩ : ∃ k : Nat, x = .int (k : Int) ∧ k ≤ 9 := by
      simp only [List.mem_cons, List.not_mem_nil, or_false] at hx
      rcases hx with rfl | rfl | rfl | rfl | rfl | rfl | rfl
      · exact ⟨1, rfl, by decide⟩
      · exact ⟨1, rfl, by decide⟩
      · exact ⟨2, rfl, by decide⟩
      · exact ⟨8, rfl, by decide⟩
      · exact ⟨8, rfl, by decide⟩
      · exact ⟨9, rfl, by decide⟩
      · exact ⟨0, rfl, by decide⟩
    refine ⟨⟨_, rfl⟩, .int (k : Int), rfl, (k : Int), rfl, by omega, by omega, fun D nD => ?_⟩
    have dn := g1.1.ne nD
    refine lc_it (walk_range (lo := 0) (n := (k : Int).toNat)) (fun i H' => Go b H H' ∧ ∃ zs : List Str, H' D = some (.lst (zs.map V.str)) ∧ zs.length = i ∧ ∀ t ∈ zs, t.length = 1 ∧ asc7 t = true)
      ⟨g1.new nD, [], upd_same, rfl, fun t ht => nomatch ht⟩ (fun _ _ _ _ => trivial) (fun i x H2 H3 hi h hy => ?_) (fun H2 h => ?_)
    · obtain ⟨g2, zs, eD, lz, ones⟩ := h
      obtain ⟨rfl, rfl⟩ := hy
      refine ⟨rfl, .ref b, rfl, "abmyz", rfl, (by decide), fun u nu => ?_⟩
      have g3 := (Go.refl g2.1).new (o := .lst (signs "abmyz")) nu
      have eDu : D ≠ u := ne_of_none eD nu
      refine ⟨b, u, _, rfl, g3.1, upd_same, g2.1.ne nu, (by decide), (by decide), fun x hx H4 g4 => ?_⟩
      obtain ⟨z, rfl, hz⟩ : ∃ z : Str, x = .str z ∧ z.length = 1 ∧ asc7 z = true := by
        have hx' : x ∈ ([97, 98, 109, 121, 122].map fun c => V.str ⟨#[c]⟩) := hx
        obtain ⟨c, hc, rfl⟩ := List.mem_map.mp hx'
        refine ⟨_, rfl, rfl, ?_⟩
        simp only [List.mem_cons, List.not_mem_nil, or_false] at hc
        rcases hc with rfl | rfl | rfl | rfl | rfl <;> decide
      have e4 : H4 D = some (.lst (zs.map V.str)) := g4.at dn (by rw [upd_ne eDu]; exact eD)
      refine ⟨zs.map V.str, e4, ?_, ((g2.trans g3).trans g4).set (g1.free hb nD) hb, zs ++ [z], ?_, ?_, fun t ht => ?_⟩
      · rw [List.length_map, lz]
        exact Nat.lt_of_lt_of_le (show i < 10 by omega) (by decide)
      · rw [upd_same, List.map_append]
        rfl
      · rw [List.length_append, lz]
        rfl
      · rcases List.mem_append.mp ht with ht | ht
        · exact ones t ht
        · have : t = z := by simpa using ht
          rw [this]
          exact hz
    · obtain ⟨g2, zs, eD, lz, ones⟩ := h
      have hs : (zs.map (·.length)).sum = zs.length := by
        clear lz eD
        induction zs with
        | nil => rfl
        | cons a r ih =>
          rw [List.map_cons, List.sum_cons, (ones a (by simp)).1, ih fun t ht => ones t (by simp [ht]), List.length_cons]
          omega
      have lj : (Txt.join "" zs).length ≤ 9 := by
        rw [len_join, hs, lz]
        omega
      have aj := asc_join fun y hy => (ones y hy).2
      refine ⟨"", D, zs, rfl, rfl, .inl (.inl (.inl eD)), ?_, ?_⟩
      · rw [hs, lz]
        show (k : Int).toNat + zs.length * 0 ≤ 16777216
        omega
      refine ⟨.ref b, rfl, (show 7 ≤ sizeLine by decide), fun u nu => ?_⟩
      have g3 := (Go.refl g2.1).new (o := .lst [.str "", .str "", .str "", .str "", .str "A", .str " ", .str "1"]) nu
      refine ⟨b, u, _, rfl, g3.1, upd_same, g2.1.ne nu, (fun z => nomatch z), (show 7 ≤ 1000 by decide), fun x hx H4 g4 => ?_⟩
      obtain ⟨z, rfl, hz1, hz2⟩ : ∃ z : Str, x = .str z ∧ z.length ≤ 1 ∧ asc7 z = true := by
        simp only [List.mem_cons, List.not_mem_nil, or_false] at hx
        rcases hx with rfl | rfl | rfl | rfl | rfl | rfl | rfl <;> exact ⟨_, rfl, by decide, by decide⟩
      have la := len_append (Txt.join "" zs) z
      refine ⟨_, z, rfl, rfl, ?_, q _ _ ((g2.trans g3).trans g4) (by omega) (asc_append aj hz2)⟩
      exact Nat.le_trans (show _ ≤ 10 by omega) (by decide)
end
end K66

namespace Ks
open PySem PySem.Spec L2
open PyProof.Rows hiding St
/-- a text some times -/
def rMulS : R2 := fun x y H Q => ∃ z n, x = .str z ∧ y = .int n ∧ MulOk z n ∧ Q (.str (Txt.mul z n)) H
theorem op_mul_str {X : Cx} : OpR X (binaryOp .Mult) rMulS := by
  intro pins s σ H x y v u Q I rx ry h
  obtain ⟨z, n, rfl, rfl, ok, q⟩ := h
  obtain ⟨t, rfl⟩ := rx
  obtain ⟨t', rfl⟩ := ry
  exact SB.mul ok fun t' k => ⟨.str (Txt.mul z n), H, I.tok _, ⟨_, rfl⟩, q⟩
/-- what one_of asks and gives, of data and dicts -/
theorem one_vd {b p : Addr} {xs : List V} {H : Hp} {Q : VK} {E : XK} {m : Nat} (hb : Bag b H) (np : H p = none) (ne : xs ≠ []) (hl : xs.length ≤ 1000)
    (each : ∀ x ∈ xs, ∃ o, Vd (wo b H) x o ∧ ∀ d, o = some d → sm m d = true) (q : ∀ y o H', Go b H H' → Vd (wo b H') y o → (∀ d, o = some d → sm m d = true) → Q y H') : spOneOf [.ref b, .ref p] (upd H p (.lst xs)) Q E := by
  have g0 := (Go.refl hb).new (o := .lst xs) np
  refine ⟨b, p, xs, rfl, g0.1, upd_same, hb.ne np, ne, hl, fun x hx H' go => ?_⟩
  obtain ⟨d, h1, h2⟩ := each x hx
  have g := g0.trans go
  exact q x d H' g (h1.up g.2) h2
end Ks
namespace K66
open PySem PySem.Spec L2 Ks
open PyProof.Rows hiding St
section
variable {P : Program} {w : World} {K : PySem.W.Frag} {mg : Str → Option Value} {base : Heap}
/-! ### _law_odd -/
def spOdd : Sp := fun vs H Q _ => ∃ b, vs = [.ref b] ∧ Bag b H ∧ ∀ y o H', Go b H H' → Vd (wo b H') y o → (∀ d, o = some d → sm 2 d = true) → Q y H'
theorem okLodd {f f1 f2 : Addr} {fd fd1 fd2 : FuncData} (D : Dn K mg "_law_odd" sLodd ["_law_bag_here"] f fd) (DLoneOf : Dn K mg "_law_one_of" sLoneOf ["_law_bag_here", "_law_items"] f1 fd1) (DLdraw : Dn K mg "_law_draw" sLdraw ["_law_bag_here", "_law_total"] f2 fd2) (T : Bx mg) : FnOk P w K mg base CX0 3 f fd ["_law_bag_here"] spOdd := by
  have GLoneOf : FnOk P w K mg base CX0 2 _ _ _ _ := okLoneOf DLoneOf DLdraw T
  refine D.F.ok scLodd (fun vs H Q E h => ?_) (fun cdv A outer s H vs Q E hr h => ?_)
  · obtain ⟨b, rfl, _⟩ := h
    rfl
  · obtain ⟨b, rfl, hb, q⟩ := h
    refine ⟨_, (pss_one (ps_ret (pe_call GLoneOf (hr.mono (by decide)) (by rfl) DLoneOf.g DLoneOf.F.kp DLoneOf.b .nil pass0 (pa_cons (pv 0) (pa_cons (pe_lst (pa_cons pe_non (pa_cons pe_bl (pa_cons (pe_un un_neg pe_int) (pa_cons (pe_op Ks.op_powW pe_int pe_int) (pa_cons (pe_op op_mulW (pe_op Ks.op_powW pe_int pe_int) (pe_op Ks.op_powW pe_int pe_int)) (pa_cons pe_str (pa_cons pe_str (pa_cons pe_str (pa_cons (pe_lst pa_nil) (pa_cons (pe_lst (pa_cons pe_int pa_nil)) (pa_cons pe_dnewK (pa_cons (pe_disp (pps_cons pe_int pe_int pps_nil) (by rfl) (by rfl) (fun z => by cases z) (by decide)) (pa_cons (pe_op Ks.op_mul_str pe_str pe_int) pa_nil)))))))))))))) pa_nil))))), ?_⟩
    have pw : ∀ i : Int, (i = 60 ∨ i = 50 ∨ i = 49) → CPowW 10 i := by
      rintro i (rfl | rfl | rfl) <;> exact ⟨by decide, by decide +kernel⟩
    refine ⟨.ref b, rfl, 1, rfl, 10, 60, rfl, rfl, pw _ (.inl rfl), 10, 50, rfl, rfl, pw _ (.inr (.inl rfl)), 10, 49, rfl, rfl, pw _ (.inr (.inr rfl)), _, _, rfl, rfl, (by unfold CMulW; decide +kernel), ?_⟩
    refine ⟨(show 0 ≤ sizeLine by decide), fun e ne => ⟨(show 1 ≤ sizeLine by decide), fun l nl => fun m nm => fun k nk => ⟨upd_same, [(.inl 0, .int 0)], rfl, (by decide), ?_⟩⟩⟩
    refine ⟨"0", 201, rfl, rfl, ⟨by decide, (by decide), (by decide +kernel)⟩, (show 13 ≤ sizeLine by decide), fun p np => ?_⟩
    have eu : upd (upd (upd (upd (upd H e (.lst [])) l (.lst [.int 0])) m (.dK [])) k (.dK [])) k (.dK (mergeK [] [(.inl 0, .int 0)])) = upd (upd (upd (upd H e (.lst [])) l (.lst [.int 0])) m (.dK [])) k (.dK (mergeK [] [(.inl 0, .int 0)])) := by
      funext a
      by_cases h : a = k
      · rw [h, upd_same, upd_same]
      · rw [upd_ne h, upd_ne h, upd_ne h]
    rw [eu] at np ⊢
    have g1 := (Go.refl hb).new (o := .lst []) ne
    have g2 := g1.new (o := .lst [.int 0]) nl
    have g3 := g2.new (o := .dK []) nm
    have g4 := g3.new (o := .dK (mergeK [] [(.inl 0, .int 0)])) nk
    have s2 := same_new' (o := .lst [.int 0]) nl
    have s3 := same_new' (o := .dK []) nm
    have s4 := same_new' (o := .dK (mergeK [] [(.inl 0, .int 0)])) nk
    have e1 := s4 _ _ (s3 _ _ (s2 _ _ (upd_same (H := H) (a := e) (o := .lst []))))
    have e2 := s4 _ _ (s3 _ _ (upd_same (H := upd H e (.lst [])) (a := l) (o := .lst [.int 0])))
    have e3 := s4 _ _ (upd_same (H := upd (upd H e (.lst [])) l (.lst [.int 0])) (a := m) (o := .dK []))
    have eb := hb.ne ne
    have lb := g1.1.ne nl
    have mb := g2.1.ne nm
    have kb := g3.1.ne nk
    refine one_vd (E := fun _ _ _ => False) (m := 2) g4.1 np (fun z => nomatch z) (show 13 ≤ 1000 by decide) (fun x hx => ?_) fun y o H' go vd hs => q y o H' (g4.trans go) vd hs
    have st : ∀ {z : Str}, z.length ≤ 300 → asc7 z = true → ∃ o, Vd (wo b (upd (upd (upd (upd H e (.lst [])) l (.lst [.int 0])) m (.dK [])) k (.dK (mergeK [] [(.inl 0, .int 0)])))) (.str z) o ∧ ∀ d, o = some d → sm 2 d = true := fun h1 h2 => ⟨_, .da (.str _), fun d e => by cases e; exact sm_txt h1 h2⟩
    simp only [List.mem_cons, List.not_mem_nil, or_false] at hx
    rcases hx with rfl | rfl | rfl | rfl | rfl | rfl | rfl | rfl | rfl | rfl | rfl | rfl | rfl
    · exact ⟨_, .da .non, fun d e => by cases e; rfl⟩
    · exact ⟨_, .da (.bl _), fun d e => by cases e; rfl⟩
    · exact ⟨_, .da (.int _), fun d e => by cases e; rfl⟩
    · exact ⟨_, .da (.int _), fun d e => by cases e; rfl⟩
    · exact ⟨_, .da (.int _), fun d e => by cases e; rfl⟩
    · exact st (by decide) (by decide)
    · exact st (by decide) (by decide)
    · exact st (by decide) (by decide)
    · exact ⟨_, .da (.lst (by rw [wo_ne eb]; exact e1) .nil), fun d e => by cases e; rfl⟩
    · exact ⟨_, .da (.lst (by rw [wo_ne lb]; exact e2) (.cons (.int _) .nil)), fun d e => by cases e; rfl⟩
    · exact ⟨_, .dct (by rw [wo_ne mb]; exact e3), fun d e => by cases e⟩
    · exact ⟨_, .dct (by rw [wo_ne kb]; exact upd_same), fun d e => by cases e⟩
    · exact st (by decide +kernel) (by decide +kernel)
/-! ### _law_any_promise -/
def spAnyPromise : Sp := fun vs H Q _ => ∃ b, vs = [.ref b] ∧ Bag b H ∧ ∀ y ds H', Go b H H' → Da (wo b H') y (.tuple ds) → ds ≠ [] → fr 2 (.tuple ds) = true → Q y H'
theorem okLanyPromise {f f1 f2 f3 : Addr} {fd fd1 fd2 fd3 : FuncData} (D : Dn K mg "_law_any_promise" sLanyPromise ["_law_bag_here"] f fd) (DLname : Dn K mg "_law_name" sLname ["_law_bag_here"] f3 fd3) (DLoneOf : Dn K mg "_law_one_of" sLoneOf ["_law_bag_here", "_law_items"] f1 fd1) (DLdraw : Dn K mg "_law_draw" sLdraw ["_law_bag_here", "_law_total"] f2 fd2) (T : Bx mg) (U : By mg) : FnOk P w K mg base CX0 4 f fd ["_law_bag_here"] spAnyPromise := by
  have GLoneOf : FnOk P w K mg base CX0 2 _ _ _ _ := okLoneOf DLoneOf DLdraw T
  have GLdraw : FnOk P w K mg base CX0 1 _ _ _ _ := okLdraw DLdraw T
  have GLname : FnOk P w K mg base CX0 3 _ _ _ _ := okLname DLname DLoneOf DLdraw T
  refine D.F.ok scLanyPromise (fun vs H Q E h => ?_) (fun cdv A outer s H vs Q E hr h => ?_)
  · obtain ⟨b, rfl, _⟩ := h
    rfl
  · obtain ⟨b, rfl, hb, q⟩ := h
    refine ⟨_, (pss_cons (ps_set (i := 1) scLanyPromise.nd rfl (Or.inl rfl) (pe_call GLoneOf (hr.mono (by decide)) (by rfl) DLoneOf.g DLoneOf.F.kp DLoneOf.b .nil pass0 (pa_cons (pv 0) (pa_cons (pe_lst (pa_cons pe_str (pa_cons pe_str (pa_cons pe_str (pa_cons pe_str (pa_cons pe_str (pa_cons pe_str (pa_cons pe_str (pa_cons pe_str pa_nil))))))))) pa_nil))))
  (pss_cons (ps_set (i := 2) scLanyPromise.nd rfl (Or.inl rfl) (pe_call GLname (hr.mono (by decide)) (by rfl) DLname.g DLname.F.kp DLname.b .nil pass0 (pa_cons (pv 0) pa_nil)))
  (pss_cons (ps_if (pt_cmpR op_in_seq (pv 1) (pe_tup (pa_cons pe_str (pa_cons pe_str pa_nil))) rfl) (pss_one (ps_ret (pe_tup (pa_cons (pv 1) (pa_cons (pv 2) (pa_cons (pe_call GLoneOf (hr.mono (by decide)) (by rfl) DLoneOf.g DLoneOf.F.kp DLoneOf.b .nil pass0 (pa_cons (pv 0) (pa_cons (pe_lst (pa_cons (pv 2) (pa_cons (pe_call GLname (hr.mono (by decide)) (by rfl) DLname.g DLname.F.kp DLname.b .nil pass0 (pa_cons (pv 0) pa_nil)) pa_nil))) pa_nil))) pa_nil)))))) pss_nil)
  (pss_cons (ps_if (pt_cmpR op_eq (pv 1) pe_str (nomark _)) (pss_cons (ps_set (i := 3) scLanyPromise.nd rfl (Or.inl rfl) (pe_callTy call_tuple_of (by rfl) U.tuple (by decide +kernel) (pa_cons (pe_lc (own := [("_law_line", 4)]) (g := gName 4) rfl scLanyPromise.nd (pi_range1 (by rfl) T.m_range (pa_cons pe_int pa_nil)) (blkOk_by (own := [("_law_line", 4)]) (N := ["_law_bag_here", "_law_word", "_law_one", "_law_lines", "_law_line"]) (sc := defScope sLanyPromise) (by decide +kernel)) (fun _ _ _ _ _ => (pg_name (i := 4) scLanyPromise.nd rfl (Or.inl rfl))) (fun _ _ _ _ _ => (pts_one (pt_cmpR op_eq (pe_call GLdraw (hr.mono (by decide)) (by rfl) DLdraw.g DLdraw.F.kp DLdraw.b .nil pass0 (pa_cons (pv 0) (pa_cons pe_int pa_nil))) pe_int (nomark _)))) (fun _ _ _ _ _ => (pv 4))) pa_nil)))
  (pss_one (ps_ret (pe_tup (pa_cons (pv 1) (pa_cons (pv 2) (pa_cons (pe_call GLoneOf (hr.mono (by decide)) (by rfl) DLoneOf.g DLoneOf.F.kp DLoneOf.b .nil pass0 (pa_cons (pv 0) (pa_cons (pe_lst (pa_cons (pv 3) (pa_cons (pv 3) (pa_cons (Ks.pe_revT (pv 3)) (pa_cons (pe_callTy call_list_of (by rfl) T.m_list (by decide +kernel) (pa_cons (pv 3) pa_nil)) pa_nil))))) pa_nil))) (pa_cons (pe_call GLoneOf (hr.mono (by decide)) (by rfl) DLoneOf.g DLoneOf.F.kp DLoneOf.b .nil pass0 (pa_cons (pv 0) (pa_cons (pe_lst (pa_cons pe_int (pa_cons pe_int (pa_cons pe_int (pa_cons (pe_un un_neg pe_int) (pa_cons pe_bl pa_nil)))))) pa_nil))) pa_nil)))))))) pss_nil)
  (pss_cons (ps_if (pt_cmpR op_eq (pv 1) pe_str (nomark _)) (pss_one (ps_ret (pe_tup (pa_cons (pv 1) (pa_cons (pv 2) pa_nil))))) pss_nil)
  (pss_one (ps_ret (pe_tup (pa_cons (pv 1) (pa_cons (pv 2) (pa_cons (pe_call GLoneOf (hr.mono (by decide)) (by rfl) DLoneOf.g DLoneOf.F.kp DLoneOf.b .nil pass0 (pa_cons (pv 0) (pa_cons (pe_lst (pa_cons pe_int (pa_cons pe_int (pa_cons pe_int (pa_cons pe_int (pa_cons pe_int (pa_cons pe_int (pa_cons (pe_un un_neg pe_int) (pa_cons pe_bl (pa_cons pe_non (pa_cons (pe_op Ks.op_powW pe_int pe_int) (pa_cons pe_str pa_nil)))))))))))) pa_nil))) pa_nil))))))))))), ?_⟩
    refine ⟨.ref b, rfl, (show 8 ≤ sizeLine by decide), fun l nl => ?_⟩
    have g0 := (Go.refl hb).new (o := .lst [.str "within", .str "alike", .str "answered", .str "most", .str "told", .str "ahead", .str "Most", .str ""]) nl
    refine ⟨b, l, _, rfl, g0.1, upd_same, hb.ne nl, (fun z => nomatch z), (show 8 ≤ 1000 by decide), fun x hx H1 go => ?_⟩
    have g1 := g0.trans go
    obtain ⟨zw, rfl, lw, aw⟩ : ∃ z : Str, x = .str z ∧ z.length ≤ 20 ∧ asc7 z = true := by
      simp only [List.mem_cons, List.not_mem_nil, or_false] at hx
      rcases hx with rfl | rfl | rfl | rfl | rfl | rfl | rfl | rfl <;> exact ⟨_, rfl, by decide, by decide⟩
    refine ⟨.ref b, rfl, b, rfl, g1.1, fun z1 H2 g2 l1 a1 => ?_⟩
    have G2 := g1.trans g2
    have frw : ∀ {n}, fr n (.str zw) = true := fr_txt lw aw
    have fr1 : ∀ {n}, fr n (.str z1) = true := fr_txt l1 a1
    refine ⟨.str zw, rfl, (show 2 ≤ sizeLine by decide), fun t nt => ⟨t, [.str "within", .str "alike"], rfl, .inr (.inl (.inl upd_same)), rfl, rfl, _, rfl, ite2 (fun e => ?_) (fun e => ?_)⟩⟩
    · have G3 := G2.new (o := .tup [.str "within", .str "alike"]) nt
      refine ⟨.str zw, rfl, .str z1, rfl, .ref b, rfl, .str z1, rfl, .ref b, rfl, b, rfl, G3.1, fun z2 H4 g4 l2 a2 => ?_⟩
      have G4 := G3.trans g4
      refine ⟨(show 2 ≤ sizeLine by decide), fun l2' nl2 => ?_⟩
      refine one_da (E := fun _ _ _ => False) (fun d => fr 1 d = true) G4.1 nl2 (fun z => nomatch z) (show 2 ≤ 1000 by decide) (fun x hx => ?_) (fun y d H5 g5 hd fd => ?_)
      · simp only [List.mem_cons, List.not_mem_nil, or_false] at hx
        rcases hx with rfl | rfl
        · exact ⟨_, .str _, fr1⟩
        · exact ⟨_, .str _, fr_txt l2 a2⟩
      · have G5 := G4.trans g5
        refine ⟨(show 3 ≤ sizeLine by decide), fun p np => ?_⟩
        have G6 := G5.new (o := .tup [.str zw, .str z1, y]) np
        refine q (.ref p) [.str zw, .str z1, d] _ G6 (.tup (by rw [wo_ne (G5.1.ne np)]; exact upd_same) (.cons (.str _) (.cons (.str _) (.cons (hd.up (wo_up (same_new' np)) _ _) .nil)))) (fun z => nomatch z) (fr_tuple (show 3 ≤ 5 by decide) fun c hc => ?_)
        simp only [List.mem_cons, List.not_mem_nil, or_false] at hc
        rcases hc with rfl | rfl | rfl
        · exact frw
        · exact fr1
        · exact fd
    · have G3 := G2.new (o := .tup [.str "within", .str "alike"]) nt
      refine ⟨.str zw, rfl, rfl, _, rfl, ite2 (fun e2 => ?_) (fun e2 => ?_)⟩
      · refine ⟨5, rfl, by decide, by decide, fun D nD => ?_⟩
        have dn := G3.1.ne nD
        refine lc_it (walk_range (lo := 0) (n := (5 : Int).toNat)) (fun i H' => Go b H H' ∧ ∃ ns : List Int, H' D = some (.lst (ns.map V.int)) ∧ ns.length ≤ i ∧ ∀ n ∈ ns, n ∈ fi)
          ⟨G3.new nD, [], upd_same, Nat.le_refl _, fun t ht => nomatch ht⟩ (fun _ _ _ _ => trivial) (fun i x H5 H6 hi h hy => ?_) (fun H5 h => ?_)
        · obtain ⟨g5, ns, eD, ln, ok⟩ := h
          obtain ⟨rfl, rfl⟩ := hy
          have hi5 : i < 5 := hi
          refine ⟨rfl, .ref b, rfl, b, 3, rfl, by decide, by decide, g5.1, fun r hr H7 g7 => ⟨rfl, _, rfl, ite2 (fun e3 => ?_) (fun e3 => ?_)⟩⟩
          · have e4 := g7.at dn eD
            refine ⟨.int (0 + (i : Int)), rfl, ns.map V.int, e4, ?_, (g5.trans g7).set (G3.free hb nD) hb, ns ++ [0 + (i : Int)], ?_, ?_, fun n hn => ?_⟩
            · rw [List.length_map]
              exact Nat.lt_of_lt_of_le (show ns.length < 10 by omega) (by decide)
            · rw [upd_same, List.map_append]
              rfl
            · rw [List.length_append]
              show ns.length + 1 ≤ i + 1
              omega
            · rcases List.mem_append.mp hn with hn | hn
              · exact ok n hn
              · have : n = 0 + (i : Int) := by simpa using hn
                subst this
                match i, hi5 with
                | 0, _ => decide +kernel
                | 1, _ => decide +kernel
                | 2, _ => decide +kernel
                | 3, _ => decide +kernel
                | 4, _ => decide +kernel
          · exact ⟨g5.trans g7, ns, g7.at dn eD, by omega, ok⟩
        · obtain ⟨g5, ns, eD, ln, ok⟩ := h
          have ln5 : ns.length ≤ 5 := ln
          have frl : ∀ l : List Int, l.length ≤ 5 → (∀ n ∈ l, n ∈ fi) → fr 1 (.tuple (l.map PyData.int)) = true ∧ fr 1 (.list (l.map PyData.int)) = true := fun l h1 h2 => by
            have h3 : ∀ d ∈ l.map PyData.int, fr 0 d = true := fun d hd => by
              obtain ⟨n, hn, rfl⟩ := List.mem_map.mp hd
              exact decide_eq_true (h2 n hn)
            exact ⟨fr_tuple (by rw [List.length_map]; exact h1) h3, fr_list (by rw [List.length_map]; exact h1) h3⟩
          refine ⟨D, _, rfl, .inl ⟨.inl (.inl eD), fun L nL => ?_⟩⟩
          have G6 := g5.new (o := .tup (ns.map V.int)) nL
          have Lb := g5.1.ne nL
          refine ⟨.str zw, rfl, .str z1, rfl, .ref b, rfl, .ref L, rfl, .ref L, rfl, .ref L, rfl, L, _, rfl, .inl (.inl upd_same), fun R nR => ?_⟩
          have G7 := G6.new (o := .tup (ns.map V.int).reverse) nR
          have s7 := same_new' (o := .tup (ns.map V.int).reverse) nR
          have eL7 := s7 _ _ (upd_same (H := H5) (a := L) (o := .tup (ns.map V.int)))
          refine ⟨.ref L, rfl, L, _, rfl, .inr (.inl (.inl eL7)), fun M nM => ?_⟩
          have G8 := G7.new (o := .lst (ns.map V.int)) nM
          have s8 := same_new' (o := .lst (ns.map V.int)) nM
          have eL8 := s8 _ _ eL7
          have eR8 := s8 _ _ (upd_same (H := upd H5 L (.tup (ns.map V.int))) (a := R) (o := .tup (ns.map V.int).reverse))
          have Rb := G6.1.ne nR
          have Mb := G7.1.ne nM
          refine ⟨(show 4 ≤ sizeLine by decide), fun l4 nl4 => ?_⟩
          refine one_da (E := fun _ _ _ => False) (fun d => fr 1 d = true) G8.1 nl4 (fun z => nomatch z) (show 4 ≤ 1000 by decide) (fun x hx => ?_) (fun y d H9 g9 hd fd => ?_)
          · simp only [List.mem_cons, List.not_mem_nil, or_false] at hx
            rcases hx with rfl | rfl | rfl | rfl
            · exact ⟨_, .tup (by rw [wo_ne Lb]; exact eL8) (da_ints ns), (frl ns ln5 ok).1⟩
            · exact ⟨_, .tup (by rw [wo_ne Lb]; exact eL8) (da_ints ns), (frl ns ln5 ok).1⟩
            · refine ⟨_, .tup (by rw [wo_ne Rb]; exact eR8) (by rw [← List.map_reverse]; exact da_ints ns.reverse), (frl ns.reverse (by rw [List.length_reverse]; exact ln5) fun n hn => ok n (List.mem_reverse.mp hn)).1⟩
            · exact ⟨_, .lst (by rw [wo_ne Mb]; exact upd_same) (da_ints ns), (frl ns ln5 ok).2⟩
          · have G9 := G8.trans g9
            refine ⟨.ref b, rfl, 1, rfl, (show 5 ≤ sizeLine by decide), fun l5 nl5 => ?_⟩
            refine one_da (E := fun _ _ _ => False) (fun d => fr 1 d = true) G9.1 nl5 (fun z => nomatch z) (show 5 ≤ 1000 by decide) (fun x hx => ?_) (fun y2 d2 H10 g10 hd2 fd2 => ?_)
            · simp only [List.mem_cons, List.not_mem_nil, or_false] at hx
              rcases hx with rfl | rfl | rfl | rfl | rfl
              · exact ⟨_, .int _, by decide +kernel⟩
              · exact ⟨_, .int _, by decide +kernel⟩
              · exact ⟨_, .int _, by decide +kernel⟩
              · exact ⟨_, .int _, by decide +kernel⟩
              · exact ⟨_, .bl _, rfl⟩
            · have G10 := G9.trans g10
              have hd' := hd.up g10.2 _ _
              refine ⟨(show 4 ≤ sizeLine by decide), fun p np => ?_⟩
              have G11 := G10.new (o := .tup [.str zw, .str z1, y, y2]) np
              refine q (.ref p) [.str zw, .str z1, d, d2] _ G11 (.tup (by rw [wo_ne (G10.1.ne np)]; exact upd_same) (.cons (.str _) (.cons (.str _) (.cons (hd'.up (wo_up (same_new' np)) _ _) (.cons (hd2.up (wo_up (same_new' np)) _ _) .nil))))) (fun z => nomatch z) (fr_tuple (show 4 ≤ 5 by decide) fun c hc => ?_)
              simp only [List.mem_cons, List.not_mem_nil, or_false] at hc
              rcases hc with rfl | rfl | rfl | rfl
              · exact frw
              · exact fr1
              · exact fd
              · exact fd2
      · refine ⟨.str zw, rfl, rfl, _, rfl, ite2 (fun e3 => ?_) (fun e3 => ?_)⟩
        · refine ⟨.str zw, rfl, .str z1, rfl, (show 2 ≤ sizeLine by decide), fun p np => ?_⟩
          have G6 := G3.new (o := .tup [.str zw, .str z1]) np
          refine q (.ref p) [.str zw, .str z1] _ G6 (.tup (by rw [wo_ne (G3.1.ne np)]; exact upd_same) (.cons (.str _) (.cons (.str _) .nil))) (fun z => nomatch z) (fr_tuple (show 2 ≤ 5 by decide) fun c hc => ?_)
          simp only [List.mem_cons, List.not_mem_nil, or_false] at hc
          rcases hc with rfl | rfl
          · exact frw
          · exact fr1
        · refine ⟨.str zw, rfl, .str z1, rfl, .ref b, rfl, 1, rfl, 10, 60, rfl, rfl, ⟨by decide, by decide +kernel⟩, (show 11 ≤ sizeLine by decide), fun l5 nl5 => ?_⟩
          refine one_da (E := fun _ _ _ => False) (fun d => fr 1 d = true) G3.1 nl5 (fun z => nomatch z) (show 11 ≤ 1000 by decide) (fun x hx => ?_) (fun y2 d2 H10 g10 hd2 fd2 => ?_)
          · simp only [List.mem_cons, List.not_mem_nil, or_false] at hx
            rcases hx with rfl | rfl | rfl | rfl | rfl | rfl | rfl | rfl | rfl | rfl | rfl
            · exact ⟨_, .int _, by decide +kernel⟩
            · exact ⟨_, .int _, by decide +kernel⟩
            · exact ⟨_, .int _, by decide +kernel⟩
            · exact ⟨_, .int _, by decide +kernel⟩
            · exact ⟨_, .int _, by decide +kernel⟩
            · exact ⟨_, .int _, by decide +kernel⟩
            · exact ⟨_, .int _, by decide +kernel⟩
            · exact ⟨_, .bl _, rfl⟩
            · exact ⟨_, .non, rfl⟩
            · exact ⟨_, .int _, by decide +kernel⟩
            · exact ⟨_, .str _, by decide⟩
          · have G10 := G3.trans g10
            refine ⟨(show 3 ≤ sizeLine by decide), fun p np => ?_⟩
            have G11 := G10.new (o := .tup [.str zw, .str z1, y2]) np
            refine q (.ref p) [.str zw, .str z1, d2] _ G11 (.tup (by rw [wo_ne (G10.1.ne np)]; exact upd_same) (.cons (.str _) (.cons (.str _) (.cons (hd2.up (wo_up (same_new' np)) _ _) .nil)))) (fun z => nomatch z) (fr_tuple (show 3 ≤ 5 by decide) fun c hc => ?_)
            simp only [List.mem_cons, List.not_mem_nil, or_false] at hc
            rcases hc with rfl | rfl | rfl
            · exact frw
            · exact fr1
            · exact fd2
end
end K66

namespace Ks
open PySem PySem.Spec L2
open PyProof.Rows hiding St
def cutD (ds : List PyData) (lo hi : Option Int) : List PyData := (ds.drop (HT.sIx ds.length 0 lo)).take (HT.sIx ds.length ds.length hi - HT.sIx ds.length 0 lo)
theorem cutD_mem {ds : List PyData} {lo hi : Option Int} {d : PyData} (h : d ∈ cutD ds lo hi) : d ∈ ds := List.mem_of_mem_drop (List.mem_of_mem_take h)
theorem cutD_len (ds : List PyData) (lo hi : Option Int) : (cutD ds lo hi).length ≤ ds.length := by
  unfold cutD
  rw [List.length_take, List.length_drop]
  omega
theorem cutD_last (ds : List PyData) : (cutD ds (some (-1)) none).length ≤ 1 := by
  unfold cutD
  rw [HT.sIx_none, List.length_take, List.length_drop]
  have : HT.sIx ds.length 0 (some (-1)) = ds.length - 1 := by
    show (if (-1 : Int) < 0 then ((-1 : Int) + (ds.length : Int)).toNat else min (-1 : Int).toNat ds.length) = _
    rw [if_pos (by decide)]
    omega
  omega
theorem da_tup {b : Addr} {H : Hp} {x : V} {ds : List PyData} (h : Da (wo b H) x (.tuple ds)) : ∃ p xs, x = .ref p ∧ H p = some (.tup xs) ∧ DaAll (wo b H) xs ds := by
  cases h with
  | @tup p xs _ e t => exact ⟨p, xs, rfl, wo_same b H _ _ e, t⟩
theorem da_tupb {b : Addr} {H : Hp} {x : V} {ds : List PyData} (h : Da (wo b H) x (.tuple ds)) : ∃ p xs, x = .ref p ∧ H p = some (.tup xs) ∧ DaAll (wo b H) xs ds ∧ p ≠ b := by
  cases h with
  | @tup p xs _ e t =>
    refine ⟨p, xs, rfl, wo_same b H _ _ e, t, fun z => ?_⟩
    rw [z, show wo b H b = none from if_pos rfl] at e
    cases e
theorem daN {b p : Addr} {H : Hp} {xs : List V} {ds : List PyData} (hb : Bag b H) (np : H p = none) (h : DaAll (wo b H) xs ds) : Da (wo b (upd H p (.tup xs))) (.ref p) (.tuple ds) := .tup (by rw [wo_ne (hb.ne np)]; exact upd_same) (h.up (wo_up (same_new' np)) _ _)
theorem cat_da {K : PySem.W.Frag} {b : Addr} {H : Hp} {x y : V} {ds es : List PyData} {Q : VK} (hb : Bag b H) (hx : Da (wo b H) x (.tuple ds)) (hy : Da (wo b H) y (.tuple es)) (hl : ds.length + es.length ≤ 1000) (q : ∀ z H', Go b H H' → Da (wo b H') z (.tuple (ds ++ es)) → Q z H') : rCatA K x y H Q := by
  obtain ⟨p, xs, rfl, hp, ha⟩ := da_tup hx
  obtain ⟨r, ys, rfl, hr, hc⟩ := da_tup hy
  refine ⟨p, r, xs, ys, rfl, rfl, .inl (.inl hp), .inl (.inl hr), ?_, fun e => ?_, fun _ e => ?_, fun _ _ u nu => ?_⟩
  · rw [ha.len, hc.len]
    exact Nat.le_trans hl (by decide)
  · subst e
    cases ha
    exact q _ _ (Go.refl hb) hy
  · subst e
    cases hc
    have := q _ _ (Go.refl hb) (by rw [List.append_nil]; exact hx)
    exact this
  · exact q _ _ ((Go.refl hb).new nu) (daN hb nu (ha.app hc))
theorem slice_da {K : PySem.W.Frag} {b : Addr} {H : Hp} {x : V} {ds : List PyData} {lo hi : Option Int} {Q : VK} (hb : Bag b H) (hx : Da (wo b H) x (.tuple ds)) (q : ∀ z H', Go b H H' → Da (wo b H') z (.tuple (cutD ds lo hi)) → Q z H') : rSlA K x lo hi H Q := by
  obtain ⟨p, xs, rfl, hp, ha⟩ := da_tup hx
  have hl := ha.len
  refine ⟨p, xs, rfl, .inl (.inl hp), fun wh => ?_, fun _ u nu => ?_⟩
  · rw [hl] at wh
    have := q _ _ (Go.refl hb) (by unfold cutD; rw [wh.1, wh.2, List.drop_zero, Nat.sub_zero, List.take_length]; exact hx)
    exact this
  · refine q _ _ ((Go.refl hb).new nu) ?_
    have h2 : DaAll (wo b H) (cutV xs lo hi) (cutD ds lo hi) := by
      unfold cutV cutD
      rw [← hl]
      exact (ha.drop _).take _
    exact daN hb nu h2
theorem rep2_da {K : PySem.W.Frag} {b : Addr} {H : Hp} {x : V} {ds : List PyData} {Q : VK} (hb : Bag b H) (hx : Da (wo b H) x (.tuple ds)) (hl : ds.length ≤ 1000) (q : ∀ z H', Go b H H' → Da (wo b H') z (.tuple (ds ++ ds)) → Q z H') : rRep2 K x (.int 2) H Q := by
  obtain ⟨p, xs, rfl, hp, ha⟩ := da_tup hx
  refine ⟨p, xs, rfl, rfl, .inl (.inl hp), by rw [ha.len]; exact hl, fun e => ?_, fun _ u nu => ?_⟩
  · subst e
    cases ha
    exact q _ _ (Go.refl hb) hx
  · exact q _ _ ((Go.refl hb).new nu) (daN hb nu (ha.app ha))
theorem cut_asc {z : Str} {lo hi : Option Int} (h : asc7 z = true) : asc7 (cutS z lo hi) = true := by
  unfold asc7 at *
  rw [List.all_eq_true] at h ⊢
  intro c hc
  have hc' : c ∈ ((z.cps.toList.drop (HT.sIx z.length 0 lo)).take (HT.sIx z.length z.length hi - HT.sIx z.length 0 lo)) := by simpa [cutS, cl] using hc
  exact h c (List.mem_of_mem_drop (List.mem_of_mem_take hc'))
theorem cut_len (z : Str) (lo hi : Option Int) : (cutS z lo hi).length ≤ z.length := by
  rw [← cl_len, ← cl_len z]
  show (((z.cps.toList.drop _).take _).toArray.toList).length ≤ z.cps.toList.length
  rw [List.length_take, List.length_drop]
  omega
theorem fi_ok : ∀ i ∈ fi, i.natAbs.log2 < 300 ∧ (Str.ofString (toString i)).length ≤ 100 ∧ asc7 (Str.ofString (toString i)) = true := by decide +kernel
end Ks
namespace K66
open PySem PySem.Spec L2 Ks
open PyProof.Rows hiding St
section
variable {P : Program} {w : World} {K : PySem.W.Frag} {mg : Str → Option Value} {base : Heap}
/-! ### _law_spoiled -/
def spSp (k : Nat) : Sp := fun vs H Q _ => ∃ b x d n, vs = [.ref b, x, .int (k : Int)] ∧ Bag b H ∧ Da (wo b H) x d ∧ n ≤ 5 ∧ fr n d = true ∧ ∀ y e H', Go b H H' → Da (wo b H') y e → sm (n + 1) e = true → Q y H'
theorem okSpStep {f f1 f2 : Addr} {fd fd1 fd2 : FuncData} (k : Nat) (sp' : Sp) (GLspoiled : FnOk P w K mg base CX0 (2 + k) f fd ["_law_bag_here", "_law_value", "_law_deep"] sp') (hG : ∀ j, k = j + 1 → ∀ vs H Q E, spSp j vs H Q E → sp' vs H Q E)
    (DLspoiled : Dn K mg "_law_spoiled" sLspoiled ["_law_bag_here", "_law_value", "_law_deep"] f fd) (DLoneOf : Dn K mg "_law_one_of" sLoneOf ["_law_bag_here", "_law_items"] f1 fd1) (DLdraw : Dn K mg "_law_draw" sLdraw ["_law_bag_here", "_law_total"] f2 fd2) (T : Bx mg) (U : By mg) : FnOk P w K mg base CX0 (2 + k + 1) f fd ["_law_bag_here", "_law_value", "_law_deep"] (spSp k) := by
  have GLoneOf : FnOk P w K mg base CX0 2 _ _ _ _ := okLoneOf DLoneOf DLdraw T
  have GLdraw : FnOk P w K mg base CX0 1 _ _ _ _ := okLdraw DLdraw T
  refine DLspoiled.F.ok scLspoiled (fun vs H Q E h => ?_) (fun cdv A outer s H vs Q E hr h => ?_)
  · obtain ⟨b, x, d, n, rfl, _⟩ := h
    rfl
  · obtain ⟨b, x, d, n, rfl, hb, hx, hn, hf, q⟩ := h
    refine ⟨_, (pss_cons (ps_if (PW.pt (pw_and (pt_val (pe_callB call_isi (by rfl) T.m_isinstance (by decide +kernel) (pa_cons (pv 1) (pa_cons (pe_bltn (v := .ty "tuple") (by rfl) U.tuple (by decide +kernel) rfl) pa_nil)))) (pw_and (pt_cmpR (op_neD hr.units) (pv 1) (pe_tup pa_nil) (nomark _)) (pw_and (pt_cmpR op_gt (pv 2) pe_int (nomark _)) (pw_and1 (pt_cmpR op_gt (pe_call GLdraw (hr.mono (by omega)) (by rfl) DLdraw.g DLdraw.F.kp DLdraw.b .nil pass0 (pa_cons (pv 0) (pa_cons pe_int pa_nil))) pe_int (nomark _))))))) (pss_cons (ps_set (i := 3) scLspoiled.nd rfl (Or.inl rfl) (pe_call GLdraw (hr.mono (by omega)) (by rfl) DLdraw.g DLdraw.F.kp DLdraw.b .nil pass0 (pa_cons (pv 0) (pa_cons (pe_callB call_len_seq (by rfl) T.m_len (by decide +kernel) (pa_cons (pv 1) pa_nil)) pa_nil))))
  (pss_one (ps_ret (pe_op op_catA (pe_op op_catA (pe_slice sl_tupA (pv 1) po_none (po_some (pv 3))) (pe_tup (pa_cons (pe_call GLspoiled (hr.mono (by omega)) (by rfl) DLspoiled.g DLspoiled.F.kp DLspoiled.b .nil pass0 (pa_cons (pv 0) (pa_cons (pe_ix ix_tup (pv 1) (pv 3) (fun _ _ => rfl)) (pa_cons (pe_op op_sub (pv 2) pe_int) pa_nil)))) pa_nil))) (pe_slice sl_tupA (pv 1) (po_some (pe_op op_add (pv 3) pe_int)) po_none))))) pss_nil)
  (pss_cons (ps_if (pt_val (pe_callB call_isi (by rfl) T.m_isinstance (by decide +kernel) (pa_cons (pv 1) (pa_cons (pe_bltn (v := .ty "tuple") (by rfl) U.tuple (by decide +kernel) rfl) pa_nil)))) (pss_one (ps_ret (pe_call GLoneOf (hr.mono (by omega)) (by rfl) DLoneOf.g DLoneOf.F.kp DLoneOf.b .nil pass0 (pa_cons (pv 0) (pa_cons (pe_lst (pa_cons (pe_op op_catA (pv 1) (pe_tup (pa_cons (pe_tup pa_nil) pa_nil))) (pa_cons (pe_ifExp (pt_cmpR (op_neD hr.units) (pv 1) (pe_tup pa_nil) (nomark _)) (pe_slice sl_tupA (pv 1) po_none (po_some (pe_un un_neg pe_int))) (pe_tup (pa_cons pe_int pa_nil))) (pa_cons (pe_callTy call_list_of (by rfl) T.m_list (by decide +kernel) (pa_cons (pv 1) pa_nil)) (pa_cons pe_non (pa_cons (pe_op op_catA (pv 1) (pe_op Ks.op_rep2 (pe_slice sl_tupA (pv 1) (po_some (pe_un un_neg pe_int)) po_none) pe_int)) pa_nil)))))) pa_nil))))) pss_nil)
  (pss_cons (ps_if (pt_val (pe_callB call_isi (by rfl) T.m_isinstance (by decide +kernel) (pa_cons (pv 1) (pa_cons (pe_bltn (v := .ty "str") (by rfl) T.m_str (by decide +kernel) rfl) pa_nil)))) (pss_one (ps_ret (pe_call GLoneOf (hr.mono (by omega)) (by rfl) DLoneOf.g DLoneOf.F.kp DLoneOf.b .nil pass0 (pa_cons (pv 0) (pa_cons (pe_lst (pa_cons (pe_op op_add_str (pv 1) pe_str) (pa_cons (pe_ifExp (pt_cmpR op_ne (pv 1) pe_str (nomark _)) (pe_slice sl_str (pv 1) po_none (po_some (pe_un un_neg pe_int))) pe_str) (pa_cons (pe_op op_add_str (pv 1) pe_str) (pa_cons pe_non (pa_cons (pe_tup (pa_cons (pv 1) pa_nil)) pa_nil)))))) pa_nil))))) pss_nil)
  (pss_cons (ps_if (pt_val (pe_callB call_isi (by rfl) T.m_isinstance (by decide +kernel) (pa_cons (pv 1) (pa_cons (pe_bltn (v := .ty "bool") (by rfl) T.m_bool (by decide +kernel) rfl) pa_nil)))) (pss_one (ps_ret (pe_call GLoneOf (hr.mono (by omega)) (by rfl) DLoneOf.g DLoneOf.F.kp DLoneOf.b .nil pass0 (pa_cons (pv 0) (pa_cons (pe_lst (pa_cons (pe_not (pv 1)) (pa_cons (pe_callTy call_int1 (by rfl) T.m_int (by decide +kernel) (pa_cons (pv 1) pa_nil)) (pa_cons pe_non pa_nil)))) pa_nil))))) pss_nil)
  (pss_cons (ps_if (pt_val (pe_callB call_isi (by rfl) T.m_isinstance (by decide +kernel) (pa_cons (pv 1) (pa_cons (pe_bltn (v := .ty "int") (by rfl) T.m_int (by decide +kernel) rfl) pa_nil)))) (pss_one (ps_ret (pe_call GLoneOf (hr.mono (by omega)) (by rfl) DLoneOf.g DLoneOf.F.kp DLoneOf.b .nil pass0 (pa_cons (pv 0) (pa_cons (pe_lst (pa_cons (pe_op op_add (pv 1) pe_int) (pa_cons (pe_op op_sub (pv 1) pe_int) (pa_cons (pe_op op_sub (pe_un un_neg (pv 1)) pe_int) (pa_cons (pe_op op_add (pv 1) (pe_op Ks.op_powW pe_int pe_int)) (pa_cons pe_non (pa_cons (pe_callTy call_str_int (by rfl) T.m_str (by decide +kernel) (pa_cons (pv 1) pa_nil)) pa_nil))))))) pa_nil))))) pss_nil)
  (pss_one (ps_ret (pe_ifExp (pt_cmpR op_isN (pv 1) pe_non (nomark _)) pe_int pe_non)))))))), ?_⟩
    have hxH : Da H x d := hx.up (wo_same b H) _ _
    have smd : sm n d = true := fr_sm n d hf
    have e0 : ∀ {H0 : Hp} {e : Addr}, Da (upd H0 e (.tup [])) (.ref e) (.tuple []) := .tup upd_same .nil
    by_cases ht : isTu (some d) = true
    · obtain ⟨ds, rfl⟩ : ∃ ds, d = .tuple ds := by
        cases d with
        | tuple ds => exact ⟨ds, rfl⟩
        | _ => cases ht
      obtain ⟨n, rfl⟩ : ∃ m, n = m + 1 := by
        cases n with
        | zero => cases hf
        | succ m => exact ⟨m, rfl⟩
      obtain ⟨hl5, hfr⟩ := fr_tup hf
      have shd : SeqAt.shaped (.tuple ds) = true := sm_shaped (by omega) smd
      obtain ⟨p, xs, rfl, hp, ha, hpb⟩ := da_tupb hx
      refine ⟨.ref p, rfl, .ref p, .ty "tuple", .type (tyD (some (.tuple ds))), .type "tuple", true, rfl, .ty "tuple", (Vd.da hxH).ty, kit_ty (kit_tu _), _, rfl, iteT ?_⟩
      refine ⟨.ref p, rfl, (show 0 ≤ sizeLine by decide), fun e ne => ?_⟩
      have G1 := (Go.refl hb).new (o := .tup []) ne
      refine ⟨.tuple ds, .tuple [], ((hx.up G1.2 _ _).up (wo_same b _) _ _).dp, (Da.tup upd_same .nil).dp, shd, by decide +kernel, ?_⟩
      by_cases hds : ds = []
      · have eqy : PyData.eqv (.tuple ds) (.tuple []) = true := by rw [hds]; decide +kernel
        rw [eqy]
        refine ⟨_, rfl, iteF ?_⟩
        have hxc := hx.up G1.2 _ _
        have hpc := hxc.up (wo_same b _) _ _
        refine ⟨.ref p, rfl, .ref p, .ty "tuple", .type (tyD (some (.tuple ds))), .type "tuple", true, rfl, .ty "tuple", (Vd.da hpc).ty, kit_ty (kit_tu _), _, rfl, iteT ?_⟩
        refine ⟨.ref b, rfl, .ref p, rfl, (show 0 ≤ sizeLine by decide), fun e1 ne1 => ⟨(show 1 ≤ sizeLine by decide), fun t1 nt1 => ?_⟩⟩
        have Ga := G1.new (o := .tup []) ne1
        have Gb := Ga.new (o := .tup [.ref e1]) nt1
        have da1 := daN G1.1 ne1 (.nil (H := wo b _))
        have da2 := daN Ga.1 nt1 (.cons da1 .nil)
        refine cat_da (K := K) Gb.1 (hx.up Gb.2 _ _) da2 (by simp only [List.length_cons, List.length_nil]; omega) fun z1 H2 g2 d1 => ?_
        have G2 := Gb.trans g2
        refine ⟨.ref p, rfl, (show 0 ≤ sizeLine by decide), fun e2 ne2 => ?_⟩
        have G3 := G2.new (o := .tup []) ne2
        refine ⟨.tuple ds, .tuple [], ((hx.up G3.2 _ _).up (wo_same b _) _ _).dp, (Da.tup upd_same .nil).dp, shd, by decide +kernel, ?_⟩
        rw [show PyData.eqv (.tuple ds) (.tuple []) = true from eqy]
        refine ⟨_, rfl, iteF ?_⟩
        refine ⟨(show 1 ≤ sizeLine by decide), fun z2 nz2 => ?_⟩
        have G4 := G3.new (o := .tup [.int 0]) nz2
        have g4 := (Go.refl G3.1).new (o := .tup [.int 0]) nz2
        have g2' := (Go.refl G2.1).new (o := .tup []) ne2
        have d2' := daN G3.1 nz2 (.cons (.int 0) (.nil (H := wo b _)))
        have sd2 : sm (n + 2) (.tuple [.int 0]) = true := rfl
        have hx4 := hx.up G4.2 _ _
        refine ⟨.ref p, rfl, p, xs, rfl, .inr (.inl (.inl (G4.at hpb hp))), fun l3 nl3 => ?_⟩
        have G5 := G4.new (o := .lst xs) nl3
        have g5 := (Go.refl G4.1).new (o := .lst xs) nl3
        have d3 : Da (wo b (upd _ l3 (.lst xs))) (.ref l3) (.list ds) := .lst (by rw [wo_ne (G4.1.ne nl3)]; exact upd_same) (ha.up G5.2 _ _)
        refine ⟨.ref p, rfl, .ref p, rfl, 1, rfl, _, rfl, ?_⟩
        dsimp only [tNoPart]
        refine slice_da (K := K) G5.1 (hx.up G5.2 _ _) fun z4 H6 g6 d4 => ?_
        dsimp only [tC]
        refine rep2_da (K := K) (G5.trans g6).1 d4 (Nat.le_trans (cutD_last ds) (by decide)) fun z5 H7 g7 d5 => ?_
        have G7 := (G5.trans g6).trans g7
        refine cat_da (K := K) G7.1 (hx.up G7.2 _ _) d5 (by rw [List.length_append]; have := cutD_last ds; omega) fun z6 H8 g8 d6 => ?_
        have G8 := G7.trans g8
        have g38 := (g5.trans g6).trans (g7.trans g8)
        refine ⟨(show 5 ≤ sizeLine by decide), fun l nl => ?_⟩
        refine one_da (E := fun _ _ _ => False) (fun d => sm (n + 2) d = true) G8.1 nl (fun z => nomatch z) (show 5 ≤ 1000 by decide) (fun y hy => ?_) (fun y e H9 g9 hd sd => q y e H9 (G8.trans g9) hd sd)
        simp only [List.mem_cons, List.not_mem_nil, or_false] at hy
        rcases hy with rfl | rfl | rfl | rfl | rfl
        · refine ⟨_, d1.up ((((g2').trans g4).trans g38).2) _ _, sm_tuple (by rw [List.length_append]; show ds.length + 1 ≤ 12; omega) fun c hc => ?_⟩
          rcases List.mem_append.mp hc with hc | hc
          · exact sm_mono _ _ _ (by omega) (fr_sm _ _ (hfr c hc))
          · have : c = .tuple [] := by simpa using hc
            subst this
            rfl
        · exact ⟨_, d2'.up g38.2 _ _, sd2⟩
        · exact ⟨_, d3.up (((g6.trans g7).trans g8).2) _ _, sm_list (by omega) fun c hc => sm_mono _ _ _ (by omega) (fr_sm _ _ (hfr c hc))⟩
        · exact ⟨_, .non, rfl⟩
        · refine ⟨_, d6, sm_tuple (by rw [List.length_append, List.length_append]; have := cutD_last ds; omega) fun c hc => ?_⟩
          have hc2 : c ∈ ds := by
            rcases List.mem_append.mp hc with hc | hc
            · exact hc
            · rcases List.mem_append.mp hc with hc | hc <;> exact cutD_mem hc
          exact sm_mono _ _ _ (by omega) (fr_sm _ _ (hfr c hc2))
      · have eqn : PyData.eqv (.tuple ds) (.tuple []) = false := by
          cases ds with
          | nil => exact absurd rfl hds
          | cons a r => rw [PyData.eqv, PyData.eqvAll]
        rw [eqn]
        refine ⟨_, rfl, iteT ?_⟩
        refine ⟨.int (k : Int), rfl, (k : Int), 0, rfl, rfl, _, rfl, ite2 (fun e1 => ?_) (fun e1 => ?_)⟩
        · have hk : 0 < k := by
            have : (k : Int) > 0 := of_decide_eq_true e1
            omega
          refine ⟨.ref b, rfl, b, 5, rfl, by decide, by decide, G1.1, fun r lr H1 g1 => ⟨(r : Int), 0, rfl, rfl, _, rfl, ite2 (fun e2 => ?_) (fun e2 => ?_)⟩⟩
          · have GF := G1.trans g1
            obtain ⟨j, rfl⟩ : ∃ j, k = j + 1 := ⟨k - 1, by omega⟩
            have lx := ha.len
            have lpos : 0 < ds.length := List.length_pos_iff.mpr hds
            refine ⟨.ref b, rfl, .ref p, rfl, p, xs, rfl, .inr (.inl (.inl (GF.at hpb hp))), b, (xs.length : Int), rfl, by omega, ?_, GF.1, fun r2 lr2 H2 g2 => ?_⟩
            · have h1 := Nat.log2_le_self (xs.length : Int).natAbs
              have h2 : (xs.length : Int).natAbs = xs.length := Int.natAbs_natCast _
              omega
            have G2 := GF.trans g2
            have hr2 : r2 < xs.length := by omega
            have hv : xs[r2]? = some xs[r2] := List.getElem?_eq_getElem hr2
            obtain ⟨dv, hdv, hda⟩ := ha.at r2 _ hv
            refine ⟨.ref p, rfl, .int (r2 : Int), rfl, (r2 : Int), rfl, slice_da (K := K) G2.1 (hx.up G2.2 _ _) fun z1 H3 g3 d1 => ?_⟩
            have G3 := G2.trans g3
            refine ⟨.ref b, rfl, .ref p, rfl, .int (r2 : Int), rfl, p, xs, (r2 : Int), xs[r2], rfl, rfl, .inl (.inl (G3.at hpb hp)), atI_nat hv, .int ((j + 1 : Nat) : Int), rfl, ((j + 1 : Nat) : Int), 1, rfl, rfl, hG j rfl _ _ _ _ ⟨b, xs[r2], dv, n, by show [V.ref b, xs[r2], V.int (((j + 1 : Nat) : Int) - 1)] = _; rw [show (((j + 1 : Nat) : Int) - 1) = (j : Int) by omega], G3.1, hda.up G3.2 _ _, by omega, hfr dv (List.mem_of_getElem? hdv), fun y e H4 g4 dy sy => ?_⟩⟩
            have G4 := G3.trans g4
            refine ⟨(show 1 ≤ sizeLine by decide), fun t nt => ?_⟩
            have G5 := G4.new (o := .tup [y]) nt
            have dt := daN G4.1 nt (.cons dy .nil)
            refine cat_da (K := K) G5.1 (d1.up (g4.trans ((Go.refl G4.1).new nt)).2 _ _) dt (by rw [List.length_cons, List.length_nil]; have := cutD_len ds none (some (r2 : Int)); omega) fun z2 H6 g6 d6 => ?_
            have G6 := G5.trans g6
            refine ⟨.ref p, rfl, .int (r2 : Int), rfl, (r2 : Int), 1, rfl, rfl, (r2 : Int) + 1, rfl, ?_⟩
            dsimp only [tNoPart]
            refine slice_da (K := K) G6.1 (hx.up G6.2 _ _) fun z3 H7 g7 d7 => ?_
            have c1 := cutD_len ds none (some (r2 : Int))
            have c2 := cutD_len ds (some ((r2 : Int) + 1)) none
            refine cat_da (K := K) (G6.trans g7).1 (d6.up g7.2 _ _) d7 (by rw [List.length_append, List.length_cons, List.length_nil]; omega) fun z4 H8 g8 d8 => ?_
            refine q z4 _ H8 ((G6.trans g7).trans g8) d8 (sm_tuple (by rw [List.length_append, List.length_append, List.length_cons, List.length_nil]; omega) fun c hc => ?_)
            rcases List.mem_append.mp hc with hc | hc
            · rcases List.mem_append.mp hc with hc | hc
              · exact sm_mono _ _ _ (by omega) (fr_sm _ _ (hfr c (cutD_mem hc)))
              · have : c = e := by simpa using hc
                subst this
                exact sy
            · exact sm_mono _ _ _ (by omega) (fr_sm _ _ (hfr c (cutD_mem hc)))
          · have GF := G1.trans g1
            have hxc := hx.up GF.2 _ _
            have hpc := hxc.up (wo_same b _) _ _
            refine ⟨.ref p, rfl, .ref p, .ty "tuple", .type (tyD (some (.tuple ds))), .type "tuple", true, rfl, .ty "tuple", (Vd.da hpc).ty, kit_ty (kit_tu _), _, rfl, iteT ?_⟩
            refine ⟨.ref b, rfl, .ref p, rfl, (show 0 ≤ sizeLine by decide), fun e1 ne1 => ⟨(show 1 ≤ sizeLine by decide), fun t1 nt1 => ?_⟩⟩
            have Ga := GF.new (o := .tup []) ne1
            have Gb := Ga.new (o := .tup [.ref e1]) nt1
            have da1 := daN GF.1 ne1 (.nil (H := wo b _))
            have da2 := daN Ga.1 nt1 (.cons da1 .nil)
            refine cat_da (K := K) Gb.1 (hx.up Gb.2 _ _) da2 (by simp only [List.length_cons, List.length_nil]; omega) fun z1 H2 g2 d1 => ?_
            have G2 := Gb.trans g2
            refine ⟨.ref p, rfl, (show 0 ≤ sizeLine by decide), fun e2 ne2 => ?_⟩
            have G3 := G2.new (o := .tup []) ne2
            refine ⟨.tuple ds, .tuple [], ((hx.up G3.2 _ _).up (wo_same b _) _ _).dp, (Da.tup upd_same .nil).dp, shd, by decide +kernel, ?_⟩
            rw [show PyData.eqv (.tuple ds) (.tuple []) = false from eqn]
            refine ⟨_, rfl, iteT ?_⟩
            refine ⟨.ref p, rfl, 1, rfl, _, rfl, slice_da (K := K) G3.1 (hx.up G3.2 _ _) fun z2 H4 g4 d2' => ?_⟩
            have G4 := G3.trans g4
            have g2' := (Go.refl G2.1).new (o := .tup []) ne2
            have sd2 : sm (n + 2) (.tuple (cutD ds none (some (-1)))) = true := sm_tuple (Nat.le_trans (cutD_len _ _ _) (by omega)) fun c hc => sm_mono _ _ _ (by omega) (fr_sm _ _ (hfr c (cutD_mem hc)))
            have hx4 := hx.up G4.2 _ _
            refine ⟨.ref p, rfl, p, xs, rfl, .inr (.inl (.inl (G4.at hpb hp))), fun l3 nl3 => ?_⟩
            have G5 := G4.new (o := .lst xs) nl3
            have g5 := (Go.refl G4.1).new (o := .lst xs) nl3
            have d3 : Da (wo b (upd _ l3 (.lst xs))) (.ref l3) (.list ds) := .lst (by rw [wo_ne (G4.1.ne nl3)]; exact upd_same) (ha.up G5.2 _ _)
            refine ⟨.ref p, rfl, .ref p, rfl, 1, rfl, _, rfl, ?_⟩
            dsimp only [tNoPart]
            refine slice_da (K := K) G5.1 (hx.up G5.2 _ _) fun z4 H6 g6 d4 => ?_
            dsimp only [tC]
            refine rep2_da (K := K) (G5.trans g6).1 d4 (Nat.le_trans (cutD_last ds) (by decide)) fun z5 H7 g7 d5 => ?_
            have G7 := (G5.trans g6).trans g7
            refine cat_da (K := K) G7.1 (hx.up G7.2 _ _) d5 (by rw [List.length_append]; have := cutD_last ds; omega) fun z6 H8 g8 d6 => ?_
            have G8 := G7.trans g8
            have g38 := (g5.trans g6).trans (g7.trans g8)
            refine ⟨(show 5 ≤ sizeLine by decide), fun l nl => ?_⟩
            refine one_da (E := fun _ _ _ => False) (fun d => sm (n + 2) d = true) G8.1 nl (fun z => nomatch z) (show 5 ≤ 1000 by decide) (fun y hy => ?_) (fun y e H9 g9 hd sd => q y e H9 (G8.trans g9) hd sd)
            simp only [List.mem_cons, List.not_mem_nil, or_false] at hy
            rcases hy with rfl | rfl | rfl | rfl | rfl
            · refine ⟨_, d1.up ((((g2').trans g4).trans g38).2) _ _, sm_tuple (by rw [List.length_append]; show ds.length + 1 ≤ 12; omega) fun c hc => ?_⟩
              rcases List.mem_append.mp hc with hc | hc
              · exact sm_mono _ _ _ (by omega) (fr_sm _ _ (hfr c hc))
              · have : c = .tuple [] := by simpa using hc
                subst this
                rfl
            · exact ⟨_, d2'.up g38.2 _ _, sd2⟩
            · exact ⟨_, d3.up (((g6.trans g7).trans g8).2) _ _, sm_list (by omega) fun c hc => sm_mono _ _ _ (by omega) (fr_sm _ _ (hfr c hc))⟩
            · exact ⟨_, .non, rfl⟩
            · refine ⟨_, d6, sm_tuple (by rw [List.length_append, List.length_append]; have := cutD_last ds; omega) fun c hc => ?_⟩
              have hc2 : c ∈ ds := by
                rcases List.mem_append.mp hc with hc | hc
                · exact hc
                · rcases List.mem_append.mp hc with hc | hc <;> exact cutD_mem hc
              exact sm_mono _ _ _ (by omega) (fr_sm _ _ (hfr c hc2))
        · have hxc := hx.up G1.2 _ _
          have hpc := hxc.up (wo_same b _) _ _
          refine ⟨.ref p, rfl, .ref p, .ty "tuple", .type (tyD (some (.tuple ds))), .type "tuple", true, rfl, .ty "tuple", (Vd.da hpc).ty, kit_ty (kit_tu _), _, rfl, iteT ?_⟩
          refine ⟨.ref b, rfl, .ref p, rfl, (show 0 ≤ sizeLine by decide), fun e1 ne1 => ⟨(show 1 ≤ sizeLine by decide), fun t1 nt1 => ?_⟩⟩
          have Ga := G1.new (o := .tup []) ne1
          have Gb := Ga.new (o := .tup [.ref e1]) nt1
          have da1 := daN G1.1 ne1 (.nil (H := wo b _))
          have da2 := daN Ga.1 nt1 (.cons da1 .nil)
          refine cat_da (K := K) Gb.1 (hx.up Gb.2 _ _) da2 (by simp only [List.length_cons, List.length_nil]; omega) fun z1 H2 g2 d1 => ?_
          have G2 := Gb.trans g2
          refine ⟨.ref p, rfl, (show 0 ≤ sizeLine by decide), fun e2 ne2 => ?_⟩
          have G3 := G2.new (o := .tup []) ne2
          refine ⟨.tuple ds, .tuple [], ((hx.up G3.2 _ _).up (wo_same b _) _ _).dp, (Da.tup upd_same .nil).dp, shd, by decide +kernel, ?_⟩
          rw [show PyData.eqv (.tuple ds) (.tuple []) = false from eqn]
          refine ⟨_, rfl, iteT ?_⟩
          refine ⟨.ref p, rfl, 1, rfl, _, rfl, slice_da (K := K) G3.1 (hx.up G3.2 _ _) fun z2 H4 g4 d2' => ?_⟩
          have G4 := G3.trans g4
          have g2' := (Go.refl G2.1).new (o := .tup []) ne2
          have sd2 : sm (n + 2) (.tuple (cutD ds none (some (-1)))) = true := sm_tuple (Nat.le_trans (cutD_len _ _ _) (by omega)) fun c hc => sm_mono _ _ _ (by omega) (fr_sm _ _ (hfr c (cutD_mem hc)))
          have hx4 := hx.up G4.2 _ _
          refine ⟨.ref p, rfl, p, xs, rfl, .inr (.inl (.inl (G4.at hpb hp))), fun l3 nl3 => ?_⟩
          have G5 := G4.new (o := .lst xs) nl3
          have g5 := (Go.refl G4.1).new (o := .lst xs) nl3
          have d3 : Da (wo b (upd _ l3 (.lst xs))) (.ref l3) (.list ds) := .lst (by rw [wo_ne (G4.1.ne nl3)]; exact upd_same) (ha.up G5.2 _ _)
          refine ⟨.ref p, rfl, .ref p, rfl, 1, rfl, _, rfl, ?_⟩
          dsimp only [tNoPart]
          refine slice_da (K := K) G5.1 (hx.up G5.2 _ _) fun z4 H6 g6 d4 => ?_
          dsimp only [tC]
          refine rep2_da (K := K) (G5.trans g6).1 d4 (Nat.le_trans (cutD_last ds) (by decide)) fun z5 H7 g7 d5 => ?_
          have G7 := (G5.trans g6).trans g7
          refine cat_da (K := K) G7.1 (hx.up G7.2 _ _) d5 (by rw [List.length_append]; have := cutD_last ds; omega) fun z6 H8 g8 d6 => ?_
          have G8 := G7.trans g8
          have g38 := (g5.trans g6).trans (g7.trans g8)
          refine ⟨(show 5 ≤ sizeLine by decide), fun l nl => ?_⟩
          refine one_da (E := fun _ _ _ => False) (fun d => sm (n + 2) d = true) G8.1 nl (fun z => nomatch z) (show 5 ≤ 1000 by decide) (fun y hy => ?_) (fun y e H9 g9 hd sd => q y e H9 (G8.trans g9) hd sd)
          simp only [List.mem_cons, List.not_mem_nil, or_false] at hy
          rcases hy with rfl | rfl | rfl | rfl | rfl
          · refine ⟨_, d1.up ((((g2').trans g4).trans g38).2) _ _, sm_tuple (by rw [List.length_append]; show ds.length + 1 ≤ 12; omega) fun c hc => ?_⟩
            rcases List.mem_append.mp hc with hc | hc
            · exact sm_mono _ _ _ (by omega) (fr_sm _ _ (hfr c hc))
            · have : c = .tuple [] := by simpa using hc
              subst this
              rfl
          · exact ⟨_, d2'.up g38.2 _ _, sd2⟩
          · exact ⟨_, d3.up (((g6.trans g7).trans g8).2) _ _, sm_list (by omega) fun c hc => sm_mono _ _ _ (by omega) (fr_sm _ _ (hfr c hc))⟩
          · exact ⟨_, .non, rfl⟩
          · refine ⟨_, d6, sm_tuple (by rw [List.length_append, List.length_append]; have := cutD_last ds; omega) fun c hc => ?_⟩
            have hc2 : c ∈ ds := by
              rcases List.mem_append.mp hc with hc | hc
              · exact hc
              · rcases List.mem_append.mp hc with hc | hc <;> exact cutD_mem hc
            exact sm_mono _ _ _ (by omega) (fr_sm _ _ (hfr c hc2))
    · have htf : isTu (some d) = false := Bool.eq_false_iff.mpr ht
      refine ⟨x, rfl, x, .ty "tuple", .type (tyD (some d)), .type "tuple", isTu (some d), rfl, .ty "tuple", (Vd.da hxH).ty, kit_ty (kit_tu _), _, rfl, (if_neg ht).mpr ?_⟩
      refine ⟨x, rfl, x, .ty "tuple", .type (tyD (some d)), .type "tuple", isTu (some d), rfl, .ty "tuple", (Vd.da hxH).ty, kit_ty (kit_tu _), _, rfl, (if_neg ht).mpr ?_⟩
      refine ⟨x, rfl, x, .ty "str", .type (tyD (some d)), .type "str", isSt (some d), rfl, .ty "str", (Vd.da hxH).ty, kit_ty (kit_st _), _, rfl, ite2 (fun es => ?_) (fun es => ?_)⟩
      · obtain ⟨z, rfl⟩ : ∃ z, d = .str z := by
          cases d with
          | str z => exact ⟨z, rfl⟩
          | _ => cases es
        obtain ⟨lz, az⟩ := fr_str hf
        cases hx with
        | str z =>
        have lz2 : z.length + 1 ≤ sizeLine := Nat.le_trans (show z.length + 1 ≤ 30 by omega) (by decide)
        have lz3 : z.length ≤ sizeLine := by omega
        by_cases hz : z = ""
        · refine ⟨.ref b, rfl, .str z, rfl, z, "0", rfl, rfl, lz2, .str z, rfl, rfl, _, rfl, (if_neg (by rw [hz]; decide)).mpr ?_⟩
          refine ⟨.str z, rfl, z, "x", rfl, rfl, lz2, .str z, rfl, (show 1 ≤ sizeLine by decide), fun t nt => ⟨(show 5 ≤ sizeLine by decide), fun l nl => ?_⟩⟩
          have G1 := (Go.refl hb).new (o := .tup [.str z]) nt
          refine one_da (E := fun _ _ _ => False) (fun d => sm (n + 1) d = true) G1.1 nl (fun z => nomatch z) (show 5 ≤ 1000 by decide) (fun y hy => ?_) (fun y e H9 g9 hd sd => q y e H9 (G1.trans g9) hd sd)
          simp only [List.mem_cons, List.not_mem_nil, or_false] at hy
          rcases hy with rfl | rfl | rfl | rfl | rfl
          · exact ⟨_, .str _, sm_txt (by rw [len_append, show ("0" : Str).length = 1 from rfl]; omega) (asc_append az (by decide))⟩
          · exact ⟨_, .str "1", sm_txt (by decide) (by decide)⟩
          · exact ⟨_, .str _, sm_txt (by rw [len_append, show ("x" : Str).length = 1 from rfl]; omega) (asc_append az (by decide))⟩
          · exact ⟨_, .non, rfl⟩
          · exact ⟨_, daN hb nt (.cons (.str z) .nil), sm_tuple (show 1 ≤ 12 by decide) fun c hc => by
              have : c = .str z := by simpa using hc
              subst this
              exact sm_txt (by omega) az⟩
        · refine ⟨.ref b, rfl, .str z, rfl, z, "0", rfl, rfl, lz2, .str z, rfl, rfl, _, rfl, (if_pos (by rw [decide_eq_false (fun e => hz (V.str.inj e))]; rfl)).mpr ?_⟩
          refine ⟨.str z, rfl, 1, rfl, _, rfl, z, rfl, lz3, ?_⟩
          refine ⟨.str z, rfl, z, "x", rfl, rfl, lz2, .str z, rfl, (show 1 ≤ sizeLine by decide), fun t nt => ⟨(show 5 ≤ sizeLine by decide), fun l nl => ?_⟩⟩
          have G1 := (Go.refl hb).new (o := .tup [.str z]) nt
          refine one_da (E := fun _ _ _ => False) (fun d => sm (n + 1) d = true) G1.1 nl (fun z => nomatch z) (show 5 ≤ 1000 by decide) (fun y hy => ?_) (fun y e H9 g9 hd sd => q y e H9 (G1.trans g9) hd sd)
          simp only [List.mem_cons, List.not_mem_nil, or_false] at hy
          rcases hy with rfl | rfl | rfl | rfl | rfl
          · exact ⟨_, .str _, sm_txt (by rw [len_append, show ("0" : Str).length = 1 from rfl]; omega) (asc_append az (by decide))⟩
          · exact ⟨_, .str _, sm_txt (by have := cut_len z none (some (-1)); omega) (cut_asc az)⟩
          · exact ⟨_, .str _, sm_txt (by rw [len_append, show ("x" : Str).length = 1 from rfl]; omega) (asc_append az (by decide))⟩
          · exact ⟨_, .non, rfl⟩
          · exact ⟨_, daN hb nt (.cons (.str z) .nil), sm_tuple (show 1 ≤ 12 by decide) fun c hc => by
              have : c = .str z := by simpa using hc
              subst this
              exact sm_txt (by omega) az⟩
      refine ⟨x, rfl, x, .ty "bool", .type (tyD (some d)), .type "bool", isBo (some d), rfl, .ty "bool", (Vd.da hxH).ty, kit_ty (kit_bo _), _, rfl, ite2 (fun eb => ?_) (fun eb => ?_)⟩
      · obtain ⟨v, rfl⟩ : ∃ v, d = .bool v := by
          cases d with
          | bool v => exact ⟨v, rfl⟩
          | _ => cases eb
        cases hx with
        | bl v =>
        refine ⟨.ref b, rfl, .bl v, rfl, v, rfl, .bl v, rfl, .inr ⟨v, rfl, (show 3 ≤ sizeLine by decide), fun l nl => ?_⟩⟩
        refine one_da (E := fun _ _ _ => False) (fun d => sm (n + 1) d = true) hb nl (fun z => nomatch z) (show 3 ≤ 1000 by decide) (fun y hy => ?_) (fun y e H9 g9 hd sd => q y e H9 g9 hd sd)
        simp only [List.mem_cons, List.not_mem_nil, or_false] at hy
        rcases hy with rfl | rfl | rfl
        · exact ⟨_, .bl _, rfl⟩
        · exact ⟨_, .int _, rfl⟩
        · exact ⟨_, .non, rfl⟩
      refine ⟨x, rfl, x, .ty "int", .type (tyD (some d)), .type "int", isIn (some d), rfl, .ty "int", (Vd.da hxH).ty, kit_ty (kit_in _), _, rfl, ite2 (fun ei => ?_) (fun ei => ?_)⟩
      · obtain ⟨i, rfl⟩ : ∃ i, d = .int i := by
          cases d with
          | int i => exact ⟨i, rfl⟩
          | bool _ => exact absurd rfl eb
          | _ => cases ei
        have hi : i ∈ fi := by cases n <;> exact of_decide_eq_true hf
        obtain ⟨b1, b2, b3⟩ := fi_ok i hi
        cases hx with
        | int i =>
        refine ⟨.ref b, rfl, .int i, rfl, i, 1, rfl, rfl, .int i, rfl, i, 1, rfl, rfl, .int i, rfl, i, rfl, -i, 1, rfl, rfl, .int i, rfl, 10, 30, rfl, rfl, ⟨by decide, by decide +kernel⟩, i, 10 ^ (30 : Int).toNat, rfl, rfl, .int i, rfl, i, rfl, by omega, (show 6 ≤ sizeLine by decide), fun l nl => ?_⟩
        refine one_da (E := fun _ _ _ => False) (fun d => sm (n + 1) d = true) hb nl (fun z => nomatch z) (show 6 ≤ 1000 by decide) (fun y hy => ?_) (fun y e H9 g9 hd sd => q y e H9 g9 hd sd)
        simp only [List.mem_cons, List.not_mem_nil, or_false] at hy
        rcases hy with rfl | rfl | rfl | rfl | rfl | rfl
        · exact ⟨_, .int _, rfl⟩
        · exact ⟨_, .int _, rfl⟩
        · exact ⟨_, .int _, rfl⟩
        · exact ⟨_, .int _, rfl⟩
        · exact ⟨_, .non, rfl⟩
        · exact ⟨_, .str _, sm_txt (by omega) b3⟩
      refine ⟨x, rfl, rfl, _, rfl, ite2 (fun en => ?_) (fun en => ?_)⟩
      · exact q _ _ H (Go.refl hb) (.int 0) rfl
      · exact q _ _ H (Go.refl hb) .non rfl

theorem okSpoiled {f f1 f2 : Addr} {fd fd1 fd2 : FuncData} (DLspoiled : Dn K mg "_law_spoiled" sLspoiled ["_law_bag_here", "_law_value", "_law_deep"] f fd) (DLoneOf : Dn K mg "_law_one_of" sLoneOf ["_law_bag_here", "_law_items"] f1 fd1) (DLdraw : Dn K mg "_law_draw" sLdraw ["_law_bag_here", "_law_total"] f2 fd2) (T : Bx mg) (U : By mg) : ∀ k, FnOk P w K mg base CX0 (2 + k + 1) f fd ["_law_bag_here", "_law_value", "_law_deep"] (spSp k) := by
  intro k
  induction k with
  | zero =>
    have G0 : FnOk P w K mg base CX0 1 f fd ["_law_bag_here", "_law_value", "_law_deep"] (fun _ _ _ _ => False) := DLspoiled.F.ok scLspoiled (fun vs H Q E h => h.elim) (fun cdv A outer s H vs Q E hr h => h.elim)
    exact okSpStep 0 _ (G0.mono (by decide)) (fun j e => absurd e (by omega)) DLspoiled DLoneOf DLdraw T U
  | succ j ih => exact okSpStep (j + 1) (spSp j) ih (fun i e => by cases e; exact fun _ _ _ _ h => h) DLspoiled DLoneOf DLdraw T U
end
end K66

namespace Ks
open PySem PySem.Spec L2
open PyProof.Rows hiding St
/-- repr of a bool -/
theorem call_repr_bl {X : Cx} : CallR X (.builtin "repr") (fun xs H Q => ∃ b, xs = [.bl b] ∧ Q (.str (PyData.bool b).shown) H) := by
  intro pins s σ H xs us Q I r h
  obtain ⟨b, rfl, q⟩ := h
  obtain ⟨u, rfl, ru⟩ := vals1 r
  cases ru
  exact PySem.P.repr_of_bool ⟨.str _, H, I.tok _, ⟨_, rfl⟩, q⟩
theorem eqv_tself {n : Nat} {ds : List PyData} (h : ∀ d ∈ ds, sm n d = true) (hl : ds.length ≤ 12) : PyData.eqv (.tuple ds) (.tuple ds) = true := eqv_self (n := n + 1) (sm_tuple hl h)
end Ks
namespace K66
open PySem PySem.Spec L2 Ks
open PyProof.Rows hiding St
theorem prom_in {ds : List PyData} (h : prom (some (.tuple ds)) = true) : ∃ w a r, ds = w :: a :: r ∧ (((isW "within" w || isW "alike" w) = true ∧ ∃ c, r = [c] ∧ namesD ds = if PyData.eqv a c = true then [a] else [a, c]) ∨ ((isW "within" w || isW "alike" w) = false ∧ namesD ds = [a])) := by
  obtain ⟨w, a, r, rfl, hr⟩ := prom_len h
  refine ⟨w, a, r, rfl, ?_⟩
  cases e : (isW "within" w || isW "alike" w) with
  | true =>
    left
    rcases hr with h0 | ⟨c, h0⟩ | ⟨c, n, h0, h2⟩
    · exfalso
      subst h0
      have h' : (nmD (some a) && isW "answered" w) = true := h
      rw [Bool.and_eq_true] at h'
      have := h'.2
      rcases Bool.or_eq_true_iff.mp e with e | e
      · rw [isW_ne (by decide +kernel) e] at this
        cases this
      · rw [isW_ne (by decide +kernel) e] at this
        cases this
    · subst h0
      refine ⟨rfl, c, rfl, ?_⟩
      show (if ((isW "within" w || isW "alike" w) && !PyData.eqv a c) = true then [a, c] else [a]) = _
      rw [e, Bool.true_and]
      cases PyData.eqv a c <;> rfl
    · rw [told_not h2] at e
      cases e
  | false =>
    right
    refine ⟨rfl, ?_⟩
    rcases hr with h0 | ⟨c, h0⟩ | ⟨c, n, h0, h2⟩
    · subst h0
      rfl
    · subst h0
      show (if ((isW "within" w || isW "alike" w) && !PyData.eqv a c) = true then [a, c] else [a]) = _
      rw [e, Bool.false_and]
      rfl
    · subst h0
      rfl
section
variable {P : Program} {w : World} {K : PySem.W.Frag} {mg : Str → Option Value} {base : Heap}
variable {fN fB fA fM fL : Addr} {dN dB dA dM dL : FuncData}
/-! ### _law_is_right -/
def spRight : Sp := fun vs H Q _ => ∃ (x : V) (o : Option PyData) (n : Nat), vs = [x] ∧ Vd H x o ∧ n ≤ 8 ∧ (∀ d, o = some d → sm n d = true) ∧ ∀ H', Same H H' → Q (.bl true) H'
theorem okRight {f f1 f2 f3 f4 f5 f6 f7 C : Addr} {fd d1 d2 d3 d4 d5 d6 d7 : FuncData} (D : Dn K mg "_law_is_right" sLisRight ["_law_value"] f fd) (DIsPromise : Dn K mg "is_promise" sIsPromise ["value"] f1 d1) (DCheckPromise : Dn K mg "check_promise" sCheckPromise ["promise"] f2 d2) (DNamesOf : Dn K mg "names_of" sNamesOf ["promise"] f3 d3)
    (DLisNumber : Dn K mg "_law_is_number" sLisNumber ["_law_value", "_law_high"] f4 d4) (DLisNamed : Dn K mg "_law_is_named" sLisNamed ["_law_value"] f5 d5) (DLareLines : Dn K mg "_law_are_lines" sLareLines ["_law_value"] f6 d6) (DLisTold : Dn K mg "_law_is_told" sLisTold ["_law_value"] f7 d7)
    (S : Ds K mg fN fB fA fM fL dN dB dA dM dL) (T : Bx mg) (U : By mg) (O : OwnE K mg "InvalidPromise" C) (eC : PySem.W.exmOne K (.ref C) (.ref C) = some true) : FnOk P w K mg base CX0 7 f fd ["_law_value"] spRight := by
  have GIsPromise : FnOk P w K mg base CX0 4 _ _ _ _ := okIsPromise DIsPromise S T U
  have GNamesOf : FnOk P w K mg base (L2.CX P w) 6 _ _ _ _ := okNamesOf DNamesOf DCheckPromise DIsPromise S T U O
  have GLisTold : FnOk P w K mg base CX0 3 _ _ _ _ := okTold DLisTold DLisNumber DLisNamed DLareLines T U
  refine D.F.ok scLisRight (fun vs H Q E h => ?_) (fun cdv A outer s H vs Q E hr h => ?_)
  · obtain ⟨x, o, n, rfl, _⟩ := h
    rfl
  · obtain ⟨x, o, n, rfl, hx, hn, hs, q⟩ := h
    refine ⟨_, pss_cons (ps_set (i := 1) scLisRight.nd rfl (Or.inl rfl) (pe_call GLisTold (hr.mono (by decide)) (by rfl) DLisTold.g DLisTold.F.kp DLisTold.b .nil pass0 (pa_cons (pv 0) pa_nil)))
      (pss_cons (ps_if (pt_cmpR op_ne (pe_callB Ks.call_repr_bl (by rfl) T.m_repr (by decide +kernel) (pa_cons (pe_call GIsPromise (hr.mono (by decide)) (by rfl) DIsPromise.g DIsPromise.F.kp DIsPromise.b .nil pass0 (pa_cons (pv 0) pa_nil)) pa_nil)) (pe_callB Ks.call_repr_bl (by rfl) T.m_repr (by decide +kernel) (pa_cons (pv 1) pa_nil)) (nomark _)) (pss_one (ps_ret pe_bl)) pss_nil)
      (pss_cons (ps_catch (l := [⟨.ref C, none, fun a cls d => _⟩]) rfl rfl scLisRight.nd takes0
        (fun W pn xe tk po => pss_one (ps_set (i := 2) scLisRight.nd rfl (Or.inl rfl) (pe_callS GNamesOf (hr.mono (by decide)) (by rfl) DNamesOf.g DNamesOf.F.kp DNamesOf.b (fun σ => passAt tk σ) (pa_cons (pv 0) pa_nil))))
        (ClausesOk.bare ⟨by rfl, by decide, .inl O.g⟩ (fun a oe cls d pn hz hf => pss_one (ps_ret (pe_not (pv 1)))) ClausesOk.nil))
      (pss_cons (ps_set (i := 3) scLisRight.nd rfl (Or.inl rfl) (pe_ifExp (pt_cmpR (op_inT (units65 hr)) (pe_ix ix_tup (pv 0) pe_int (fun _ _ => rfl)) (pe_tup (pa_cons pe_str (pa_cons pe_str pa_nil))) rfl) (pe_callTy call_list_of (by rfl) T.m_list (by decide +kernel) (pa_cons (pe_slice sl_tupA (pv 0) (po_some pe_int) (po_some pe_int)) pa_nil)) (pe_lst (pa_cons (pe_ix ix_tup (pv 0) pe_int (fun _ _ => rfl)) pa_nil))))
      (pss_one (ps_ret (pe_and (pv 1) (pe_one (pe_cmpR (op_eqD hr.units) (pv 2) (pe_callTy call_tuple_of (by rfl) U.tuple (by decide +kernel) (pa_cons (pe_ifExp (pt_cmpR (op_eqD hr.units) (pe_ix ix_list (pv 3) pe_int (fun _ _ => rfl)) (pe_ix ix_list (pv 3) (pe_un un_neg pe_int) (fun _ _ => rfl)) (nomark _)) (pe_slice sl_list (pv 3) po_none (po_some pe_int)) (pv 3)) pa_nil)) (nomark _))))))))), ?_⟩
    refine ⟨x, rfl, x, o, n, rfl, hx, hn, hs, fun H1 s1 => ?_⟩
    refine ⟨x, rfl, x, o, n, rfl, hx.up s1, hn, hs, fun H2 s2 => ?_⟩
    have S2 := s1.trans s2
    refine ⟨prom o, rfl, .bl (prom o), rfl, prom o, rfl, rfl, _, rfl, (if_neg (by simp)).mpr ?_⟩
    refine ⟨x, rfl, x, o, n, rfl, hx.up S2, hn, hs, fun hp H3 s3 => ?_, fun ds ho hp y H3 s3 hy => ?_⟩
    · refine ⟨true, eC, fun _ a na => ?_, fun e => nomatch e⟩
      refine ⟨.bl (prom o), rfl, prom o, rfl, ?_⟩
      rw [hp]
      exact q H3 (S2.trans s3)
    · subst ho
      have S3 := S2.trans s3
      obtain ⟨n, rfl⟩ : ∃ m, n = m + 1 := by
        cases n with
        | zero => exact absurd (hs _ rfl) (fun z => by cases z)
        | succ m => exact ⟨m, rfl⟩
      obtain ⟨hl, hsm⟩ := sm_tup (hs _ rfl)
      obtain ⟨w0, w1, rest, rfl, hcase⟩ := prom_in hp
      cases hx with
      | da hx =>
      cases hx with
      | @tup p xs _ hpp ha =>
      cases ha with
      | @cons v0 r0 _ _ h0 ha =>
      cases ha with
      | @cons v1 r1 _ _ h1 ha =>
      have sh : ∀ d ∈ w0 :: w1 :: rest, SeqAt.shaped d = true := fun d m => sm_shaped (by omega) (hsm d m)
      have hp3 := S3 _ _ hpp
      refine ⟨.ref p, rfl, p, _, 0, v0, rfl, rfl, .inl (.inl hp3), atI_nat (j := 0) rfl, (show 2 ≤ sizeLine by decide), fun t nt => ?_⟩
      have sT := same_new' (o := .tup [.str "within", .str "alike"]) nt
      have S4 := S3.trans sT
      have hp4 := S4 _ _ hpp
      refine ⟨w0, [.str "within", .str "alike"], (h0.up S4 _ _).dp, .tup (.inl (.inl upd_same)) (.cons (.str _) (.cons (.str _) .nil)), sh w0 (by simp), by decide +kernel, ?_⟩
      have m1 : ∀ d ∈ [w1], sm n d = true := fun d hd => by
        have : d = w1 := by simpa using hd
        rw [this]
        exact hsm w1 (by simp)
      rw [anyW]
      rcases hcase with ⟨e, c, rfl, hnames⟩ | ⟨e, hnames⟩
      · rw [e]
        refine ⟨_, rfl, iteT ?_⟩
        cases ha with
        | @cons v2 r2 _ _ h2 ha =>
        cases ha
        refine ⟨.ref p, rfl, 1, rfl, 3, rfl, p, _, rfl, .inl (.inl hp4), fun wh => absurd wh (no_whole _ _), fun _ u nu => ?_⟩
        rw [show cutV [v0, v1, v2] (some 1) (some 3) = [v1, v2] from rfl]
        have sU := same_new' (o := .tup [v1, v2]) nu
        refine ⟨u, [v1, v2], rfl, .inr (.inl (.inl upd_same)), fun L nL => ?_⟩
        have sL := same_new' (o := .lst [v1, v2]) nL
        have S6 := (S4.trans sU).trans sL
        have s36 := (sT.trans sU).trans sL
        have hy6 := hy.up s36 _ _
        rw [hnames] at hy6
        refine ⟨.bl (prom _), rfl, _, rfl, (if_pos hp).mpr ?_⟩
        refine ⟨y, rfl, .ref L, rfl, L, [v1, v2], 0, v1, rfl, rfl, .inl (.inl upd_same), atI_nat (j := 0) rfl, .ref L, rfl, 1, rfl, L, [v1, v2], -1, v2, rfl, rfl, .inl (.inl upd_same), rfl, w1, c, (h1.up S6 _ _).dp, (h2.up S6 _ _).dp, sh w1 (by simp), sh c (by simp), _, rfl, ite2 (fun e2 => ?_) (fun e2 => ?_)⟩
        · refine ⟨.ref L, rfl, 1, rfl, L, [v1, v2], rfl, .inl (.inl upd_same), fun M nM => ?_⟩
          rw [show cutV [v1, v2] none (some 1) = [v1] from rfl]
          have sM := same_new' (o := .lst [v1]) nM
          refine ⟨M, [v1], rfl, .inl ⟨.inl (.inl upd_same), fun N nN => ?_⟩⟩
          have sN := same_new' (o := .tup [v1]) nN
          have S8 := (S6.trans sM).trans sN
          rw [if_pos e2] at hy6
          refine ⟨.tuple [w1], .tuple [w1], (hy6.up (sM.trans sN) _ _).dp, (Da.tup upd_same (.cons (h1.up S8 _ _) .nil)).dp, sm_shaped (n := n + 1) (by omega) (sm_tuple (show 1 ≤ 12 by decide) m1), sm_shaped (n := n + 1) (by omega) (sm_tuple (show 1 ≤ 12 by decide) m1), ?_⟩
          rw [eqv_tself m1 (show 1 ≤ 12 by decide)]
          exact q _ S8
        · refine ⟨.ref L, rfl, L, [v1, v2], rfl, .inl ⟨.inl (.inl upd_same), fun N nN => ?_⟩⟩
          have sN := same_new' (o := .tup [v1, v2]) nN
          have S8 := S6.trans sN
          rw [if_neg e2] at hy6
          have m2 : ∀ d ∈ [w1, c], sm n d = true := fun d hd => by
            simp only [List.mem_cons, List.not_mem_nil, or_false] at hd
            rcases hd with rfl | rfl
            · exact hsm _ (by simp)
            · exact hsm _ (by simp)
          refine ⟨.tuple [w1, c], .tuple [w1, c], (hy6.up sN _ _).dp, (Da.tup upd_same (.cons (h1.up S8 _ _) (.cons (h2.up S8 _ _) .nil))).dp, sm_shaped (n := n + 1) (by omega) (sm_tuple (show 2 ≤ 12 by decide) m2), sm_shaped (n := n + 1) (by omega) (sm_tuple (show 2 ≤ 12 by decide) m2), ?_⟩
          rw [eqv_tself m2 (show 2 ≤ 12 by decide)]
          exact q _ S8
      · rw [e]
        refine ⟨_, rfl, iteF ?_⟩
        refine ⟨.ref p, rfl, p, _, 1, v1, rfl, rfl, .inl (.inl hp4), atI_nat (j := 1) rfl, (show 1 ≤ sizeLine by decide), fun L nL => ?_⟩
        have sL := same_new' (o := .lst [v1]) nL
        have S6 := S4.trans sL
        have hy6 := hy.up (sT.trans sL) _ _
        rw [hnames] at hy6
        refine ⟨.bl (prom _), rfl, _, rfl, (if_pos hp).mpr ?_⟩
        refine ⟨y, rfl, .ref L, rfl, L, [v1], 0, v1, rfl, rfl, .inl (.inl upd_same), atI_nat (j := 0) rfl, .ref L, rfl, 1, rfl, L, [v1], -1, v1, rfl, rfl, .inl (.inl upd_same), rfl, w1, w1, (h1.up S6 _ _).dp, (h1.up S6 _ _).dp, sh w1 (by simp), sh w1 (by simp), _, rfl, ?_⟩
        rw [eqv_self (hsm w1 (by simp))]
        refine iteT ?_
        refine ⟨.ref L, rfl, 1, rfl, L, [v1], rfl, .inl (.inl upd_same), fun M nM => ?_⟩
        rw [show cutV [v1] none (some 1) = [v1] from rfl]
        have sM := same_new' (o := .lst [v1]) nM
        refine ⟨M, [v1], rfl, .inl ⟨.inl (.inl upd_same), fun N nN => ?_⟩⟩
        have sN := same_new' (o := .tup [v1]) nN
        have S8 := (S6.trans sM).trans sN
        refine ⟨.tuple [w1], .tuple [w1], (hy6.up (sM.trans sN) _ _).dp, (Da.tup upd_same (.cons (h1.up S8 _ _) .nil)).dp, sm_shaped (n := n + 1) (by omega) (sm_tuple (show 1 ≤ 12 by decide) m1), sm_shaped (n := n + 1) (by omega) (sm_tuple (show 1 ≤ 12 by decide) m1), ?_⟩
        rw [eqv_tself m1 (show 1 ≤ 12 by decide)]
        exact q _ S8
end
end K66

namespace Ks
open PySem PySem.Spec L2
theorem exm_of {K : PySem.W.Frag} {cls : Value} {C : Addr} {b : Bool} (e : PySem.W.subIn K (.ref C) (.type "BaseException") = some true) (i : PySem.W.isClsIn K C = true) (t : PySem.W.typeIn K (.ref C) = some (.type "type")) (s : PySem.W.subIn K cls (.ref C) = some b) :
    PySem.W.exmOne K cls (.ref C) = some b := by
  unfold PySem.W.exmOne PySem.W.kitCls
  rw [if_pos (by rw [e]; decide)]
  show (if _ then _ else _) = _
  rw [if_pos ?_]
  · exact s
  · have h : (PySem.W.clsIn K C).isSome = true := i
    rw [h, t]
    decide
end Ks
namespace K66
open PySem PySem.Spec L2 Ks
open PyProof.Rows hiding St
section
variable {P : Program} {w : World} {K : PySem.W.Frag} {mg : Str → Option Value} {base : Heap}
variable {fN fB fA fM fL : Addr} {dN dB dA dM dL : FuncData}
def spLaw (K : PySem.W.Frag) : Sp := fun vs H Q _ => ∃ (a : Addr) (ns : List Int), vs = [.ref a] ∧ SqL K H a (ns.map V.int) ∧ ∀ H', Q (.bl true) H'
theorem okLaw {f f1 f2 f3 f4 f5 f6 f7 g1 g2 g3 g4 g5 g6 g7 C : Addr} {fd d1 d2 d3 d4 d5 d6 d7 e1 e2 e3 e4 e5 e6 e7 : FuncData} (D : Dn K mg "law" sLaw ["_law_script"] f fd) (DIsPromise : Dn K mg "is_promise" sIsPromise ["value"] f1 d1) (DCheckPromise : Dn K mg "check_promise" sCheckPromise ["promise"] f2 d2) (DNamesOf : Dn K mg "names_of" sNamesOf ["promise"] f3 d3)
    (DLisNumber : Dn K mg "_law_is_number" sLisNumber ["_law_value", "_law_high"] f4 d4) (DLisNamed : Dn K mg "_law_is_named" sLisNamed ["_law_value"] f5 d5) (DLareLines : Dn K mg "_law_are_lines" sLareLines ["_law_value"] f6 d6) (DLisTold : Dn K mg "_law_is_told" sLisTold ["_law_value"] f7 d7)
    (DLbag : Dn K mg "_law_bag" sLbag ["_law_script", "_law_at"] g1 e1) (DLdraw : Dn K mg "_law_draw" sLdraw ["_law_bag_here", "_law_total"] g2 e2) (DLoneOf : Dn K mg "_law_one_of" sLoneOf ["_law_bag_here", "_law_items"] g3 e3) (DLodd : Dn K mg "_law_odd" sLodd ["_law_bag_here"] g4 e4)
    (DLspoiled : Dn K mg "_law_spoiled" sLspoiled ["_law_bag_here", "_law_value", "_law_deep"] g5 e5) (DLname : Dn K mg "_law_name" sLname ["_law_bag_here"] g6 e6) (DLanyPromise : Dn K mg "_law_any_promise" sLanyPromise ["_law_bag_here"] g7 e7) {h1 : Addr} {k1 : FuncData} (DLisRight : Dn K mg "_law_is_right" sLisRight ["_law_value"] h1 k1)
    (S : Ds K mg fN fB fA fM fL dN dB dA dM dL) (T : Bx mg) (U : By mg) (O : OwnE K mg "InvalidPromise" C) (eC : PySem.W.exmOne K (.ref C) (.ref C) = some true) : FnOk P w K mg base CX0 8 f fd ["_law_script"] (spLaw K) := by
  obtain ⟨tN, hN⟩ := S.hN
  obtain ⟨tL, hL⟩ := S.hL
  have DIsName := S.name
  have GIsName : FnOk P w K mg base CX0 1 _ _ _ _ := okIsName S.name T hN hL
  have GLisNamed : FnOk P w K mg base CX0 1 _ _ _ _ := okNamed DLisNamed T
  have GLbag : FnOk P w K mg base CX0 1 _ _ _ _ := okLbag DLbag T
  have GLoneOf : FnOk P w K mg base CX0 2 _ _ _ _ := okLoneOf DLoneOf DLdraw T
  have GLname : FnOk P w K mg base CX0 3 _ _ _ _ := okLname DLname DLoneOf DLdraw T
  have GLodd : FnOk P w K mg base CX0 3 _ _ _ _ := okLodd DLodd DLoneOf DLdraw T
  have GLspoiled : FnOk P w K mg base CX0 5 _ _ _ _ := okSpoiled DLspoiled DLoneOf DLdraw T U 2
  have GLanyPromise : FnOk P w K mg base CX0 4 _ _ _ _ := okLanyPromise DLanyPromise DLname DLoneOf DLdraw T U
  have GLisRight : FnOk P w K mg base CX0 7 _ _ _ _ := okRight DLisRight DIsPromise DCheckPromise DNamesOf DLisNumber DLisNamed DLareLines DLisTold S T U O eC
  refine D.F.ok scLaw (fun vs H Q E h => ?_) (fun cdv A outer s H vs Q E hr h => ?_)
  · obtain ⟨a, ns, rfl, _⟩ := h
    rfl
  · obtain ⟨a, ns, rfl, hS, q⟩ := h
    refine ⟨_, (pss_cons (ps_for PassesOwn.never rfl (pi_range1 (by rfl) T.m_range (pa_cons (pe_callB (call_max2 rfl) (by rfl) T.m_max (by decide +kernel) (pa_cons pe_int (pa_cons (pe_callB (call_min2 rfl) (by rfl) T.m_min (by decide +kernel) (pa_cons pe_int (pa_cons (pe_callB call_len_seq (by rfl) T.m_len (by decide +kernel) (pa_cons (pv 0) pa_nil)) pa_nil))) pa_nil))) pa_nil)) (pg_name (i := 1) scLaw.nd rfl (Or.inl rfl)) (pss_cons (ps_set (i := 2) scLaw.nd rfl (Or.inl rfl) (pe_call GLbag (hr.mono (by decide)) (by rfl) DLbag.g DLbag.F.kp DLbag.b .nil pass0 (pa_cons (pv 0) (pa_cons (pv 1) pa_nil))))
  (pss_one (ps_for PassesOwn.never rfl (pi_range1 (by rfl) T.m_range (pa_cons pe_int pa_nil)) (pg_name (i := 3) scLaw.nd rfl (Or.inl rfl)) (pss_cons (ps_par (i := 4) (j := 5) (by rfl) scLaw.nd rfl rfl (by decide) rfl rfl (pa_cons (pe_call GLanyPromise (hr.mono (by decide)) (by rfl) DLanyPromise.g DLanyPromise.F.kp DLanyPromise.b .nil pass0 (pa_cons (pv 2) pa_nil)) (pa_cons (pe_call GLoneOf (hr.mono (by decide)) (by rfl) DLoneOf.g DLoneOf.F.kp DLoneOf.b .nil pass0 (pa_cons (pv 2) (pa_cons (pe_lst (pa_cons (pe_call GLname (hr.mono (by decide)) (by rfl) DLname.g DLname.F.kp DLname.b .nil pass0 (pa_cons (pv 2) pa_nil)) (pa_cons (pe_call GLodd (hr.mono (by decide)) (by rfl) DLodd.g DLodd.F.kp DLodd.b .nil pass0 (pa_cons (pv 2) pa_nil)) pa_nil))) pa_nil))) pa_nil)) (by rfl))
  (pss_cons (ps_set (i := 6) scLaw.nd rfl (Or.inl rfl) (pe_lst (pa_cons (pv 4) (pa_cons (pe_call GLspoiled (hr.mono (by decide)) (by rfl) DLspoiled.g DLspoiled.F.kp DLspoiled.b .nil pass0 (pa_cons (pv 2) (pa_cons (pv 4) (pa_cons pe_int pa_nil)))) (pa_cons (pe_call GLspoiled (hr.mono (by decide)) (by rfl) DLspoiled.g DLspoiled.F.kp DLspoiled.b .nil pass0 (pa_cons (pv 2) (pa_cons (pv 4) (pa_cons pe_int pa_nil)))) (pa_cons (pe_op op_catA (pv 4) (pe_slice sl_tupA (pv 4) (po_some pe_int) (po_some pe_int))) (pa_cons (pe_slice sl_tupA (pv 4) po_none (po_some pe_int)) (pa_cons (pe_call GLodd (hr.mono (by decide)) (by rfl) DLodd.g DLodd.F.kp DLodd.b .nil pass0 (pa_cons (pv 2) pa_nil)) pa_nil))))))))
  (pss_one (ps_if (PW.pt (pw_or (pt_cmpR (op_neD hr.units) (pe_lc (own := [("_law_value", 7)]) (g := gName 7) rfl scLaw.nd (pi_list (pv 6)) (blkOk_by (own := [("_law_value", 7)]) (N := ["_law_script", "_law_at", "_law_bag_here", "_law_turn", "_law_made", "_law_name_here", "_law_values", "_law_value"]) (sc := defScope sLaw) (by decide +kernel)) (fun _ _ _ _ _ => (pg_name (i := 7) scLaw.nd rfl (Or.inl rfl))) (fun _ _ _ _ _ => (pts_one (pt_not (pt_val (pe_call GLisRight (hr.mono (by decide)) (by rfl) DLisRight.g DLisRight.F.kp DLisRight.b .nil pass0 (pa_cons (pv 7) pa_nil)))))) (fun _ _ _ _ _ => (pv 7))) (pe_lst pa_nil) (nomark _)) (pw_or1 (pt_cmpR op_ne (pe_callB Ks.call_repr_bl (by rfl) T.m_repr (by decide +kernel) (pa_cons (pe_call GIsName (hr.mono (by decide)) (by rfl) DIsName.g DIsName.F.kp DIsName.b .nil pass0 (pa_cons (pv 5) pa_nil)) pa_nil)) (pe_callB Ks.call_repr_bl (by rfl) T.m_repr (by decide +kernel) (pa_cons (pe_call GLisNamed (hr.mono (by decide)) (by rfl) DLisNamed.g DLisNamed.F.kp DLisNamed.b .nil pass0 (pa_cons (pv 5) pa_nil)) pa_nil)) (nomark _))))) (pss_one (ps_ret pe_bl)) pss_nil))))))))
  (pss_one (ps_ret pe_bl))), ?_⟩
    refine ⟨.ref a, rfl, a, _, rfl, .inl hS, 3, _, rfl, 1, _, rfl, _, rfl, ?_, ?_, ?_⟩
    · split <;> split <;> omega
    · split <;> split <;> omega
    · refine for_it (walk_range (lo := 0)) (fun i σ H' => SqL K H' a (ns.map V.int) ∧ ∃ y1 y2 y3 y4 y5 y6 y7, σ = [some (.ref a), y1, y2, y3, y4, y5, y6, y7]) ⟨hS, none, none, none, none, none, none, none, rfl⟩ (fun _ _ _ _ _ => trivial) (fun i x σ H1 H2 hi h hy => ?_) (fun σ H1 h => ?_)
      · obtain ⟨h1, y1, y2, y3, y4, y5, y6, y7, rfl⟩ := h
        obtain ⟨rfl, rfl⟩ := hy
        refine ⟨.ref a, rfl, .int (0 + (i : Int)), rfl, a, ns, 0 + (i : Int), rfl, h1, by omega, fun b H3 nb sm3 bg => ?_⟩
        have sq : SqL K (wo b H3) a (ns.map V.int) := (wo_free nb sm3).seq h1
        refine ⟨6, rfl, by decide, by decide, ?_⟩
        refine for_it (walk_range (lo := 0)) (fun j σ H' => Go b H3 H' ∧ ∃ y3 y4 y5 y6 y7, σ = [some (.ref a), some (.int (0 + (i : Int))), some (.ref b), y3, y4, y5, y6, y7]) ⟨Go.refl bg, y3, y4, y5, y6, y7, rfl⟩ (fun _ _ _ _ _ => trivial) (fun j x σ H4 H5 hj h hy => ?_) (fun σ H4 h => ?_)
        · obtain ⟨g4, y3, y4, y5, y6, y7, rfl⟩ := h
          obtain ⟨rfl, rfl⟩ := hy
          refine ⟨.ref b, rfl, b, rfl, g4.1, fun ym ds H6 g6 dm dne frm => ?_⟩
          have G6 := g4.trans g6
          refine ⟨.ref b, rfl, .ref b, rfl, b, rfl, G6.1, fun z1 H7 g7 l1 a1 => ?_⟩
          have G7 := G6.trans g7
          refine ⟨.ref b, rfl, b, rfl, G7.1, fun yo oo H8 g8 vo so => ?_⟩
          have G8 := G7.trans g8
          refine ⟨(show 2 ≤ sizeLine by decide), fun l nl => ?_⟩
          refine one_vd (E := fun _ _ _ => False) (m := 2) G8.1 nl (fun z => nomatch z) (show 2 ≤ 1000 by decide) (fun x hx => ?_) (fun yn on H9 g9 vn sn => ?_)
          · simp only [List.mem_cons, List.not_mem_nil, or_false] at hx
            rcases hx with rfl | rfl
            · exact ⟨_, .da (.str _), fun d e => by cases e; exact sm_txt (by omega) a1⟩
            · exact ⟨_, vo, so⟩
          have G9 := G8.trans g9
          have dm9 := dm.up (g7.trans (g8.trans g9)).2 _ _
          refine ⟨ym, yn, rfl, ?_⟩
          refine ⟨ym, rfl, .ref b, rfl, ym, rfl, b, ym, .tuple ds, 2, rfl, G9.1, dm9, by decide, frm, fun w1 e1 H10 g10 v1 m1 => ?_⟩
          have G10 := G9.trans g10
          refine ⟨.ref b, rfl, ym, rfl, b, ym, .tuple ds, 2, rfl, G10.1, dm9.up g10.2 _ _, by decide, frm, fun w2 e2 H11 g11 v2 m2 => ?_⟩
          have g911 := g10.trans g11
          have G11 := G9.trans g911
          obtain ⟨hl5, hfr⟩ := fr_tup frm
          refine ⟨ym, rfl, ym, rfl, 1, rfl, 2, rfl, slice_da (K := K) G11.1 (dm9.up g911.2 _ _) fun z3 H12 g12 d3 => ?_⟩
          have g912 := g911.trans g12
          have G12 := G9.trans g912
          refine cat_da (K := K) G12.1 (dm9.up g912.2 _ _) d3 (by have := cutD_len ds (some 1) (some 2); omega) fun z4 H13 g13 d4 => ?_
          have g913 := g912.trans g13
          have G13 := G9.trans g913
          refine ⟨ym, rfl, 1, rfl, slice_da (K := K) G13.1 (dm9.up g913.2 _ _) fun z5 H14 g14 d5 => ?_⟩
          have g914 := g913.trans g14
          have G14 := G9.trans g914
          refine ⟨.ref b, rfl, b, rfl, G14.1, fun yq oq H15 g15 vq sq2 => ?_⟩
          have g915 := g914.trans g15
          have G15 := G9.trans g915
          refine ⟨(show 6 ≤ sizeLine by decide), fun L nL => ?_⟩
          have G16 := G15.new (o := .lst [ym, w1, w2, z4, z5, yq]) nL
          have g1516 := (Go.refl G15.1).new (o := .lst [ym, w1, w2, z4, z5, yq]) nL
          have Lb := G15.1.ne nL
          have each : ∀ x ∈ [ym, w1, w2, z4, z5, yq], ∃ o, Vd (upd H15 L (.lst [ym, w1, w2, z4, z5, yq])) x o ∧ ∀ d, o = some d → sm 3 d = true := fun x hx => by
            have up : ∀ {y : V} {o : Option PyData}, Vd (wo b (upd H15 L (.lst [ym, w1, w2, z4, z5, yq]))) y o → Vd (upd H15 L (.lst [ym, w1, w2, z4, z5, yq])) y o := fun h => h.up (wo_same b _)
            have fm : ∀ c ∈ ds, sm 1 c = true := fun c hc => fr_sm 1 c (hfr c hc)
            simp only [List.mem_cons, List.not_mem_nil, or_false] at hx
            rcases hx with rfl | rfl | rfl | rfl | rfl | rfl
            · exact ⟨_, up (.da (dm9.up (g915.trans g1516).2 _ _)), fun d e => by cases e; exact sm_mono 2 3 _ (by decide) (fr_sm 2 _ frm)⟩
            · exact ⟨_, up (.da (v1.up (((((g11.trans g12).trans g13).trans g14).trans g15).trans g1516).2 _ _)), fun d e => by cases e; exact m1⟩
            · exact ⟨_, up (.da (v2.up ((((g12.trans g13).trans g14).trans g15).trans g1516).2 _ _)), fun d e => by cases e; exact m2⟩
            · refine ⟨_, up (.da (d4.up ((g14.trans g15).trans g1516).2 _ _)), fun d e => ?_⟩
              cases e
              refine sm_tuple (by rw [List.length_append]; have := cutD_len ds (some 1) (some 2); omega) fun c hc => sm_mono 1 2 _ (by decide) ?_
              rcases List.mem_append.mp hc with hc | hc
              · exact fm c hc
              · exact fm c (cutD_mem hc)
            · refine ⟨_, up (.da (d5.up (g15.trans g1516).2 _ _)), fun d e => ?_⟩
              cases e
              exact sm_tuple (Nat.le_trans (cutD_len _ _ _) (by omega)) fun c hc => sm_mono 1 2 _ (by decide) (fm c (cutD_mem hc))
            · exact ⟨_, up (vq.up g1516.2), fun d e => sm_mono 2 3 _ (by decide) (sq2 d e)⟩
          have vn16 := (vn.up (g915.trans g1516).2).up (wo_same b _)
          refine ⟨.ref L, rfl, L, rfl, ⟨_, .inl (.inl upd_same)⟩, fun D nD => ?_⟩
          refine lc_it (walk_list (xs := [ym, w1, w2, z4, z5, yq])) (fun i H' => Same (upd H15 L (.lst [ym, w1, w2, z4, z5, yq])) H' ∧ H' D = some (.lst [])) ⟨same_new' nD, upd_same⟩ (fun _ _ _ h => .inl (.inl (h.1 _ _ upd_same))) (fun i x HA HB hi h hy => ?_) (fun HA h => ?_)
          · obtain ⟨sA, eD⟩ := h
            obtain ⟨rfl, hx⟩ := hy
            obtain ⟨o, vo, so⟩ := each x (List.mem_of_getElem? hx)
            refine ⟨rfl, x, rfl, x, o, 3, rfl, vo.up sA, by decide, so, fun HC sC => ⟨_, rfl, ite2 (fun e => nomatch e) (fun _ => ⟨sA.trans sC, sC _ _ eD⟩)⟩⟩
          · obtain ⟨sA, eD⟩ := h
            refine ⟨(show 0 ≤ sizeLine by decide), fun u nu => ?_⟩
            have sU := same_new' (o := .lst []) nu
            refine ⟨.list [], .list [], (Da.lst (sU _ _ eD) .nil).dp, (Da.lst upd_same .nil).dp, by decide +kernel, by decide +kernel, ?_⟩
            rw [show PyData.eqv (.list []) (.list []) = true by decide +kernel]
            refine ⟨_, rfl, iteF ?_⟩
            have sAU := sA.trans sU
            refine ⟨yn, rfl, yn, on, rfl, vn16.up sAU, (fun z e => Nat.le_trans (sm_str (sn _ e)).1 (by decide)), nmD on, rfl, ?_⟩
            refine ⟨yn, rfl, yn, on, 2, rfl, vn16.up sAU, by decide, sn, fun HD sD => ?_⟩
            refine ⟨nmD on, rfl, rfl, _, rfl, (if_neg (by simp)).mpr ?_⟩
            exact ⟨G16.trans (Go.same G16.1 (sAU.trans sD)), _, _, _, _, _, rfl⟩
        · obtain ⟨g4, y3, y4, y5, y6, y7, rfl⟩ := h
          exact ⟨(wo_same b H4).seq (g4.2.seq sq), _, _, _, _, _, _, _, rfl⟩
      · exact q _
end
end K66

namespace K66
open PySem PySem.Spec L2 Ks
open PyProof.Rows hiding St
theorem all_mk {P : Program} {w : World} {K : PySem.W.Frag} {h : Heap} {mg : Str → Option Value} {fa CP : Addr} {t1 t2 t3 t4 t5 : Tok} (X : K.In h) (G : h.Ns mainGlobals mg) (hfa : mg "law" = some (.ref fa))
    {f0 f1 f2 f3 f4 f5 f6 f7 f8 f9 f10 f11 f12 f13 f14 f15 f16 f17 f18 f19 f20 : Addr}
    {od0 an0 od1 an1 od2 an2 od3 an3 od4 an4 od5 an5 od6 an6 od7 an7 od8 an8 od9 an9 od10 an10 od11 an11 od12 an12 od13 an13 od14 an14 od15 an15 od16 an16 od17 an17 od18 an18 od19 an19 od20 an20 : Option Addr}
    {sl0 sl1 sl2 sl3 sl4 sl5 sl6 sl7 sl8 sl9 sl10 sl11 sl12 sl13 sl14 sl15 sl16 sl17 sl18 sl19 sl20 : Array (Option Value)}
    {oc0 kV0 dc0 pm0 cd0 ct0 oc1 kV1 dc1 pm1 cd1 ct1 oc2 kV2 dc2 pm2 cd2 ct2 oc3 kV3 dc3 pm3 cd3 ct3 oc4 kV4 dc4 pm4 cd4 ct4 oc5 kV5 dc5 pm5 cd5 ct5 oc6 kV6 dc6 pm6 cd6 ct6 oc7 kV7 dc7 pm7 cd7 ct7 oc8 kV8 dc8 pm8 cd8 ct8 oc9 kV9 dc9 pm9 cd9 ct9 oc10 kV10 dc10 pm10 cd10 ct10 oc11 kV11 dc11 pm11 cd11 ct11 oc12 kV12 dc12 pm12 cd12 ct12 oc13 kV13 dc13 pm13 cd13 ct13 oc14 kV14 dc14 pm14 cd14 ct14 oc15 kV15 dc15 pm15 cd15 ct15 oc16 kV16 dc16 pm16 cd16 ct16 oc17 kV17 dc17 pm17 cd17 ct17 oc18 kV18 dc18 pm18 cd18 ct18 oc19 kV19 dc19 pm19 cd19 ct19 oc20 kV20 dc20 pm20 cd20 ct20 : Value}
    (aP : PySem.W.nsIn K mainGlobals "InvalidPromise" = some (some (.ref CP)))
    (xP : PySem.W.excIn K CP [.type "ValueError", .type "Exception", .type "BaseException", .type "object"] "ValueError.__new__" = true)
    (kP : PySem.W.keepIn K (.ref CP) = true)
    (eP : PySem.W.subIn K (.ref CP) (.type "BaseException") = some true)
    (tP : PySem.W.typeIn K (.ref CP) = some (.type "type"))
    (qP : PySem.W.isClsIn K CP = true)
    (sP : PySem.W.subIn K (.ref CP) (.ref CP) = some true)
    (aN1 : PySem.W.nsIn K mainGlobals "MAX_NAME" = some (some (.int 8 t1)))
    (aN2 : PySem.W.nsIn K mainGlobals "LETTERS" = some (some (.str "abcdefghijklmnopqrstuvwxyz" t2)))
    (aN3 : PySem.W.nsIn K mainGlobals "MANY_LINES" = some (some (.int 4 t3)))
    (aN4 : PySem.W.nsIn K mainGlobals "MOST_ANSWERS" = some (some (.int 99 t4)))
    (aN5 : PySem.W.nsIn K mainGlobals "MOST_AHEAD" = some (some (.int 3 t5)))
    (a0 : PySem.W.nsIn K mainGlobals "is_number" = some (some (.ref f0)))
    (l0 : K.lookup f0 = some ⟨oc0, od0, .func (PySem.W.fnOf "is_number" "is_number" (defArgs sIsNumber) (defBody sIsNumber) (defScope sIsNumber) .none kV0 dc0 pm0 an0 cd0 ct0), sl0⟩)
    (c0 : PySem.W.codeIn K cd0 "is_number" = true)
    (k0 : PySem.W.keepIn K (.ref f0) = true)
    (a1 : PySem.W.nsIn K mainGlobals "are_numbers_below" = some (some (.ref f1)))
    (l1 : K.lookup f1 = some ⟨oc1, od1, .func (PySem.W.fnOf "are_numbers_below" "are_numbers_below" (defArgs sAreNumbersBelow) (defBody sAreNumbersBelow) (defScope sAreNumbersBelow) .none kV1 dc1 pm1 an1 cd1 ct1), sl1⟩)
    (c1 : PySem.W.codeIn K cd1 "are_numbers_below" = true)
    (k1 : PySem.W.keepIn K (.ref f1) = true)
    (a2 : PySem.W.nsIn K mainGlobals "are_ascending" = some (some (.ref f2)))
    (l2 : K.lookup f2 = some ⟨oc2, od2, .func (PySem.W.fnOf "are_ascending" "are_ascending" (defArgs sAreAscending) (defBody sAreAscending) (defScope sAreAscending) .none kV2 dc2 pm2 an2 cd2 ct2), sl2⟩)
    (c2 : PySem.W.codeIn K cd2 "are_ascending" = true)
    (k2 : PySem.W.keepIn K (.ref f2) = true)
    (a3 : PySem.W.nsIn K mainGlobals "is_name" = some (some (.ref f3)))
    (l3 : K.lookup f3 = some ⟨oc3, od3, .func (PySem.W.fnOf "is_name" "is_name" (defArgs sIsName) (defBody sIsName) (defScope sIsName) .none kV3 dc3 pm3 an3 cd3 ct3), sl3⟩)
    (c3 : PySem.W.codeIn K cd3 "is_name" = true)
    (k3 : PySem.W.keepIn K (.ref f3) = true)
    (a4 : PySem.W.nsIn K mainGlobals "_are_told_lines" = some (some (.ref f4)))
    (l4 : K.lookup f4 = some ⟨oc4, od4, .func (PySem.W.fnOf "_are_told_lines" "_are_told_lines" (defArgs sAreToldLines) (defBody sAreToldLines) (defScope sAreToldLines) .none kV4 dc4 pm4 an4 cd4 ct4), sl4⟩)
    (c4 : PySem.W.codeIn K cd4 "_are_told_lines" = true)
    (k4 : PySem.W.keepIn K (.ref f4) = true)
    (a5 : PySem.W.nsIn K mainGlobals "is_promise" = some (some (.ref f5)))
    (l5 : K.lookup f5 = some ⟨oc5, od5, .func (PySem.W.fnOf "is_promise" "is_promise" (defArgs sIsPromise) (defBody sIsPromise) (defScope sIsPromise) .none kV5 dc5 pm5 an5 cd5 ct5), sl5⟩)
    (c5 : PySem.W.codeIn K cd5 "is_promise" = true)
    (k5 : PySem.W.keepIn K (.ref f5) = true)
    (a6 : PySem.W.nsIn K mainGlobals "check_promise" = some (some (.ref f6)))
    (l6 : K.lookup f6 = some ⟨oc6, od6, .func (PySem.W.fnOf "check_promise" "check_promise" (defArgs sCheckPromise) (defBody sCheckPromise) (defScope sCheckPromise) .none kV6 dc6 pm6 an6 cd6 ct6), sl6⟩)
    (c6 : PySem.W.codeIn K cd6 "check_promise" = true)
    (k6 : PySem.W.keepIn K (.ref f6) = true)
    (a7 : PySem.W.nsIn K mainGlobals "names_of" = some (some (.ref f7)))
    (l7 : K.lookup f7 = some ⟨oc7, od7, .func (PySem.W.fnOf "names_of" "names_of" (defArgs sNamesOf) (defBody sNamesOf) (defScope sNamesOf) .none kV7 dc7 pm7 an7 cd7 ct7), sl7⟩)
    (c7 : PySem.W.codeIn K cd7 "names_of" = true)
    (k7 : PySem.W.keepIn K (.ref f7) = true)
    (a8 : PySem.W.nsIn K mainGlobals "_law_bag" = some (some (.ref f8)))
    (l8 : K.lookup f8 = some ⟨oc8, od8, .func (PySem.W.fnOf "_law_bag" "_law_bag" (defArgs sLbag) (defBody sLbag) (defScope sLbag) .none kV8 dc8 pm8 an8 cd8 ct8), sl8⟩)
    (c8 : PySem.W.codeIn K cd8 "_law_bag" = true)
    (k8 : PySem.W.keepIn K (.ref f8) = true)
    (a9 : PySem.W.nsIn K mainGlobals "_law_draw" = some (some (.ref f9)))
    (l9 : K.lookup f9 = some ⟨oc9, od9, .func (PySem.W.fnOf "_law_draw" "_law_draw" (defArgs sLdraw) (defBody sLdraw) (defScope sLdraw) .none kV9 dc9 pm9 an9 cd9 ct9), sl9⟩)
    (c9 : PySem.W.codeIn K cd9 "_law_draw" = true)
    (k9 : PySem.W.keepIn K (.ref f9) = true)
    (a10 : PySem.W.nsIn K mainGlobals "_law_one_of" = some (some (.ref f10)))
    (l10 : K.lookup f10 = some ⟨oc10, od10, .func (PySem.W.fnOf "_law_one_of" "_law_one_of" (defArgs sLoneOf) (defBody sLoneOf) (defScope sLoneOf) .none kV10 dc10 pm10 an10 cd10 ct10), sl10⟩)
    (c10 : PySem.W.codeIn K cd10 "_law_one_of" = true)
    (k10 : PySem.W.keepIn K (.ref f10) = true)
    (a11 : PySem.W.nsIn K mainGlobals "_law_odd" = some (some (.ref f11)))
    (l11 : K.lookup f11 = some ⟨oc11, od11, .func (PySem.W.fnOf "_law_odd" "_law_odd" (defArgs sLodd) (defBody sLodd) (defScope sLodd) .none kV11 dc11 pm11 an11 cd11 ct11), sl11⟩)
    (c11 : PySem.W.codeIn K cd11 "_law_odd" = true)
    (k11 : PySem.W.keepIn K (.ref f11) = true)
    (a12 : PySem.W.nsIn K mainGlobals "_law_spoiled" = some (some (.ref f12)))
    (l12 : K.lookup f12 = some ⟨oc12, od12, .func (PySem.W.fnOf "_law_spoiled" "_law_spoiled" (defArgs sLspoiled) (defBody sLspoiled) (defScope sLspoiled) .none kV12 dc12 pm12 an12 cd12 ct12), sl12⟩)
    (c12 : PySem.W.codeIn K cd12 "_law_spoiled" = true)
    (k12 : PySem.W.keepIn K (.ref f12) = true)
    (a13 : PySem.W.nsIn K mainGlobals "_law_is_named" = some (some (.ref f13)))
    (l13 : K.lookup f13 = some ⟨oc13, od13, .func (PySem.W.fnOf "_law_is_named" "_law_is_named" (defArgs sLisNamed) (defBody sLisNamed) (defScope sLisNamed) .none kV13 dc13 pm13 an13 cd13 ct13), sl13⟩)
    (c13 : PySem.W.codeIn K cd13 "_law_is_named" = true)
    (k13 : PySem.W.keepIn K (.ref f13) = true)
    (a14 : PySem.W.nsIn K mainGlobals "_law_is_number" = some (some (.ref f14)))
    (l14 : K.lookup f14 = some ⟨oc14, od14, .func (PySem.W.fnOf "_law_is_number" "_law_is_number" (defArgs sLisNumber) (defBody sLisNumber) (defScope sLisNumber) .none kV14 dc14 pm14 an14 cd14 ct14), sl14⟩)
    (c14 : PySem.W.codeIn K cd14 "_law_is_number" = true)
    (k14 : PySem.W.keepIn K (.ref f14) = true)
    (a15 : PySem.W.nsIn K mainGlobals "_law_are_lines" = some (some (.ref f15)))
    (l15 : K.lookup f15 = some ⟨oc15, od15, .func (PySem.W.fnOf "_law_are_lines" "_law_are_lines" (defArgs sLareLines) (defBody sLareLines) (defScope sLareLines) .none kV15 dc15 pm15 an15 cd15 ct15), sl15⟩)
    (c15 : PySem.W.codeIn K cd15 "_law_are_lines" = true)
    (k15 : PySem.W.keepIn K (.ref f15) = true)
    (a16 : PySem.W.nsIn K mainGlobals "_law_is_told" = some (some (.ref f16)))
    (l16 : K.lookup f16 = some ⟨oc16, od16, .func (PySem.W.fnOf "_law_is_told" "_law_is_told" (defArgs sLisTold) (defBody sLisTold) (defScope sLisTold) .none kV16 dc16 pm16 an16 cd16 ct16), sl16⟩)
    (c16 : PySem.W.codeIn K cd16 "_law_is_told" = true)
    (k16 : PySem.W.keepIn K (.ref f16) = true)
    (a17 : PySem.W.nsIn K mainGlobals "_law_name" = some (some (.ref f17)))
    (l17 : K.lookup f17 = some ⟨oc17, od17, .func (PySem.W.fnOf "_law_name" "_law_name" (defArgs sLname) (defBody sLname) (defScope sLname) .none kV17 dc17 pm17 an17 cd17 ct17), sl17⟩)
    (c17 : PySem.W.codeIn K cd17 "_law_name" = true)
    (k17 : PySem.W.keepIn K (.ref f17) = true)
    (a18 : PySem.W.nsIn K mainGlobals "_law_any_promise" = some (some (.ref f18)))
    (l18 : K.lookup f18 = some ⟨oc18, od18, .func (PySem.W.fnOf "_law_any_promise" "_law_any_promise" (defArgs sLanyPromise) (defBody sLanyPromise) (defScope sLanyPromise) .none kV18 dc18 pm18 an18 cd18 ct18), sl18⟩)
    (c18 : PySem.W.codeIn K cd18 "_law_any_promise" = true)
    (k18 : PySem.W.keepIn K (.ref f18) = true)
    (a19 : PySem.W.nsIn K mainGlobals "_law_is_right" = some (some (.ref f19)))
    (l19 : K.lookup f19 = some ⟨oc19, od19, .func (PySem.W.fnOf "_law_is_right" "_law_is_right" (defArgs sLisRight) (defBody sLisRight) (defScope sLisRight) .none kV19 dc19 pm19 an19 cd19 ct19), sl19⟩)
    (c19 : PySem.W.codeIn K cd19 "_law_is_right" = true)
    (k19 : PySem.W.keepIn K (.ref f19) = true)
    (a20 : PySem.W.nsIn K mainGlobals "law" = some (some (.ref f20)))
    (l20 : K.lookup f20 = some ⟨oc20, od20, .func (PySem.W.fnOf "law" "law" (defArgs sLaw) (defBody sLaw) (defScope sLaw) .none kV20 dc20 pm20 an20 cd20 ct20), sl20⟩)
    (c20 : PySem.W.codeIn K cd20 "law" = true)
    (k20 : PySem.W.keepIn K (.ref f20) = true)
    (z0 : PySem.W.nsIn K mainGlobals "isinstance" = some none)
    (z1 : PySem.W.nsIn K mainGlobals "int" = some none)
    (z2 : PySem.W.nsIn K mainGlobals "bool" = some none)
    (z3 : PySem.W.nsIn K mainGlobals "str" = some none)
    (z4 : PySem.W.nsIn K mainGlobals "len" = some none)
    (z5 : PySem.W.nsIn K mainGlobals "list" = some none)
    (z6 : PySem.W.nsIn K mainGlobals "range" = some none)
    (z7 : PySem.W.nsIn K mainGlobals "sum" = some none)
    (z8 : PySem.W.nsIn K mainGlobals "abs" = some none)
    (z9 : PySem.W.nsIn K mainGlobals "max" = some none)
    (z10 : PySem.W.nsIn K mainGlobals "min" = some none)
    (z11 : PySem.W.nsIn K mainGlobals "repr" = some none)
    (z12 : PySem.W.nsIn K mainGlobals "zip" = some none)
    (z13 : PySem.W.nsIn K mainGlobals "tuple" = some none)
    (z14 : PySem.W.nsIn K mainGlobals "all" = some none)
    (z15 : PySem.W.nsIn K mainGlobals "sorted" = some none)
    (z16 : PySem.W.nsIn K mainGlobals "dict" = some none)
    : ∃ fd : FuncData, (∀ (s : Shared) (v : Value), BindsTo s fd ⟨[v], []⟩ [("_law_script", v)]) ∧ ∀ base : Heap, K.In base → base.Ns mainGlobals mg → FnG P w K mg base CX0 8 fa fd ["_law_script"] (spLaw K) := by
  have e := hfa.symm.trans (PySem.W.mg_of X G a20)
  cases e
  have F0 := fun_mk (st := sIsNumber) l0 c0 k0
  have D0 : Dn K mg "is_number" sIsNumber ["value", "low", "high"] f0 _ := ⟨F0, PySem.W.mg_of X G a0, F0.binds (ps := ["value", "low", "high"]) fun _ _ _ _ _ _ us hl => match us, hl with | [_, _, _], _ => rfl⟩
  have F1 := fun_mk (st := sAreNumbersBelow) l1 c1 k1
  have D1 : Dn K mg "are_numbers_below" sAreNumbersBelow ["value", "bound"] f1 _ := ⟨F1, PySem.W.mg_of X G a1, F1.binds (ps := ["value", "bound"]) fun _ _ _ _ _ _ us hl => match us, hl with | [_, _], _ => rfl⟩
  have F2 := fun_mk (st := sAreAscending) l2 c2 k2
  have D2 : Dn K mg "are_ascending" sAreAscending ["parts"] f2 _ := ⟨F2, PySem.W.mg_of X G a2, F2.binds (ps := ["parts"]) fun _ _ _ _ _ _ us hl => match us, hl with | [_], _ => rfl⟩
  have F3 := fun_mk (st := sIsName) l3 c3 k3
  have D3 : Dn K mg "is_name" sIsName ["value"] f3 _ := ⟨F3, PySem.W.mg_of X G a3, F3.binds (ps := ["value"]) fun _ _ _ _ _ _ us hl => match us, hl with | [_], _ => rfl⟩
  have F4 := fun_mk (st := sAreToldLines) l4 c4 k4
  have D4 : Dn K mg "_are_told_lines" sAreToldLines ["value"] f4 _ := ⟨F4, PySem.W.mg_of X G a4, F4.binds (ps := ["value"]) fun _ _ _ _ _ _ us hl => match us, hl with | [_], _ => rfl⟩
  have F5 := fun_mk (st := sIsPromise) l5 c5 k5
  have D5 : Dn K mg "is_promise" sIsPromise ["value"] f5 _ := ⟨F5, PySem.W.mg_of X G a5, F5.binds (ps := ["value"]) fun _ _ _ _ _ _ us hl => match us, hl with | [_], _ => rfl⟩
  have F6 := fun_mk (st := sCheckPromise) l6 c6 k6
  have D6 : Dn K mg "check_promise" sCheckPromise ["promise"] f6 _ := ⟨F6, PySem.W.mg_of X G a6, F6.binds (ps := ["promise"]) fun _ _ _ _ _ _ us hl => match us, hl with | [_], _ => rfl⟩
  have F7 := fun_mk (st := sNamesOf) l7 c7 k7
  have D7 : Dn K mg "names_of" sNamesOf ["promise"] f7 _ := ⟨F7, PySem.W.mg_of X G a7, F7.binds (ps := ["promise"]) fun _ _ _ _ _ _ us hl => match us, hl with | [_], _ => rfl⟩
  have F8 := fun_mk (st := sLbag) l8 c8 k8
  have D8 : Dn K mg "_law_bag" sLbag ["_law_script", "_law_at"] f8 _ := ⟨F8, PySem.W.mg_of X G a8, F8.binds (ps := ["_law_script", "_law_at"]) fun _ _ _ _ _ _ us hl => match us, hl with | [_, _], _ => rfl⟩
  have F9 := fun_mk (st := sLdraw) l9 c9 k9
  have D9 : Dn K mg "_law_draw" sLdraw ["_law_bag_here", "_law_total"] f9 _ := ⟨F9, PySem.W.mg_of X G a9, F9.binds (ps := ["_law_bag_here", "_law_total"]) fun _ _ _ _ _ _ us hl => match us, hl with | [_, _], _ => rfl⟩
  have F10 := fun_mk (st := sLoneOf) l10 c10 k10
  have D10 : Dn K mg "_law_one_of" sLoneOf ["_law_bag_here", "_law_items"] f10 _ := ⟨F10, PySem.W.mg_of X G a10, F10.binds (ps := ["_law_bag_here", "_law_items"]) fun _ _ _ _ _ _ us hl => match us, hl with | [_, _], _ => rfl⟩
  have F11 := fun_mk (st := sLodd) l11 c11 k11
  have D11 : Dn K mg "_law_odd" sLodd ["_law_bag_here"] f11 _ := ⟨F11, PySem.W.mg_of X G a11, F11.binds (ps := ["_law_bag_here"]) fun _ _ _ _ _ _ us hl => match us, hl with | [_], _ => rfl⟩
  have F12 := fun_mk (st := sLspoiled) l12 c12 k12
  have D12 : Dn K mg "_law_spoiled" sLspoiled ["_law_bag_here", "_law_value", "_law_deep"] f12 _ := ⟨F12, PySem.W.mg_of X G a12, F12.binds (ps := ["_law_bag_here", "_law_value", "_law_deep"]) fun _ _ _ _ _ _ us hl => match us, hl with | [_, _, _], _ => rfl⟩
  have F13 := fun_mk (st := sLisNamed) l13 c13 k13
  have D13 : Dn K mg "_law_is_named" sLisNamed ["_law_value"] f13 _ := ⟨F13, PySem.W.mg_of X G a13, F13.binds (ps := ["_law_value"]) fun _ _ _ _ _ _ us hl => match us, hl with | [_], _ => rfl⟩
  have F14 := fun_mk (st := sLisNumber) l14 c14 k14
  have D14 : Dn K mg "_law_is_number" sLisNumber ["_law_value", "_law_high"] f14 _ := ⟨F14, PySem.W.mg_of X G a14, F14.binds (ps := ["_law_value", "_law_high"]) fun _ _ _ _ _ _ us hl => match us, hl with | [_, _], _ => rfl⟩
  have F15 := fun_mk (st := sLareLines) l15 c15 k15
  have D15 : Dn K mg "_law_are_lines" sLareLines ["_law_value"] f15 _ := ⟨F15, PySem.W.mg_of X G a15, F15.binds (ps := ["_law_value"]) fun _ _ _ _ _ _ us hl => match us, hl with | [_], _ => rfl⟩
  have F16 := fun_mk (st := sLisTold) l16 c16 k16
  have D16 : Dn K mg "_law_is_told" sLisTold ["_law_value"] f16 _ := ⟨F16, PySem.W.mg_of X G a16, F16.binds (ps := ["_law_value"]) fun _ _ _ _ _ _ us hl => match us, hl with | [_], _ => rfl⟩
  have F17 := fun_mk (st := sLname) l17 c17 k17
  have D17 : Dn K mg "_law_name" sLname ["_law_bag_here"] f17 _ := ⟨F17, PySem.W.mg_of X G a17, F17.binds (ps := ["_law_bag_here"]) fun _ _ _ _ _ _ us hl => match us, hl with | [_], _ => rfl⟩
  have F18 := fun_mk (st := sLanyPromise) l18 c18 k18
  have D18 : Dn K mg "_law_any_promise" sLanyPromise ["_law_bag_here"] f18 _ := ⟨F18, PySem.W.mg_of X G a18, F18.binds (ps := ["_law_bag_here"]) fun _ _ _ _ _ _ us hl => match us, hl with | [_], _ => rfl⟩
  have F19 := fun_mk (st := sLisRight) l19 c19 k19
  have D19 : Dn K mg "_law_is_right" sLisRight ["_law_value"] f19 _ := ⟨F19, PySem.W.mg_of X G a19, F19.binds (ps := ["_law_value"]) fun _ _ _ _ _ _ us hl => match us, hl with | [_], _ => rfl⟩
  have F20 := fun_mk (st := sLaw) l20 c20 k20
  have D20 : Dn K mg "law" sLaw ["_law_script"] _ _ := ⟨F20, PySem.W.mg_of X G a20, F20.binds (ps := ["_law_script"]) fun _ _ _ _ _ _ us hl => match us, hl with | [_], _ => rfl⟩
  have OP : OwnE K mg "InvalidPromise" CP := ⟨PySem.W.mg_of X G aP, xP, kP, eP, tP⟩
  have T : Bx mg := ⟨PySem.W.mg_none_of X G z0, PySem.W.mg_none_of X G z1, PySem.W.mg_none_of X G z2, PySem.W.mg_none_of X G z3, PySem.W.mg_none_of X G z4, PySem.W.mg_none_of X G z5, PySem.W.mg_none_of X G z6, PySem.W.mg_none_of X G z7, PySem.W.mg_none_of X G z8, PySem.W.mg_none_of X G z9, PySem.W.mg_none_of X G z10, PySem.W.mg_none_of X G z11, PySem.W.mg_none_of X G z12⟩
  have U : By mg := ⟨PySem.W.mg_none_of X G z13, PySem.W.mg_none_of X G z14, PySem.W.mg_none_of X G z15, PySem.W.mg_none_of X G z16⟩
  have S : Ds K mg f0 f1 f2 f3 f4 _ _ _ _ _ := ⟨D0, D1, D2, D3, D4, ⟨t1, PySem.W.mg_of X G aN1⟩, ⟨t2, PySem.W.mg_of X G aN2⟩, ⟨t3, PySem.W.mg_of X G aN3⟩, ⟨t4, PySem.W.mg_of X G aN4⟩, ⟨t5, PySem.W.mg_of X G aN5⟩⟩
  have eC := exm_of eP qP tP sP
  exact ⟨PySem.W.fnOf "law" "law" (defArgs sLaw) (defBody sLaw) (defScope sLaw) .none kV20 dc20 pm20 an20 cd20 ct20, fun s v => .of_eq rfl, fun base _ _ => FnG.ofOk (okLaw D20 D5 D6 D7 D14 D13 D15 D16 D8 D9 D10 D11 D12 D17 D18 D19 S T U OP eC)⟩
end K66

open PySem PySem.W PyProof.Rows
set_option maxRecDepth 100000 in
set_option maxHeartbeats 0 in
theorem PySem.Challenge.cw_mayrows_k66_whole_promises_and_names_holds : PySem.Challenge.rw_mayrows_k66_whole_promises_and_names.Holds := by
  w_on; o_law; k_head; (case hw => w_witness2)
  k_fill
  refine Ks.walk_ofG (l := PySem.Challenge.rw_mayrows_k66_whole_promises_and_names) (n := 63) (k := 8) (x := "_law_script") (CX := fun _ => L2.CX0) (sp := fun w => K66.spLaw _) rfl (by decide) rfl ⟨rfl, by decide, by decide⟩ (fun w h Y => PySem.W.kIn_of Y) ?F (fun _ _ a ns hl _ hS => ⟨a, ns, rfl, hS, fun _ => rfl⟩) (fun _ _ _ _ _ h => h)
  case F =>
    intro w mg fa h KX G hmg
    refine' K66.all_mk KX G hmg ?aP ?xP ?kP ?eP ?tP ?qP ?sP ?aN1 ?aN2 ?aN3 ?aN4 ?aN5 ?a0 ?l0 ?c0 ?k0 ?a1 ?l1 ?c1 ?k1 ?a2 ?l2 ?c2 ?k2 ?a3 ?l3 ?c3 ?k3 ?a4 ?l4 ?c4 ?k4 ?a5 ?l5 ?c5 ?k5 ?a6 ?l6 ?c6 ?k6 ?a7 ?l7 ?c7 ?k7 ?a8 ?l8 ?c8 ?k8 ?a9 ?l9 ?c9 ?k9 ?a10 ?l10 ?c10 ?k10 ?a11 ?l11 ?c11 ?k11 ?a12 ?l12 ?c12 ?k12 ?a13 ?l13 ?c13 ?k13 ?a14 ?l14 ?c14 ?k14 ?a15 ?l15 ?c15 ?k15 ?a16 ?l16 ?c16 ?k16 ?a17 ?l17 ?c17 ?k17 ?a18 ?l18 ?c18 ?k18 ?a19 ?l19 ?c19 ?k19 ?a20 ?l20 ?c20 ?k20 ?z0 ?z1 ?z2 ?z3 ?z4 ?z5 ?z6 ?z7 ?z8 ?z9 ?z10 ?z11 ?z12 ?z13 ?z14 ?z15 ?z16
    (case aP => k_is)
    (case xP => k_exc)
    (case kP => k_is)
    (case eP => k_is)
    (case tP => k_is)
    (case qP => k_is)
    (case sP => k_is)
    (case aN1 => k_is)
    (case aN2 => k_is)
    (case aN3 => k_is)
    (case aN4 => k_is)
    (case aN5 => k_is)
    (case a0 => k_is)
    (case l0 => k_is)
    (case c0 => k_is)
    (case k0 => k_is)
    (case a1 => k_is)
    (case l1 => k_is)
    (case c1 => k_is)
    (case k1 => k_is)
    (case a2 => k_is)
    (case l2 => k_is)
    (case c2 => k_is)
    (case k2 => k_is)
    (case a3 => k_is)
    (case l3 => k_is)
    (case c3 => k_is)
    (case k3 => k_is)
    (case a4 => k_is)
    (case l4 => k_is)
    (case c4 => k_is)
    (case k4 => k_is)
    (case a5 => k_is)
    (case l5 => k_is)
    (case c5 => k_is)
    (case k5 => k_is)
    (case a6 => k_is)
    (case l6 => k_is)
    (case c6 => k_is)
    (case k6 => k_is)
    (case a7 => k_is)
    (case l7 => k_is)
    (case c7 => k_is)
    (case k7 => k_is)
    (case a8 => k_is)
    (case l8 => k_is)
    (case c8 => k_is)
    (case k8 => k_is)
    (case a9 => k_is)
    (case l9 => k_is)
    (case c9 => k_is)
    (case k9 => k_is)
    (case a10 => k_is)
    (case l10 => k_is)
    (case c10 => k_is)
    (case k10 => k_is)
    (case a11 => k_is)
    (case l11 => k_is)
    (case c11 => k_is)
    (case k11 => k_is)
    (case a12 => k_is)
    (case l12 => k_is)
    (case c12 => k_is)
    (case k12 => k_is)
    (case a13 => k_is)
    (case l13 => k_is)
    (case c13 => k_is)
    (case k13 => k_is)
    (case a14 => k_is)
    (case l14 => k_is)
    (case c14 => k_is)
    (case k14 => k_is)
    (case a15 => k_is)
    (case l15 => k_is)
    (case c15 => k_is)
    (case k15 => k_is)
    (case a16 => k_is)
    (case l16 => k_is)
    (case c16 => k_is)
    (case k16 => k_is)
    (case a17 => k_is)
    (case l17 => k_is)
    (case c17 => k_is)
    (case k17 => k_is)
    (case a18 => k_is)
    (case l18 => k_is)
    (case c18 => k_is)
    (case k18 => k_is)
    (case a19 => k_is)
    (case l19 => k_is)
    (case c19 => k_is)
    (case k19 => k_is)
    (case a20 => k_is)
    (case l20 => k_is)
    (case c20 => k_is)
    (case k20 => k_is)
    (case z0 => k_is)
    (case z1 => k_is)
    (case z2 => k_is)
    (case z3 => k_is)
    (case z4 => k_is)
    (case z5 => k_is)
    (case z6 => k_is)
    (case z7 => k_is)
    (case z8 => k_is)
    (case z9 => k_is)
    (case z10 => k_is)
    (case z11 => k_is)
    (case z12 => k_is)
    (case z13 => k_is)
    (case z14 => k_is)
    (case z15 => k_is)
    (case z16 => k_is)
