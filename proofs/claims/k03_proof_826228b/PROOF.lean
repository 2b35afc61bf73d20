import PyProof.Rows.All
import Wide.All
import OpenK.AllK
import Wide.FinOn
import HandS.ExcInit
import HandS.ExcField
import HandS.ForExc
import KE.KExcInit
import HandS.TryMany
import PyProof.ReprReads
import PyProof.ReprRoads
import PyProof.CallFns
import HandS.Ends
import HandS.ForMost
import HandS.IsInst
import HandS.Wide
import HandS.StrMore
import HandS.Star
import HandS.Style
import Wide.Txt
import KE.GoesNew
import KE.GoesEnum
import HandS.Walk
import KE.LtData
import HandS.GenList
import KE.IntTextLaws
import HandS.Lambda
import HandS.WordsList
import PyProof.StrBlock2
import PySem.Challenge.RW_mayrows_k03_errors_of_texts
set_option Elab.async false
set_option linter.all false
set_option maxRecDepth 100000
set_option maxHeartbeats 4000000
/-! Own exception classes over any built-in base, whose __init__ keeps one value. -/
namespace Ks
open PySem PySem.Spec PyProof.Rows L2
open PySem.W (excOver takerIn excTail osa_openX)

/-- what is known of such a class -/
structure ECls (K : PySem.W.Frag) (C : Addr) (B : String) (bmB : List Value) (newId initId : String) : Prop where
  made : ∃ nm q N bs bm sn sub ab col dd k0 k1 k2 k3 k5, K.lookup C = some (excClassObj nm q C N bs bm true sn sub ab col dd k0 k1 k2 k3 k5 newId) ∧ excTail bmB bm = true
  fc : ExcBaseFacts B newId initId bmB
  fs : StoreFacts B bmB "object.__setattr__" "object"
  sa : PySem.W.findIn K (.ref C) "__setattr__" = some (some (.builtin "object.__setattr__"))
  eb : PySem.W.subIn K (.ref C) (.type "BaseException") = some true
  ty : PySem.W.typeIn K (.ref C) = some (.type "type")
  kp : PySem.W.keepIn K (.ref C) = true
  hd : PySem.W.hasDictIn K C = true

theorem ECls.over {K : PySem.W.Frag} {C : Addr} {B : String} {bmB : List Value} {newId initId : String} (T : ECls K C B bmB newId initId) : excOver K C bmB = true := by
  obtain ⟨nm, q, N, bs, bm, sn, sub, ab, col, dd, k0, k1, k2, k3, k5, hC, ht⟩ := T.made
  unfold excOver PySem.W.clsIn
  rw [hC]
  show (C == C && excTail bmB bm) = true
  rw [ht, Bool.and_true]
  exact beq_self_eq_true C

theorem taker_none {K : PySem.W.Frag} {C : Addr} {f : Str} (h : PySem.W.findIn K (.ref C) f = some none) : takerIn K C f = some none := by
  unfold takerIn
  rw [h]
  rfl

section
variable {prog : Program} {w : World} {A : Around} {R : Result → Shared → Prop} {s : Shared} {K : PySem.W.Frag} {C x t : Addr} {B newId initId : String} {bmB : List Value}
/-- the first field of a fresh exception -/
theorem first_field {name : Str} {tk : Tok} {v : Value} (T : ECls K C B bmB newId initId) (X : K.In s.heap) (hx : s.heap.get? x = some (PySem.W.excObj C t none .none)) (hf : PySem.W.findIn K (.ref C) name = some none)
    (hq : ∀ h' tk' dx, (∀ b o, b ≠ x → s.heap.get? b = some o → h'.get? b = some o) → s.heap.objs.size ≤ dx → dx ≠ x → h'.get? x = some (PySem.W.excObj C t (some dx) .none) →
      h'.Ns1 dx (fun y => if y = name then some v else none) → R (.ok (.ret .none)) { s with heap := h', toks := tk' }) :
    codeAny (model prog w) A (.call (.builtin "object.__setattr__") ⟨[.ref x, .str name tk, v], []⟩) R s := by
  have lt := Heap.lt_size hx
  have ne : x ≠ s.heap.objs.size := Nat.ne_of_lt lt
  refine osa_openX (od := none) (r := none) T.fs X ⟨hx, rfl, rfl, trivial⟩ T.over (taker_none hf) fun b => ?_
  obtain ⟨cd, hc, hd'⟩ := PySem.W.any_some T.hd
  refine wpAny_bind (wpAny_pure (wpAny_bind (PySem.W.instanceDict_exc hx (PySem.W.looks_clsIn X hc) hd' ?_)))
  show wpAny _ _ (Builtin.ObjectAttr.storeInDict s.heap.objs.size (.str name tk) name v) _ _ _
  have hx1 : (s.heap.push (PySem.W.dictOf [] 0)).get? x = some (PySem.W.excObj C t none .none) := Heap.get?_push_of_some _ hx
  have hx2 : ((s.heap.push (PySem.W.dictOf [] 0)).update x fun o => { o with dict := some s.heap.objs.size }).get? x = some (PySem.W.excObj C t (some s.heap.objs.size) .none) := Heap.get?_update_self _ hx1 rfl
  refine HandSPX.store_in_new ?_ ?_
  · refine ⟨_, #[], _, (Heap.get?_update_ne _ _ _ _ (Ne.symm ne)).trans (Heap.get?_push_size _ rfl), rfl, ?_⟩
    exact ⟨fun e he => absurd he (by simp), fun _ => rfl⟩
  · intro h' tk' hn sb
    refine hq h' tk' s.heap.objs.size (fun b o hb ho => ?_) (Nat.le_refl _) (Ne.symm ne) ((sb.2 x ne).trans hx2) hn
    have hbs : b ≠ s.heap.objs.size := Nat.ne_of_lt (Heap.lt_size ho)
    exact (sb.2 b hbs).trans ((Heap.get?_update_ne _ _ _ _ hb).trans (Heap.get?_push_of_some _ ho))
end
end Ks

namespace Ks
open PySem PySem.Spec L2
open PyProof.Rows hiding St

section
variable {X : Cx} {C : Addr} {B newId initId : String} {bmB : List Value} {f : Str}
/-- self.f = e within such an __init__ -/
def tKeep (C : Addr) (f : Str) (to te : TE) : TS := fun D σ H => te σ H fun y H1 => to σ H1 fun x H2 => ∃ a, x = .ref a ∧ H2 a = some (exo a C none) ∧
  ∀ dx, H2 dx = none → dx ≠ a → D.nx σ (upd (upd H2 dx (exd dx [(f, y)])) a (exo a C (some dx)))

theorem keep_inv {pins : List (Addr × Obj)} {σ : St} {H : Hp} {s : Shared} {a : Addr} {y : V} {u : Value} {Q : Unit → Shared → Prop} {E : Value → Shared → Prop} {A : Around} (T : ECls X.K C B bmB newId initId) (I : Inv X pins σ H s)
    (ea : H a = some (exo a C none)) (hno : PySem.W.findIn X.K (.ref C) f = some none) (ry : RelV y u)
    (go : ∀ dx s', H dx = none → dx ≠ a → Inv X pins σ (upd (upd H dx (exd dx [(f, y)])) a (exo a C (some dx))) s' → Q () s') :
    wpAny (model X.prog X.w) A (setAttr (.ref a) f u) Q E s := by
  obtain ⟨t1, ho⟩ := exo_at I.hok ea
  refine PySem.W.set_plain I.kIn (ox := PySem.W.excObj C t1 none .none) (od := none) ⟨ho, rfl, rfl, trivial⟩ T.sa ?_
  refine first_field T I.kIn ho hno (fun h' tk dx keep fresh ne ex ns => ?_)
  have free := I.hok.fresh fresh
  have old : ∀ {b : Addr} {o : Obj}, s.heap.get? b = some o → b ≠ dx := fun {b o} q => Nat.ne_of_lt (Nat.lt_of_lt_of_le (Heap.lt_size q) fresh)
  have off : ∀ {b : Addr}, H b = none → b ≠ a := fun {b} n z => by
    subst z
    rw [ea] at n
    exact nomatch n
  have U : Un X.fs [] H (upd (upd H dx (exd dx [(f, y)])) a (exo a C (some dx))) s.heap h' := by
    refine ⟨fun b o q n _ _ => keep b o (off n) q, fun b o q n _ _ => ⟨o.slots, keep b o (off n) q⟩, fun b o q n _ => ?_, fun b o q _ => ?_, fun b xs q => ?_, fun b o v q => ?_, fun b ps q => ?_⟩
    · rw [upd_ne (off n), upd_ne (old q)]
      exact n
    · by_cases hb : b = a
      · subst hb
        exact ⟨_, ex⟩
      · exact ⟨o, keep b o hb q⟩
    · rw [upd_ne (at_ne ea q exo_tup), upd_ne (ne_of_none q free)]
      exact q
    · rw [upd_ne (at_ne ea q exo_frz), upd_ne (ne_of_none q free)]
      exact q
    · refine ⟨#[], ?_⟩
      rw [upd_ne (at_ne ea q exo_tbl), upd_ne (ne_of_none q free), q]
      simp
  refine go dx _ free ne (I.un (t' := tk) U fun b o q => ?_)
  by_cases hb : b = a
  · subst hb
    rw [upd_same] at q
    cases q
    exact exo_ok ex
  · rw [upd_ne hb] at q
    by_cases hd : b = dx
    · subst hd
      rw [upd_same] at q
      cases q
      exact exd_ok ns (relO_put (fs := []) ry fun _ => True.intro)
    · rw [upd_ne hd] at q
      have na : ∀ {c : Addr}, H c = some (.own b) → c ≠ a := fun {c} hc => at_ne ea hc exo_own
      refine (I.hok b o q).stay (fun c v hc z => keep c v ?_ z) (fun c hc => ?_) (fun c xs hc => ?_)
      · rcases hc with rfl | hc
        · exact hb
        · exact na hc
      · rw [upd_ne (na hc), upd_ne (ne_of_none hc free)]
        exact hc
      · rw [upd_ne (at_ne ea hc exo_tup), upd_ne (ne_of_none hc free)]
        exact hc

theorem ps_keep {o e : Expr} {to te : TE} {p' pos : Pos} (T : ECls X.K C B bmB newId initId) (hno : PySem.W.findIn X.K (.ref C) f = some none) (ho : PE X o to) (he : PE X e te)
    (hs : swapsWith e (some (.Attribute o f p')) pos.line X.env = pure false := by rfl) : PS X (.Assign [.Attribute o f p'] e pos) (tKeep C f to te) := by
  constructor
  intro pins s σ H D I h
  refine plainObj_wpAny_Assign_Attribute (thn (he.run pins s σ H _ I h) ?_) hs
  rintro v s1 ⟨y, H1, I1, r1, q1⟩
  refine thn (ho.run pins s1 σ H1 _ I1 q1) ?_
  rintro u s2 ⟨x, H2, I2, r2, a, ex, ea, q⟩
  subst ex
  cases (show u = Value.ref a from r2)
  exact keep_inv T I2 ea hno r1 fun dx s' n ne J => ⟨σ, _, J, q dx n ne⟩

/-- the promise of such an __init__ -/
def spKeep (C : Addr) (f : Str) : Sp := fun vs H Q _ => ∃ a y, vs = [.ref a, y] ∧ H a = some (exo a C none) ∧ ∀ dx, H dx = none → dx ≠ a → Q .non (upd (upd H dx (exd dx [(f, y)])) a (exo a C (some dx)))

/-- C(e): an exception that keeps e's value -/
def tMade (C : Addr) (f : Str) (ta : TA) : St → Hp → XK → Prop := fun σ H Q => ta σ H fun vs H1 => ∃ y, vs = [y] ∧ ∀ d, H1 d = none → Q (.ref C) (some d) (upd H1 d (.xd [(f, y)]))

theorem gone_eq {H : Hp} {a d : Addr} {u v w : HO} {z : HO} (ha : H a = none) (hd : d ≠ a) : upd (del (upd (upd (upd H a z) d u) a v) a) d w = upd H d w := by
  funext b
  by_cases h1 : b = d
  · rw [h1, upd_same, upd_same]
  · rw [upd_ne h1, upd_ne h1]
    by_cases h2 : b = a
    · rw [h2, del_same, ha]
    · rw [del_ne h2, upd_ne h2, upd_ne h1, upd_ne h2]

theorem pmk_keep {CX : CXT} {x : Str} {fI : Addr} {k : Nat} {fd : FuncData} {ps : List Str} {e : Expr} {ta : TA} {p pos : Pos} (T : ECls X.K C B bmB newId initId) (iC : PySem.W.findIn X.K (.ref C) "__init__" = some (some (.ref fI)))
    (tI : PySem.W.typeIn X.K (.ref fI) = some (.type "function")) (F1 : FnOk X.prog X.w X.K X.mg X.base CX k fI fd ps (spKeep C f)) (hr : Room (k + 1) X.A) (hb : Binds X.K fd ps []) (hx : Passes CX X (fun _ _ _ => False))
    (hg : Gl X x) (hm : X.mg x = some (.ref C)) (ha : PA X [e] ta) (hdb : (x == ("__debug__" : Str)) = false := by decide)
    (hst : starEach [e] X.env = (false, eval e X.env) :: starEach [] X.env := by rfl) (hpl : (backTo pos (starEach [] X.env)).any (·.1) = false := by rfl) :
    PMk X (.Call (.Name x p) [e] [] pos) (tMade C f ta) := by
  intro pins s σ H Q I h
  obtain ⟨nm, q, N, bs, bm, sn, sub, ab, col, dd, k0, k1, k2, k3, k5, hC, ht⟩ := T.made
  have hT : ∀ Y : String, bm.contains (.type Y) = bmB.contains (.type Y) := fun Y => PySem.W.excTail_contains Y bm ht
  refine wpAny_Call_Name_kw (ld_glob I hg hm ?_ hdb)
  refine PySem.W.callWith_K (h₀ := X.base) I.ok.mod.kin T.kp (thn (ha.run pos pins s σ H _ I h) ?_) hst hpl
  rintro us s1 ⟨vs, H1, I1, r1, y, ev, q1⟩
  subst ev
  refine ⟨I1.kIn, ?_⟩
  show wpAny _ _ (call (.ref C) us) _ _ _
  obtain ⟨hp, g, dr, tk, os⟩ := s1
  have sz : hp.objs.size ≤ hp.objs.size + 1 := Nat.le_succ _
  have hn : H1 (hp.objs.size + 1) = none := I1.hok.fresh sz
  have kk : ∀ b o, hp.get? b = some o → ((hp.push (PySem.W.kdv_tup us)).push (HandSPX.excO C hp.objs.size)).get? b = some o := fun b o e => Heap.get?_push_of_some _ (Heap.get?_push_of_some _ e)
  have at1 : ((hp.push (PySem.W.kdv_tup us)).push (HandSPX.excO C hp.objs.size)).get? (hp.objs.size + 1) = some (HandSPX.excO C hp.objs.size) := by heap_get
  have I2 := I1.laid (t' := tk) (a := hp.objs.size + 1) (o := exo (hp.objs.size + 1) C none) (h' := (hp.push (PySem.W.kdv_tup us)).push (HandSPX.excO C hp.objs.size)) kk sz (exo_ok at1)
  have r2 : Vals [V.ref (hp.objs.size + 1), y] (Value.ref (hp.objs.size + 1) :: us) := .cons rfl r1
  have hsp : spKeep C f [V.ref (hp.objs.size + 1), y] (upd H1 (hp.objs.size + 1) (exo (hp.objs.size + 1) C none))
      (fun v H2 => v = .non ∧ ∃ d, H2 (hp.objs.size + 1) = some (exo (hp.objs.size + 1) C (some d)) ∧ H2 d = some (exd d [(f, y)]) ∧ H1 d = none ∧ Q (.ref C) (some d) (upd (del H2 (hp.objs.size + 1)) d (.xd [(f, y)]))) (fun _ _ _ => False) := by
    refine ⟨_, y, rfl, upd_same, fun d hd ne => ⟨rfl, d, upd_same, ?_, ?_, ?_⟩⟩
    · rw [upd_ne ne, upd_same]
    · rw [upd_ne ne] at hd
      exact hd
    · rw [gone_eq hn ne]
      refine q1 d ?_
      rw [upd_ne ne] at hd
      exact hd
  have hl : (Value.ref (hp.objs.size + 1) :: us).length = ps.length := by
    rw [← F1.len _ _ _ _ hsp, ← r2.length]
  have us1 : us.length ≤ sizeLine := by
    rw [← Paired.length r1, sizeLine_eq]
    exact (by decide : 1 ≤ 16777216)
  have bb := hb _ (Value.ref (hp.objs.size + 1) :: us) I2.kIn (by rw [List.append_nil]; exact hl)
  rw [List.append_nil] at bb
  refine wpAny_call (HandSPX.call_own T.fc hT (I1.kIn _ _ hC) (PySem.W.looks_findIn I1.kIn iC) (fun self => PySem.W.bind_fn I1.kIn self tI) us1
    (codeAny_mono (F1.run _ X.stack _ _ ⟨Value.ref (hp.objs.size + 1) :: us, []⟩ (Value.ref (hp.objs.size + 1) :: us) _ _ (fun _ _ _ => False) (hr.make C us []) (I2.env0.make C us []) bb r2 hsp) fun r s' hq => ?_))
  cases r with
  | error er => exact hx pins σ _ _ er s' I2 hq
  | ok fl =>
    cases fl with
    | next => exact hq.elim
    | brk => exact hq.elim
    | cont => exact hq.elim
    | ret u =>
      obtain ⟨v, H2, o2, b2, un2, hok2, rv, ev, d, ea, ed, hd1, q2⟩ := hq
      subst ev
      obtain ⟨h2, g2, d2, t2, o3⟩ := s'
      exact ⟨rv, mk_end (raises_own T.eb T.ty) I1 sz kk un2 hok2 o2 b2 ea ed hd1 q2⟩
end
end Ks

/-! try with several clauses, each with a name or without one. -/
namespace Ks
open PySem PySem.Spec L2
open PyProof.Rows hiding St

/-- behind a clause with a name the slot is empty -/
def endsAs (i : Nat) (D : Ends) : Ends := { nx := fun σ' H' => D.nx (σ'.set i none) H', rt := D.rt, bk := fun σ' H' => D.bk (σ'.set i none) H', ct := fun σ' H' => D.ct (σ'.set i none) H' }
/-- a clause: its class, the slot of its name, its suite -/
structure Clause where
  cls : Value
  slot : Option Nat
  suite : Addr → Value → Option Addr → TS
def Clause.wish (k : Clause) (a : Addr) (cls : Value) (d : Option Addr) (D : Ends) (σ : St) (H : Hp) : Prop := match k.slot with
  | none => k.suite a cls d D σ H
  | some i => k.suite a cls d (endsAs i D) (σ.set i (some (.ref a))) H
def wCatch (K : PySem.W.Frag) (Wout : WX) (D : Ends) : List Clause → WX
  | [] => Wout
  | k :: r => fun cls d σ H => ∃ b, PySem.W.exmOne K cls k.cls = some b ∧ (b = true → ∀ a, H a = none → k.wish a cls d D σ H) ∧ (b = false → wCatch K Wout D r cls d σ H)

inductive ClausesOk (X : Cx) : List ExceptHandler → List Clause → Prop
  | nil : ClausesOk X [] []
  | bare {x : Str} {c : Value} {ts : Addr → Value → Option Addr → TS} {b : Stmt} {bs : List Stmt} {np pp : Pos} {hs : List ExceptHandler} {l : List Clause} (nm : Names X x c)
      (su : ∀ (a : Addr) (oe : Obj) (cls : Value) (d : Option Addr) (pn : List (Addr × Obj)), Zc cls d oe → (∃ vs, oe.data = .fields vs) → PSs (X.suite a ((a, oe) :: pn)) (b :: bs) (ts a cls d))
      (more : ClausesOk X hs l) : ClausesOk X (.ExceptHandler (some (.Name x np)) none (b :: bs) pp :: hs) (⟨c, none, ts⟩ :: l)
  | named {x n : Str} {i : Nat} {c : Value} {ts : Addr → Value → Option Addr → TS} {b : Stmt} {bs : List Stmt} {np pp : Pos} {hs : List ExceptHandler} {l : List Clause} (nm : Names X x c)
      (hi : X.N[i]? = some n) (loc : X.env.kindOf n = some .local)
      (su : ∀ (a : Addr) (oe : Obj) (cls : Value) (d : Option Addr) (pn : List (Addr × Obj)), Zc cls d oe → (∃ vs, oe.data = .fields vs) → PSs (X.suite a ((a, oe) :: pn)) (b :: bs) (ts a cls d))
      (more : ClausesOk X hs l) : ClausesOk X (.ExceptHandler (some (.Name x np)) (some n) (b :: bs) pp :: hs) (⟨c, some i, ts⟩ :: l)

section
variable {X : Cx} {body : List Stmt} {h0 : ExceptHandler} {hr : List ExceptHandler} {l : List Clause} {pos : Pos} {tb : WX → TS} {Wout : WX}
theorem ps_catch (stk : X.stack = X.env :: X.outer) (fra : X.env.frame = some X.env.locals) (nd : X.N.Nodup) (tk : Takes X Wout)
    (hb : ∀ (W : WX) (pn : List (Addr × Obj)) (xe : Value → Shared → Prop), Takes (X.tr pn xe) W → PassesOwn (model X.prog X.w) X.A X.env xe → PSs (X.tr pn xe) body (tb W))
    (hk : ClausesOk X (h0 :: hr) l) : PS X (.Try body (h0 :: hr) [] [] pos) (fun D σ H => tb (wCatch X.K Wout D l) D σ H) := by
  constructor
  intro pins s σ H D I h
  have ok := I.ok
  have frs1 : X.A.frames = some (X.env :: X.outer) := by rw [ok.frames, stk]
  refine wpAny_Try_except ?_
  let xe1 : Value → Shared → Prop := fun e z1 => wpAny (model X.prog X.w) X.A (noteFrame e X.env) (fun _ z2 => wpAny (model X.prog X.w) X.A (setFlight e none) (fun _ z3 =>
    wpAny (model X.prog X.w) X.A (handleBy e X.env (h0 :: hr)) (SP X pins D) X.xe z3) X.xe z2) X.xe z1
  refine wpAny_mono ((hb (wCatch X.K Wout D l) (X.pn ++ pins) xe1 ?_ PassesOwn.looking).run [] s σ H D (I.toTry _) h) (fun f s1 hsp => ?_) (fun _ _ he => he)
  · intro u s' xx
    obtain ⟨a, B0, sI, pins1, σ1, H1, cls, d, rfl, J0, nb, up, sky, na, os, ag, w⟩ := xx
    have J : Inv X pins σ1 H1 sI := J0.ofTry ok
    rw [show (X.tr (X.pn ++ pins) xe1).stack = X.env :: X.outer from stk] at sky
    show wpAny (model X.prog X.w) X.A (noteFrame (.ref a) X.env) _ _ _
    refine Sky.land Zc.steady frs1 fra sky fun h3 fl3 up3 => ?_
    have J3 : Inv X pins σ1 H1 { s' with heap := h3 } := J.landed nb fl3.1 (up.trans up3) os ag
    obtain ⟨oe3, vs3, he3, hz3, hd3⟩ := fl3.there
    have notIn : a ∉ X.env.locals :: X.fs := fun hm => by
      have hm2 : a ∈ frs (X.env :: X.outer) := by
        unfold frs
        rw [List.filterMap_cons, fra]
        exact hm
      obtain ⟨_, o1, e1, hnf⟩ := fl3.2.2.1.mem hm2
      rw [he3] at e1
      cases e1
      exact hnf _ hd3
    have nL : a ≠ X.env.locals := fun z => notIn (z ▸ List.mem_cons_self)
    have nF : a ∉ X.fs := fun z => notIn (List.mem_cons_of_mem _ z)
    have S3 := J3.suite he3 hd3 na nL nF
    have LT : PySem.W.Looks (model X.prog X.w) h3 (typeOf (.ref a)) cls := fun A Q E s k q => wpAny_typeOf_ref (k _ _ he3) (by rw [hz3.1]; exact q)
    have named : ∀ {x : Str} {c : Value} {np : Pos} {Q : Value → Shared → Prop} {E : Value → Shared → Prop}, Names X x c → Q c { s' with heap := h3 } →
        wpAny (model X.prog X.w) (X.A.mark (some (.ref a))) (eval (.Name x np) X.env) Q E { s' with heap := h3 } := fun {x c np Q E} nm q => by
      obtain ⟨hg, hdbg, hm | ⟨hm, hv, hnn⟩⟩ := nm
      · exact ld_glob (X := X.suite a ((a, oe3) :: (X.pn ++ pins))) S3 hg hm q hdbg
      · exact ld_blt (X := X.suite a ((a, oe3) :: (X.pn ++ pins))) S3 hg hm hv q hnn hdbg
    have go : ∀ {hs2 : List ExceptHandler} {l2 : List Clause}, ClausesOk X hs2 l2 → wCatch X.K Wout D l2 cls d σ1 H1 →
        wpAny (model X.prog X.w) X.A (handleBy (.ref a) X.env hs2) (SP X pins D) X.xe { s' with heap := h3 } := by
      intro hs2 l2 hk2
      induction hk2 with
      | nil =>
        intro w
        refine wpAny_handleBy_nil ?_
        obtain ⟨_, _, _, oe, vs, T, oT, ts', he, hz, hd, h1, hrT⟩ := id fl3
        unfold PySem.passOn
        refine wpAny_bind (wpAny_field he hd h1 ?_)
        rw [if_neg (by simp)]
        have out : wpAny (model X.prog X.w) X.A (setFlight (.ref a) X.env.frame) (fun _ z4 => wpAny (model X.prog X.w) X.A (throw (.ref a) : Sem Flow) (SP X pins D) X.xe z4) X.xe { s' with heap := h3 } := by
          rw [fra]
          refine HandSPX.setFlight_upZ fl3 fun h4 hh4 up4 => wpAny_throw (tk _ _ ?_)
          exact ⟨a, B0, sI, pins, σ1, H1, cls, d, rfl, J, nb, (up.trans up3).trans up4, .inr (.inr (by rw [stk]; exact hh4)), na, os, ag, w⟩
        first
          | exact wpAny_bind (wpAny_pure (wpAny_bind out))
          | exact wpAny_bind out
      | @bare x c ts b bs np pp hs3 l3 nm su more ih =>
        intro w
        obtain ⟨t, ht, yes, no⟩ := w
        have LM := PySem.W.exm_one (M := model X.prog X.w) J3.kIn LT ht
        refine wpAny_handleBy_cons (codeAny_handlers_test (named nm (LM.here ?_))) (by intro q; cases q)
        cases t with
        | false =>
          show wpAny _ X.A (handleBy (.ref a) X.env hs3) _ _ _
          exact ih (no rfl)
        | true =>
          refine codeAny_handlers_suite ?_
          refine HandSPX.lands_againZ fl3 fun h4 fl4 up4 => ?_
          have J4 : Inv X pins σ1 H1 { s' with heap := h4 } := J.landed nb fl4.1 ((up.trans up3).trans up4) os ag
          obtain ⟨oe4, vs4, he4, hz4, hd4⟩ := fl4.there
          have S4 := J4.suite he4 hd4 na nL nF
          refine wpAny_mono ((su a oe4 cls d (X.pn ++ pins) hz4 ⟨_, hd4⟩).run [] _ _ H1 _ S4 (yes rfl a na)) (fun f s6 hsp => ?_) (fun _ _ z => z.elim)
          cases f with
          | next => exact hsp.elim fun σ6 z => z.elim fun H6 z => ⟨_, _, z.1.unsuite ok, z.2⟩
          | brk => exact hsp.elim fun σ6 z => z.elim fun H6 z => ⟨_, _, z.1.unsuite ok, z.2⟩
          | cont => exact hsp.elim fun σ6 z => z.elim fun H6 z => ⟨_, _, z.1.unsuite ok, z.2⟩
          | ret u => exact hsp.elim fun v6 z => z.elim fun σ6 z => z.elim fun H6 z => ⟨_, _, _, z.1.unsuite ok, z.2.1, z.2.2⟩
      | @named x n i c ts b bs np pp hs3 l3 nm hi loc su more ih =>
        intro w
        obtain ⟨t, ht, yes, no⟩ := w
        have LM := PySem.W.exm_one (M := model X.prog X.w) J3.kIn LT ht
        refine wpAny_handleBy_cons (codeAny_handlers_test (named nm (LM.here ?_))) (by intro q; cases q)
        cases t with
        | false =>
          show wpAny _ X.A (handleBy (.ref a) X.env hs3) _ _ _
          exact ih (no rfl)
        | true =>
          refine codeAny_handlers_suite_as ?_
          refine HandSPX.lands_againZ fl3 fun h4 fl4 up4 => ?_
          have J4 : Inv X pins σ1 H1 { s' with heap := h4 } := J.landed nb fl4.1 ((up.trans up3).trans up4) os ag
          obtain ⟨oe4, vs4, he4, hz4, hd4⟩ := fl4.there
          have S4 := J4.suite he4 hd4 na nL nF
          refine store_ok (X := X.suite a ((a, oe4) :: (X.pn ++ pins))) (v := .ref a) S4 nd hi (.inl loc) rfl (fun s5 S5 => ?_) (.inr loc)
          refine wpAny_mono ((su a oe4 cls d (X.pn ++ pins) hz4 ⟨_, hd4⟩).run [] s5 _ H1 _ S5 (yes rfl a na)) (fun f s6 hsp => ?_) (fun _ _ z => z.elim)
          have done : ∀ {σ6 : St} {H6 : Hp} {Q : Shared → Prop}, Inv (X.suite a ((a, oe4) :: (X.pn ++ pins))) [] σ6 H6 s6 → (∀ s7, Inv X pins (σ6.set i none) H6 s7 → Q s7) →
              wpAny (model X.prog X.w) X.A (do bindName X.env n .none; unbindBehindTheSuite X.env n pp) (fun _ s7 => Q s7) X.xe s6 := fun {σ6 H6 Q} S6 hq => gone_ok (S6.unsuite ok) nd hi loc hq
          cases f with
          | next => exact hsp.elim fun σ6 z => z.elim fun H6 z => done z.1 fun s7 J7 => ⟨_, _, J7, z.2⟩
          | brk => exact hsp.elim fun σ6 z => z.elim fun H6 z => done z.1 fun s7 J7 => ⟨_, _, J7, z.2⟩
          | cont => exact hsp.elim fun σ6 z => z.elim fun H6 z => done z.1 fun s7 J7 => ⟨_, _, J7, z.2⟩
          | ret u => exact hsp.elim fun v6 z => z.elim fun σ6 z => z.elim fun H6 z => done z.1 fun s7 J7 => ⟨_, _, _, J7, z.2.1, z.2.2⟩
    exact go hk w
  · cases f with
    | next => exact hsp.elim fun σ6 z => z.elim fun H6 z => wpAny_execs_nil ⟨_, _, z.1.ofTry ok, z.2⟩
    | brk => exact hsp.elim fun σ6 z => z.elim fun H6 z => ⟨_, _, z.1.ofTry ok, z.2⟩
    | cont => exact hsp.elim fun σ6 z => z.elim fun H6 z => ⟨_, _, z.1.ofTry ok, z.2⟩
    | ret u => exact hsp.elim fun v6 z => z.elim fun σ6 z => z.elim fun H6 z => ⟨_, _, _, z.1.ofTry ok, z.2.1, z.2.2⟩
end
end Ks

/-! repr of data, where nothing on the stack is being shown. -/
namespace Ks
open PySem PySem.Spec L2
open PyProof.Rows hiding St

def keyD : Key → PyData
  | .inl i => .int i
  | .inr x => .str x
def flatD : V → Option PyData
  | .non => some .none
  | .bl b => some (.bool b)
  | .int i => some (.int i)
  | .str x => some (.str x)
  | _ => none
/-- a dict of flat entries -/
inductive FlatKv : List (Key × V) → List (PyData × PyData) → Prop
  | nil : FlatKv [] []
  | cons {k : Key} {v : V} {d : PyData} {r : List (Key × V)} {ds : List (PyData × PyData)} : flatD v = some d → FlatKv r ds → FlatKv ((k, v) :: r) ((keyD k, d) :: ds)
/-- data without dicts, or one such dict -/
def Shows (K : PySem.W.Frag) (H : Hp) (x : V) (d : PyData) : Prop :=
  (Dp K H x d ∧ d.hasDict = false) ∨ ∃ a kvs ds, x = .ref a ∧ H a = some (.dK kvs) ∧ FlatKv kvs ds ∧ d = .dict ds

theorem flat_reads {h : Heap} {v : V} {d : PyData} {u : Value} (e : flatD v = some d) (r : RelV v u) : Reads h u d [] := by
  cases v with
  | non => cases e; cases r; exact .none
  | bl b => cases e; cases r; exact .bool b
  | int i => cases e; obtain ⟨t, rfl⟩ := r; exact .int i t
  | str x => cases e; obtain ⟨t, rfl⟩ := r; exact .str x t
  | byt b => cases e
  | flt b => cases e
  | ref a => cases e
  | ty n => cases e
theorem key_reads {h : Heap} {k : Key} {u : Value} (e : keyIs k u = true) : Reads h u (keyD k) [] := by
  rcases keyIs_shape e with ⟨i, t, rfl, rfl⟩ | ⟨x, t, rfl, rfl⟩
  · exact .int i t
  · exact .str x t
theorem kv_reads {P : Program} {w : World} {h : Heap} : ∀ {kvs : List (Key × V)} {vs : List (Key × Value)} {es : List DictEntry} {ds : List (PyData × PyData)}, KV kvs vs → Pairs (mixKind P w) es vs → FlatKv kvs ds →
    ReadsAll h (es.map (·.key)) (ds.map (·.1)) [] ∧ ReadsAll h (es.map (·.val)) (ds.map (·.2)) []
  | _, _, _, _, .nil, .nil, .nil => ⟨.nil, .nil⟩
  | _, _, _, _, .cons r rs, .cons hk hv ps, .cons hf fs => by
    obtain ⟨a, b⟩ := kv_reads rs ps fs
    obtain ⟨r1, r2⟩ := r
    simp only at r1 r2
    subst r1
    refine ⟨.cons (as := []) (key_reads hk) a, .cons (as := []) ?_ b⟩
    dsimp only
    rw [hv]
    exact flat_reads hf r2

section
variable {X : Cx}
def rShow (K : PySem.W.Frag) : List V → Hp → VK → Prop := fun xs H Q => ∃ x d, xs = [x] ∧ Shows K H x d ∧ d.showable = true ∧ d.depth ≤ 50 ∧ d.shown.length ≤ sizeLine ∧ Q (.str d.shown) H
theorem call_show (hg : X.A.guards = some []) (hu : X.A.units + 100 < cLine) : CallR X (.builtin "repr") (rShow X.K) := by
  intro pins s σ H xs us Q I r h
  obtain ⟨x, d, rfl, hs, sh, dp, sz, q⟩ := h
  obtain ⟨u, rfl, ru⟩ := vals1 r
  have byRef : ∀ {a : Addr} {as : List Addr}, u = .ref a → Reads s.heap u d as → (d.hasDict = true → sysModules ∉ as) → wpAny (model X.prog X.w) X.A (call (.builtin "repr") [u]) (EP X pins σ Q) X.xe s := by
    intro a as e hr hm
    subst e
    exact repr_of_reads' hr sh hm hg (by omega) (fun _ _ z => z) (fun h' u tk k => ⟨.str d.shown, H, I.kept (t' := tk) k, ⟨_, rfl⟩, q⟩) sz
  rcases hs with ⟨hd, nd⟩ | ⟨a, kvs, ds, rfl, ha, fl, rfl⟩
  · obtain ⟨as, hr⟩ := Dp.reads I d x u hd ru
    cases hd with
    | non => cases ru; exact PySem.P.repr_of_none ⟨.str _, H, I.tok _, ⟨_, rfl⟩, q⟩
    | bl b => cases ru; exact PySem.P.repr_of_bool ⟨.str _, H, I.tok _, ⟨_, rfl⟩, q⟩
    | int i => obtain ⟨t, rfl⟩ := ru; exact PySem.P.repr_of_int (of_decide_eq_true sh) ⟨.str _, H, I.tok _, ⟨_, rfl⟩, q⟩
    | str y => obtain ⟨t, rfl⟩ := ru; exact PySem.P.repr_of_str (hsz := sz) ⟨.str _, H, I.tok _, ⟨_, rfl⟩, q⟩
    | lst h1 h2 => exact byRef (show u = Value.ref _ from ru) hr (PyData.noDict_hsm nd)
    | tup h1 h2 => exact byRef (show u = Value.ref _ from ru) hr (PyData.noDict_hsm nd)
  · obtain ⟨_, nsys, vs, rkv, o, es, ep, ho, hx, hdt, hk, hp, hnd⟩ := (show ObjOk X.prog X.w H s.heap a (.dK kvs) from I.hok a _ ha)
    cases (show u = Value.ref a from ru)
    obtain ⟨ra, rb⟩ := kv_reads (h := s.heap) rkv hp fl
    refine byRef rfl (Reads.dict ho hx.1 hdt ra rb) (fun _ hm => ?_)
    simp only [List.append_nil, List.mem_singleton] at hm
    rw [hm] at nsys
    simp at nsys
end
end Ks

/-! Promises of defs that are called while nothing on the stack is being shown (repr of a list asks who is shown already). -/
namespace Ks
open PySem PySem.Spec L2
open PyProof.Rows hiding St

/-- a def's promise, kept wherever nothing is being shown -/
structure FnG (P : Program) (w : World) (K : PySem.W.Frag) (mg : Str → Option Value) (base : Heap) (CX : CXT) (k : Nat) (f : Addr) (fd : FuncData) (ps : List Str) (sp : Sp) : Prop where
  len : ∀ vs H Q E, sp vs H Q E → vs.length = ps.length
  go : ∀ (A : Around) (outer : List Env) (s : Shared) (H : Hp) (args : Args) (us : List Value) (vs : List V) (Q : VK) (E : XK), Room k A → A.guards = some [] → Env0 P w K mg base A outer s H →
    BindsTo s fd args (ps.zip us) → Vals vs us → sp vs H Q E → codeAny (model P w) A (.call (.ref f) args) (CR CX outer P w H s Q E) s

section
variable {P : Program} {w : World} {K : PySem.W.Frag} {mg : Str → Option Value} {base : Heap} {CX : CXT} {j k : Nat} {f : Addr} {fd : FuncData} {ps : List Str} {sp : Sp}
theorem FnG.ofOk (F : FnOk P w K mg base CX k f fd ps sp) : FnG P w K mg base CX k f fd ps sp := ⟨F.len, fun A outer s H args us vs Q E hr _ => F.run A outer s H args us vs Q E hr⟩
theorem FnG.mono (F : FnG P w K mg base CX j f fd ps sp) (h : j ≤ k) : FnG P w K mg base CX k f fd ps sp := ⟨F.len, fun A outer s H args us vs Q E hr => F.go A outer s H args us vs Q E (hr.mono h)⟩
end

/-- the guards stay in a def's frame -/
theorem guards_deeper {A : Around} {env : Env} (h : A.guards = some []) : (A.deeper env).guards = some [] := h

/-- a def by its body -/
theorem fng_of {CX : CXT} {P : Program} {w : World} {K : PySem.W.Frag} {mg : Str → Option Value} {base : Heap} {k : Nat} {x qual : Str} {st : Stmt} {f : Addr} {fd : FuncData} {N ps : List Str} {sp : Sp} (F : Fun K x qual st f fd) (S : FnScope N ps (defScope st))
    (len : ∀ vs H Q E, sp vs H Q E → vs.length = ps.length)
    (hbody : ∀ (cdv : Value) (A : Around) (outer : List Env) (s : Shared) (H : Hp) (vs : List V) (Q : VK) (E : XK), Room k (A.deeper (envOfC qual (defScope st) s.heap.objs.size f cdv)) → A.guards = some [] → sp vs H Q E →
      ∃ t, PSs (cxOf CX P w K mg base N qual (defScope st) f cdv A outer s H E) (defBody st) t ∧ t { nx := fun _ H' => Q .non H', rt := Q } (start N vs) H) : FnG P w K mg base CX (k + 1) f fd ps sp := by
  obtain ⟨oc, od, kV, doc, pm, an, cdv, ct, osl, rfl, lk, hcd⟩ := F.ex
  refine ⟨len, ?_⟩
  intro A outer s H args us vs Q E hr hG e0 hb r hsp
  have keep := fun b o e => (e0.bs b o e).1
  have par : ∀ y ∈ ps.zip us, (defScope st).names.lookup y.1 = some .local ∨ ((defScope st).names.lookup y.1 = some .cell ∧ ((cellsFrom (s.heap.objs.size + 1) (defScope st).names []).lookup y.1).isSome = true) := by
    rintro ⟨n, v⟩ hy
    have q := S.par n (List.of_mem_zip hy).1
    exact q.imp id fun q => ⟨q, PySem.W.cellsFrom_some _ _ _ (.inl q)⟩
  refine codeAny_call_function hr.depth ((e0.mod.kin.keeps keep) _ _ lk) rfl S.co S.gen rfl (PySem.W.codeRec_of (e0.mod.kin.keeps keep) hcd) (hb _ _ _ _ ?_)
  refine wpAny_newFunctionEnv_cells S.kind par ?_
  intro env he s1 hx
  subst he
  refine ⟨(e0.mod.nolimit.keeps keep).keeps hx.toInCall.keep, codeAny_func ?_⟩
  obtain ⟨t, ht, hq⟩ := hbody cdv A outer s H vs Q E (hr.deeper _) hG hsp
  have I := inv_start (CX := CX) (E := E) (cd := cdv) S hr.hd e0 (len _ _ _ _ hsp) r hx
  refine wpAny_mono (ht.run [] s1 (start N vs) H _ I hq) ?_ (fun _ _ z => z)
  intro fl s' hs
  cases fl with
  | next => exact hs.elim fun σ' z => z.elim fun H' z => ⟨V.non, H', z.1.os, z.1.bare, z.1.base, z.1.hok, rfl, z.2⟩
  | ret u => exact hs.elim fun v z => z.elim fun σ' z => z.elim fun H' z => ⟨v, H', z.1.os, z.1.bare, z.1.base, z.1.hok, z.2.1, z.2.2⟩
  | brk => exact hs.elim fun _ z => z.elim fun _ z => z.2.elim
  | cont => exact hs.elim fun _ z => z.elim fun _ z => z.2.elim

section
variable {X : Cx} {CX : CXT} {k : Nat} {f : Addr} {fd : FuncData} {ps : List Str} {sp : Sp} {E : XK} {x : Str} {p pos : Pos} {e : Expr} {es : List Expr} {t : TA}
/-- f(e, ..) -/
theorem pe_callG (hG : X.A.guards = some []) (F : FnG X.prog X.w X.K X.mg X.base CX k f fd ps sp) (hr : Room k X.A) (hg : Gl X x) (hm : X.mg x = some (.ref f)) (hk : PySem.W.keepIn X.K (.ref f) = true) (hb : Binds X.K fd ps []) (hx : Passes CX X E)
    (ha : PA X (e :: es) t) (hdb : (x == ("__debug__" : Str)) = false := by decide) (hst : starEach (e :: es) X.env = (false, eval e X.env) :: starEach es X.env := by rfl) (hpl : (backTo pos (starEach es X.env)).any (·.1) = false := by rfl) :
    PE X (.Call (.Name x p) (e :: es) [] pos) (tCall sp [] E t) := by
  constructor
  intro pins s σ H Q I h
  refine wpAny_Call_Name_kw (ld_glob I hg hm ?_ hdb)
  refine PySem.W.callWith_K (h₀ := X.base) I.ok.mod.kin hk (thn (ha.run pos pins s σ H _ I h) ?_) hst hpl
  rintro us s1 ⟨vs, H1, I1, r, q⟩
  rw [List.append_nil] at q
  refine ⟨I1.kIn, ?_⟩
  have hl : (us ++ []).length = ps.length := by
    rw [List.append_nil, ← r.length]
    exact F.len _ _ _ _ q
  have b := hb s1 us I1.kIn hl
  rw [List.append_nil] at b
  refine wpAny_call (codeAny_mono (F.go X.A X.stack s1 H1 ⟨us, []⟩ us vs Q E hr hG I1.env0 b r q) ?_)
  intro res s2 hq
  cases res with
  | error er => exact hx pins σ H1 s1 er s2 I1 hq
  | ok fl =>
    cases fl with
    | ret u => exact I1.after hq
    | next => exact hq.elim
    | brk => exact hq.elim
    | cont => exact hq.elim
end

/-- the law's call, its script the one thing that is tracked -/
theorem law_callG {P : Program} {w : World} {K : PySem.W.Frag} {mg mb : Str → Option Value} {CX : CXT} {k : Nat} {fa a : Addr} {fd : FuncData} {x : Str} {sp : Sp} {s1 : Shared} {vs : List Value} {ns : List Int}
    (KX : K.In s1.heap) (hns : s1.heap.Ns mainGlobals mg) (hb : s1.heap.Ns builtinsNs mb) (hbb : ∀ x : Str, x ≠ "__name__" → mb x = bootBuiltins x) (hlim : s1.heap.NoLimit) (hg : s1.gens = #[])
    (ha : s1.heap.get? a = some { cls := .type "list", data := .seq vs.toArray }) (hi : IntsAre vs ns) (hl : ns.length ≤ sizeLine) (hr : Room k callerA)
    (F : ∀ base : Heap, K.In base → base.Ns mainGlobals mg → FnG P w K mg base CX k fa fd [x] sp) (hbind : ∀ (s : Shared) (u : Value), BindsTo s fd ⟨[u], []⟩ [(x, u)])
    (hsp : ∀ H : Hp, Only H → SqL K H a (ns.map V.int) → sp [.ref a] H (fun v _ => v = .bl true) fun _ _ _ => False)
    (hCX : ∀ H e s', CX [] H s1 (fun _ _ _ => False) e s' → False) :
    codeAny (model P w) callerA (.call (.ref fa) ⟨[.ref a], []⟩) (fun r s' => r = .ok (.ret (.bool true)) ∧ OldK s1.heap s'.heap ∧ s'.os = s1.os ∧ AllBare s'.gens) s1 := by
  have rv := vals_ints hi
  have lenV := hi.length
  have core : ∀ H : Hp, Only H → SqL K H a (ns.map V.int) → HOk P w H s1.heap → (∀ b, H b ≠ none → b = a) → (H a ≠ none → K.lookup a = none) →
      codeAny (model P w) callerA (.call (.ref fa) ⟨[.ref a], []⟩) (fun r s' => r = .ok (.ret (.bool true)) ∧ OldK s1.heap s'.heap ∧ s'.os = s1.os ∧ AllBare s'.gens) s1 := by
    intro H hO hS hok hA hK
    have at_a : ∀ {b : Addr} {u : HO}, H b = some u → b = a := fun {b u} q => hA b (by rw [q]; exact fun z => nomatch z)
    have free : ∀ {b : Addr} {o : Obj} {es : Array DictEntry} {ep : Nat}, s1.heap.get? b = some o → o.data = .dict es ep → H b = none := by
      intro b o es ep e d
      cases q : H b with
      | none => rfl
      | some u =>
        rw [at_a q, ha] at e
        cases e
        exact nomatch d
    have ns1 : ∀ {b : Addr} {m : Str → Option Value}, s1.heap.Ns b m → (hidT s1.heap H).Ns b m := fun {b m} ⟨o, es, ep, e, d, r⟩ => ⟨o, es, ep, hidT_get e (free e d), d, r⟩
    have kin : K.In (hidT s1.heap H) := by
      intro b o e
      refine hidT_get (KX b o e) ?_
      cases q : H b with
      | none => rfl
      | some u =>
        have eb := at_a q
        rw [eb] at q e
        rw [hK (by rw [q]; exact fun z => nomatch z)] at e
        cases e
    have lim2 : (hidT s1.heap H).NoLimit := by
      obtain ⟨mc, h1, h2⟩ := hlim
      exact ⟨mc, ns1 h1, h2⟩
    have e0 : Env0 P w K mg (hidT s1.heap H) callerA [] s1 H :=
      ⟨rfl, ⟨kin, ns1 hns, ⟨mb, ns1 hb, hbb⟩, lim2⟩, fun b o e => of_hidT e, Nat.le_of_eq (hidT_size _ _), trivial, fun b z => absurd z List.not_mem_nil, hok, .of_eq hg⟩
    refine codeAny_mono ((F _ kin (ns1 hns)).go callerA [] s1 H ⟨[.ref a], []⟩ [.ref a] [.ref a] _ _ hr rfl e0 (hbind s1 (.ref a)) (.cons rfl .nil) (hsp H hO hS)) ?_
    intro r s' h
    cases r with
    | error e => exact (hCX H e s' h).elim
    | ok fl =>
      cases fl with
      | next => exact h.elim
      | brk => exact h.elim
      | cont => exact h.elim
      | ret u =>
        obtain ⟨v, H', os, bare, un, hok', r', q⟩ := h
        cases (show v = .bl true from q)
        cases (show u = Value.bool true from r')
        refine ⟨rfl, OldK.of_keep ?_, os, bare⟩
        intro b o e
        cases q : H b with
        | none => exact un.keep b o e q List.not_mem_nil List.not_mem_nil
        | some u =>
          rcases hO b with z | ⟨ob, xs, z⟩
          · rw [q] at z
            cases z
          · have e1 := (hok b _ z).1
            have e2 := (hok' b _ (un.frzs b ob _ z)).1
            rw [e] at e1
            cases e1
            exact e2
  cases hk : K.lookup a with
  | some o =>
    have e := KX a o hk
    rw [ha] at e
    cases e
    have sq : SqL K (fun _ => none) a (ns.map V.int) := .inr ⟨_, vs.toArray, _, hk, rfl, rfl, rfl, by rw [List.size_toArray, lenV]; exact hl, by simpa using rv⟩
    exact core (fun _ => none) (fun _ => .inl rfl) sq (fun b u z => nomatch z) (fun b z => absurd rfl z) fun z => absurd rfl z
  | none =>
    have at1 : (fun b => if b = a then some (HO.frz { cls := .type "list", data := .seq vs.toArray } (.lst (ns.map V.int))) else none) a = some (.frz { cls := .type "list", data := .seq vs.toArray } (.lst (ns.map V.int))) := if_pos rfl
    refine core (fun b => if b = a then some (.frz { cls := .type "list", data := .seq vs.toArray } (.lst (ns.map V.int))) else none) ?_ (.inl (.inr ⟨_, at1⟩)) ?_ ?_ fun _ => hk
    · intro b
      by_cases hb : b = a
      · exact .inr ⟨_, _, if_pos hb⟩
      · exact .inl (if_neg hb)
    · intro b u z
      by_cases hb : b = a
      · subst hb
        cases at1.symm.trans z
        exact ⟨ha, by rw [List.length_map]; exact hl, vs, _, rv, ha⟩
      · cases (if_neg hb).symm.trans z
    · intro b z
      by_cases hb : b = a
      · exact hb
      · exact absurd (if_neg hb) z

theorem walk_ofG {l : PySem.W.OpenLaw} {n k : Nat} {q : Program} {loose : List Str} {XP : (Str → Option Value) → Heap → Prop} {YP : World → Heap → Prop} {d : DefRec} {K : Params → PySem.W.Frag} {CX : World → CXT} {sp : World → Sp} {x : Str}
    (hn : l.most = some n) (hn2 : n ≤ sizeLine) (hdf : d.params.defaults = []) (hr : Room k callerA)
    (hY : ∀ (w : World) (h : Heap), YP w h → (K w.params).In h)
    (F : ∀ (w : World) (mg : Str → Option Value) (fa : Addr) (h : Heap), (K w.params).In h → h.Ns mainGlobals mg → mg d.name = some (.ref fa) →
      ∃ fd : FuncData, (∀ (s : Shared) (u : Value), BindsTo s fd ⟨[u], []⟩ [(x, u)]) ∧
        ∀ base : Heap, (K w.params).In base → base.Ns mainGlobals mg → FnG l.prog w (K w.params) mg base (CX w) k fa fd [x] (sp w))
    (hsp : ∀ (w : World) (H : Hp) (a : Addr) (ns : List Int), ns.length ≤ n → Only H → SqL (K w.params) H a (ns.map V.int) → sp w [.ref a] H (fun v _ => v = .bl true) fun _ _ _ => False)
    (hCX : ∀ (w : World) (H : Hp) (s : Shared) (e : Value) (s' : Shared), CX w [] H s (fun _ _ _ => False) e s' → False) :
    PySem.W.WalkO q loose XP YP l.row.toRowW d [] (fun f vs => PySem.call f vs) := by
  refine Att.attach_call hn hdf ?_
  intro w s₀ s₁ mg mb fa o pm cd doc a vs ns G Y ho hd hcd hmg hobj hints hlen hg
  have KX := hY w _ Y
  obtain ⟨fd, hb, hF⟩ := F w mg fa _ KX G.T.g hmg
  exact law_callG KX G.T.g G.T.b G.T.builtins G.T.nolimit hg hobj hints (Nat.le_trans hlen hn2) hr hF hb (fun H hO hS => hsp w H a ns hlen hO hS) fun H e s' => hCX w H s₁ e s'
end Ks

/-! What the laws' texts have in common. -/
namespace Ks
open PySem PySem.Spec L2
open PyProof.Rows hiding St

/-- the built-ins' names that are not given another meaning -/
structure Bx (mg : Str → Option Value) : Prop where
  m_isinstance : mg "isinstance" = none
  m_int : mg "int" = none
  m_bool : mg "bool" = none
  m_str : mg "str" = none
  m_len : mg "len" = none
  m_list : mg "list" = none
  m_range : mg "range" = none
  m_sum : mg "sum" = none
  m_abs : mg "abs" = none
  m_max : mg "max" = none
  m_min : mg "min" = none
  m_repr : mg "repr" = none
  m_zip : mg "zip" = none
/-- a def of the text: its object, its name, how its arguments bind -/
structure Dn (K : PySem.W.Frag) (mg : Str → Option Value) (x : Str) (st : Stmt) (ps : List Str) (f : Addr) (fd : FuncData) : Prop where
  F : Fun K x x st f fd
  g : mg x = some (.ref f)
  b : Binds K fd ps []
/-- an own class of errors over ValueError, made with a message -/
structure OwnE (K : PySem.W.Frag) (mg : Str → Option Value) (x : Str) (C : Addr) : Prop where
  g : mg x = some (.ref C)
  x : PySem.W.excIn K C [.type "ValueError", .type "Exception", .type "BaseException", .type "object"] "ValueError.__new__" = true
  k : PySem.W.keepIn K (.ref C) = true
  b : PySem.W.subIn K (.ref C) (.type "BaseException") = some true
  t : PySem.W.typeIn K (.ref C) = some (.type "type")
/-- an own class of errors that keeps one value -/
structure KeepE (K : PySem.W.Frag) (mg : Str → Option Value) (x f : Str) (C fI : Addr) (fd : FuncData) (ps : List Str) (B : String) (bmB : List Value) (newId initId : String) : Prop where
  T : ECls K C B bmB newId initId
  g : mg x = some (.ref C)
  i : PySem.W.findIn K (.ref C) "__init__" = some (some (.ref fI))
  t : PySem.W.typeIn K (.ref fI) = some (.type "function")
  n : PySem.W.findIn K (.ref C) f = some none
  b : Binds K fd ps []
theorem passZ {X : Cx} : Passes CX0 X (fun _ _ _ => False) := pass0
theorem passO {X : Cx} {W : XK} (tk : Takes X (fun cls d _ H => W cls d H)) : Passes (L2.CX X.prog X.w) X W := passes_call tk fun _ _ _ _ z => z

/-! ### values of any kind -/
inductive AnyV (H : Hp) : V → Prop
  | non : AnyV H .non
  | bl (b : Bool) : AnyV H (.bl b)
  | int (i : Int) : AnyV H (.int i)
  | str (z : Str) : AnyV H (.str z)
  | lst {a : Addr} {xs : List V} : H a = some (.lst xs) → AnyV H (.ref a)
  | tup {a : Addr} {xs : List V} : H a = some (.tup xs) → AnyV H (.ref a)
  | dct {a : Addr} {kvs : List (Key × V)} : H a = some (.dK kvs) → AnyV H (.ref a)
def isI : V → Bool
  | .int _ => true
  | .bl _ => true
  | _ => false
def isB : V → Bool
  | .bl _ => true
  | _ => false
def isS : V → Bool
  | .str _ => true
  | _ => false
theorem AnyV.typed {K : PySem.W.Frag} {H : Hp} {x : V} (h : AnyV H x) : ∃ T, TyX K H x (.type T) ∧ kitB T "int" = some (isI x) ∧ kitB T "bool" = some (isB x) ∧ kitB T "str" = some (isS x) := by
  cases h with
  | non => exact ⟨"NoneType", .base .non, (show kitB "NoneType" "int" = some false by decide +kernel), (show kitB "NoneType" "bool" = some false by decide +kernel), (show kitB "NoneType" "str" = some false by decide +kernel)⟩
  | bl b => exact ⟨"bool", .base (.bl b), (show kitB "bool" "int" = some true by decide +kernel), (show kitB "bool" "bool" = some true by decide +kernel), (show kitB "bool" "str" = some false by decide +kernel)⟩
  | int i => exact ⟨"int", .base (.int i), (show kitB "int" "int" = some true by decide +kernel), (show kitB "int" "bool" = some false by decide +kernel), (show kitB "int" "str" = some false by decide +kernel)⟩
  | str z => exact ⟨"str", .base (.str z), (show kitB "str" "int" = some false by decide +kernel), (show kitB "str" "bool" = some false by decide +kernel), (show kitB "str" "str" = some true by decide +kernel)⟩
  | lst e => exact ⟨"list", .base (.lst e), (show kitB "list" "int" = some false by decide +kernel), (show kitB "list" "bool" = some false by decide +kernel), (show kitB "list" "str" = some false by decide +kernel)⟩
  | tup e => exact ⟨"tuple", .base (.tup e), (show kitB "tuple" "int" = some false by decide +kernel), (show kitB "tuple" "bool" = some false by decide +kernel), (show kitB "tuple" "str" = some false by decide +kernel)⟩
  | dct e => exact ⟨"dict", .base (.dK e), (show kitB "dict" "int" = some false by decide +kernel), (show kitB "dict" "bool" = some false by decide +kernel), (show kitB "dict" "str" = some false by decide +kernel)⟩
/-- an integer, no boolean, in these bounds -/
def isNum (lo hi : Int) : V → Bool
  | .int i => decide (lo ≤ i) && decide (i ≤ hi)
  | _ => false

/-! ### a power of a great number -/
section
variable {X : Cx}
def CPowW (i j : Int) : Prop := 0 ≤ j ∧ (Builtin.Int.intBits i : Int) * j ≤ 2 ^ 27
theorem op_powW : OpR X (binaryOp .Pow) (rI CPowW fun i j => .int (i ^ j.toNat)) := opI fun _ _ _ _ _ _ _ hc q => PyProof.Rows.pow_int hc.1 hc.2 q
end
end Ks

/-! Texts of digits. -/
namespace Ks
open PySem PySem.Spec L2
open PyProof.Rows hiding St

abbrev cl (x : Str) : List Nat := x.cps.toList
theorem str_ext {x y : Str} (h : cl x = cl y) : x = y := by
  obtain ⟨⟨a⟩⟩ := x
  obtain ⟨⟨b⟩⟩ := y
  have h' : a = b := h
  rw [h']
theorem cl_len (x : Str) : (cl x).length = x.length := by
  show x.cps.toList.length = x.cps.size
  exact Array.length_toList

theorem tw_all {α : Type} {p : α → Bool} : ∀ {l : List α}, l.all p = true → l.takeWhile p = l
  | [], _ => rfl
  | a :: r, h => by
    rw [List.all_cons, Bool.and_eq_true] at h
    rw [List.takeWhile_cons, if_pos h.1, tw_all h.2]
theorem tw_lt {α : Type} {p : α → Bool} : ∀ {l : List α}, l.all p = false → (l.takeWhile p).length < l.length
  | [], h => by cases h
  | a :: r, h => by
    rw [List.takeWhile_cons]
    by_cases e : p a = true
    · rw [if_pos e]
      rw [List.all_cons, e, Bool.true_and] at h
      have := tw_lt h
      simp only [List.length_cons]
      omega
    · rw [if_neg e]
      simp
theorem dw_head {α : Type} {p : α → Bool} : ∀ {l : List α}, l.all p = false → ∃ a, a ∈ l.drop (l.takeWhile p).length ∧ p a = false
  | [], h => by cases h
  | a :: r, h => by
    rw [List.takeWhile_cons]
    by_cases e : p a = true
    · rw [if_pos e]
      rw [List.all_cons, e, Bool.true_and] at h
      obtain ⟨x, hx, hp⟩ := dw_head h
      exact ⟨x, by simpa using hx, hp⟩
    · rw [if_neg e]
      exact ⟨a, by simp, by simpa using e⟩

/-- a text stripped of some letters is empty just if it has no others -/
theorem strip_empty (a b : Str) : decide (V.str (Txt.stripChars a b) = V.str ("" : Str)) = (cl a).all fun c => b.cps.contains c := by
  have h0 : ("" : Str) = ⟨#[]⟩ := by decide
  have e : Txt.stripChars a b = PySem.W.stripped b.cps.contains true true a := PySem.W.stripBy_eq _ _ _ _
  rw [e, h0]
  unfold PySem.W.stripped
  simp only [if_true]
  show decide (V.str (Builtin.Str.strSub a (List.takeWhile b.cps.contains (cl a)).length (a.length - (List.takeWhile b.cps.contains (List.drop (List.takeWhile b.cps.contains (cl a)).length (cl a)).reverse).length)) = V.str ⟨#[]⟩) = _
  have hl := cl_len a
  cases q : (cl a).all fun c => b.cps.contains c with
  | true =>
    rw [tw_all q, List.drop_length]
    refine decide_eq_true ?_
    congr 1
    unfold Builtin.Str.strSub
    congr 1
    have hs : a.cps.size = a.length := rfl
    apply Array.eq_empty_of_size_eq_zero
    rw [Array.size_extract]
    simp
    omega
  | false =>
    refine decide_eq_false fun h => ?_
    have h1 := congrArg (fun v => match v with | V.str z => z.cps.size | _ => 0) h
    unfold Builtin.Str.strSub at h1
    simp only [Array.size_extract, List.size_toArray, List.length_nil] at h1
    obtain ⟨x, hx, hp⟩ := dw_head q
    have nall : (List.drop (List.takeWhile b.cps.contains (cl a)).length (cl a)).reverse.all b.cps.contains = false := by
      rw [Bool.eq_false_iff]
      intro z
      rw [List.all_eq_true] at z
      have := z x (List.mem_reverse.mpr hx)
      rw [hp] at this
      cases this
    have h2 := tw_lt nall
    have h3 := tw_lt q
    rw [List.length_reverse, List.length_drop] at h2
    have hs : a.cps.size = a.length := rfl
    omega

/-- a text of digits less than n -/
def alpha (n : Int) : Str := cutS "0123" none (some n)
def txt (n : Int) (z : Str) : Bool := decide (z.length ≤ 200) && (cl z).all fun c => (alpha n).cps.contains c
theorem alpha2 : alpha 2 = ⟨#[48, 49]⟩ := by decide +kernel
theorem alpha4 : alpha 4 = ⟨#[48, 49, 50, 51]⟩ := by decide +kernel
theorem digit_str (r : Nat) (h : r < 4) : Str.ofString (toString (r : Int)) = ⟨#[48 + r]⟩ := by
  match r, h with
  | 0, _ => decide +kernel
  | 1, _ => decide +kernel
  | 2, _ => decide +kernel
  | 3, _ => decide +kernel
theorem join_empty : ∀ ys : List Str, cl (Txt.join ("" : Str) ys) = (ys.map cl).flatten := by
  intro ys
  have h0 : cl ("" : Str) = [] := by decide
  rw [TL.join_eq]
  have := TL.tl_join ("" : Str) ys
  rw [show TL.tl ("" : Str) = [] from h0] at this
  refine this.trans ?_
  show TL.joinL [] (ys.map cl) = _
  generalize ys.map cl = zs
  induction zs with
  | nil => rfl
  | cons a r ih =>
    cases r with
    | nil => simp [TL.joinL]
    | cons b r =>
      show a ++ ([] ++ TL.joinL [] (b :: r)) = _
      rw [ih]
      simp
end Ks

/-! zip of two texts; the order of tuples. -/
namespace Ks
open PySem PySem.Spec L2
open PyProof.Rows hiding St

/-- the signs of two texts, two by two -/
def Itzs (x y : Str) : It :=
  ⟨fun i _ => i < min x.cps.size y.cps.size, fun i H v H' => ∃ T c d, v = .ref T ∧ H T = none ∧ H' = upd H T (.tup [.str ⟨#[c]⟩, .str ⟨#[d]⟩]) ∧ x.cps[i]? = some c ∧ y.cps[i]? = some d, fun i _ => i = min x.cps.size y.cps.size⟩
def StZ (z TI TO i1 i2 : Addr) (x y : Str) (t u : Tok) (i : Nat) (h : Heap) : Prop :=
  IsZip h z TI TO .none ∧ IsTupOf2 h TI (.ref i1) (.ref i2) ∧ (∃ a1 a2, IsTupOf2 h TO a1 a2) ∧ h.IsStrIter i1 (strIterType x) x t i ∧ h.IsStrIter i2 (strIterType y) y u i
theorem turn_zipS {P : Program} {w : World} {K : PySem.W.Frag} {elts : List Expr} {kk : Nat} {tpos : Pos} {z TI TO i1 i2 : Addr} {x y : Str} {t u : Tok} (S : ZipSep2 z TI TO i1 i2 [i1] [i2]) :
    Turn P w K (.Tuple elts kk tpos) (Itzs x y) (z :: TI :: TO :: ([i1] ++ [i2])) z (StZ z TI TO i1 i2 x y t u) where
  mem := List.mem_cons_self
  obj := by
    intro i h st c hc
    obtain ⟨hz, hTI, ⟨a1, a2, hTO⟩, ⟨o1, e1, _, d1⟩, ⟨o2, e2, _, d2⟩⟩ := st
    have e' : c = z ∨ c = TI ∨ c = TO ∨ c = i1 ∨ c = i2 := by simpa using hc
    rcases e' with rfl | rfl | rfl | rfl | rfl
    · exact ⟨_, hz, fun v q => nomatch q⟩
    · exact ⟨_, hTI, fun v q => nomatch q⟩
    · exact ⟨_, hTO, fun v q => nomatch q⟩
    · exact ⟨o1, e1, fun v q => by rw [d1] at q; cases q⟩
    · exact ⟨o2, e2, fun v q => by rw [d2] at q; cases q⟩
  keep := by
    intro i h h' st k
    obtain ⟨hz, hTI, ⟨a1, a2, hTO⟩, ⟨o1, e1, c1, d1⟩, ⟨o2, e2, c2, d2⟩⟩ := st
    exact ⟨k z (by simp) _ hz, k TI (by simp) _ hTI, ⟨a1, a2, k TO (by simp) _ hTO⟩, ⟨o1, k i1 (by simp) o1 e1, c1, d1⟩, ⟨o2, k i2 (by simp) o2 e2, c2, d2⟩⟩
  item := by
    intro X hP hw hK hc i pins s σ H E I hf st hg
    subst hP hw hK
    have hh := I.ok.hd hc
    have W := GoesN.zip2 (elts := elts) (x1 := kk) (pos := tpos) S (Draws.text (prog := X.prog) (w := X.w) (A := X.A.in1) hh i1 x t) (Draws.text (A := X.A.in1) hh i2 y u)
    refine W.goes i s _ E hg st ?_
    rintro v h' tk ⟨T, a, b, rfl, hT, ⟨c, tc, hx, rfl⟩, ⟨d, td, hy, rfl⟩, hIs⟩ st' keep _
    have new : ObjOk X.prog X.w (upd H T (.tup [.str ⟨#[c]⟩, .str ⟨#[d]⟩])) h' T (.tup [.str ⟨#[c]⟩, .str ⟨#[d]⟩]) :=
      ⟨by show 2 ≤ sizeLine; decide, [.str ⟨#[c]⟩ tc, .str ⟨#[d]⟩ td], .cons ⟨tc, rfl⟩ (.cons ⟨td, rfl⟩ .nil), hIs⟩
    have J := I.turnedNew (t' := tk) (ch := z :: TI :: TO :: ([i1] ++ [i2])) (fun b o hb q => keep b o (fun m => hb (by simp only [List.mem_cons, List.not_mem_nil, or_false] at m; rcases m with rfl | rfl | rfl | rfl <;> simp)) q) hf hT new
    refine ⟨.ref T, _, J, rfl, ⟨T, c, d, rfl, I.hok.fresh hT, rfl, hx, hy⟩, st', fun b hb => ?_⟩
    obtain ⟨o, ho, _⟩ : ∃ o, s.heap.get? b = some o ∧ ∀ v, o.data ≠ .cell v := by
      obtain ⟨hz, hTI, ⟨a1, a2, hTO⟩, ⟨o1, e1, _, d1⟩, ⟨o2, e2, _, d2⟩⟩ := st
      have e' : b = z ∨ b = TI ∨ b = TO ∨ b = i1 ∨ b = i2 := by simpa using hb
      rcases e' with rfl | rfl | rfl | rfl | rfl
      · exact ⟨_, hz, fun v q => nomatch q⟩
      · exact ⟨_, hTI, fun v q => nomatch q⟩
      · exact ⟨_, hTO, fun v q => nomatch q⟩
      · exact ⟨o1, e1, fun v q => by rw [d1] at q; cases q⟩
      · exact ⟨o2, e2, fun v q => by rw [d2] at q; cases q⟩
    rw [upd_ne (Nat.ne_of_lt (Nat.lt_of_lt_of_le (Heap.lt_size ho) hT))]
    exact (hf b hb).1
  done := by
    intro X hP hw hK hc i pins s σ H E I hf st hg
    subst hP hw hK
    have hh := I.ok.hd hc
    have W := GoesN.zip2 (elts := elts) (x1 := kk) (pos := tpos) S (Draws.text (prog := X.prog) (w := X.w) (A := X.A.in1) hh i1 x t) (Draws.text (A := X.A.in1) hh i2 y u)
    have e : i = min x.cps.size y.cps.size := hg
    subst e
    refine wpAny_mono (W.stops s (fun s1 => Inv X pins σ H s1) E st fun h' tk keep _ => ?_) (fun r s1 q => q) fun _ _ q => q
    exact I.turnedL (t' := tk) (ch := z :: TI :: TO :: ([i1] ++ [i2])) (fun b o hb q => keep b o (fun m => hb (by simp only [List.mem_cons, List.not_mem_nil, or_false] at m; rcases m with rfl | rfl | rfl | rfl <;> simp)) q) hf
  self := fun A i s Q E st h => wpAny_pyIter_zip st.1 h

def iZipS (ta : TA) : TI := fun σ H R => ta σ H fun vs H1 => ∃ x y, vs = [.str x, .str y] ∧ R (Itzs x y) H1
theorem pi_zipS {X : Cx} {e e2 : Expr} {ta : TA} {p pos tpos : Pos} {elts : List Expr} {kk : Nat} (hg : Gl X "zip") (hm : X.mg "zip" = none) (ha : PA X [e, e2] ta)
    (hst : starEach [e, e2] X.env = (false, eval e X.env) :: starEach [e2] X.env := by rfl) (hpl : (backTo pos (starEach [e2] X.env)).any (·.1) = false := by rfl) :
    PI X (.Tuple elts kk tpos) (.Call (.Name "zip" p) [e, e2] [] pos) (iZipS ta) := by
  constructor
  intro pins s σ H R I h
  refine Call_ (ld_blt I hg hm PyProof.Rows.boot_zip (PyProof.Rows.callWith_type1 (thn (ha.run pos pins s σ H _ I h) ?_) hst hpl))
  rintro us s1 ⟨vs, H1, I1, r1, x, y, ex, q⟩
  subst ex
  obtain ⟨u1, u2, rfl, ⟨t, rfl⟩, ⟨u, rfl⟩⟩ := vals2 r1
  refine zip_begins2 (begins_text x t) (begins_text y u) trivial trivial fun h' hz hTI hTO h1 h2 hsz hk => wpAny_pyIter_zip hz ?_
  have I2 : Inv X pins σ H1 { s1 with heap := h' } := I1.kept (t' := s1.toks) hk
  refine ⟨s1.heap.objs.size + 4, _, _, _, H1, rfl, I2, turn_zipS (t := t) (u := u) (zip_sep2 (fp1 := []) (fp2 := []) (by simp) (by simp)), ⟨hz, hTI, ⟨_, _, hTO⟩, ?_, ?_⟩, fun c hc => ?_, q⟩
  · exact ⟨_, h1, rfl, rfl⟩
  · exact ⟨_, h2, rfl, rfl⟩
  · have hle : s1.heap.objs.size ≤ c := by
      have e' : c = s1.heap.objs.size + 4 ∨ c = s1.heap.objs.size + 2 ∨ c = s1.heap.objs.size + 3 ∨ c = s1.heap.objs.size ∨ c = s1.heap.objs.size + 1 := by simpa using hc
      rcases e' with z | z | z | z | z <;> rw [z] <;> first | exact Nat.le_refl _ | exact Nat.le_add_right _ _
    have f := I1.fpOk hle (I1.hok.fresh hle)
    exact f
theorem walk_zipS {x y : Str} {n : Nat} (hn : n = min x.cps.size y.cps.size) : Walk (Itzs x y) n (fun _ => True) (fun i H v H' => ∃ T c d, v = .ref T ∧ H T = none ∧ H' = upd H T (.tup [.str ⟨#[c]⟩, .str ⟨#[d]⟩]) ∧ x.cps[i]? = some c ∧ y.cps[i]? = some d) := by
  subst hn
  exact ⟨fun _ _ hi _ => hi, fun _ _ => rfl, fun _ _ _ _ _ _ y => y⟩

/-- less, of data of one shape -/
def rLtD (K : PySem.W.Frag) : R2 := fun x y H Q => ∃ d e, Dp K H x d ∧ Dp K H y e ∧ PySem.W.alike d e = true ∧ d ≠ .none ∧ d.depth ≤ 60 ∧ Q (.bl (PySem.W.dataLt d e)) H
theorem op_ltD {X : Cx} (hu : X.A.units + 100 < cLine) : OpR X (compareOp .Lt) (rLtD X.K) := by
  intro pins s σ H x y v u Q I rx ry h
  obtain ⟨d, e, hd, he, al, nn, dp, q⟩ := h
  obtain ⟨as, r1⟩ := Dp.reads I d x v hd rx
  obtain ⟨bs, r2⟩ := Dp.reads I e y u he ry
  exact PySem.W.rcLt_alike d e X.A s v u as bs r1 r2 al nn (by have := Nat.min_le_left d.depth e.depth; omega) X.prog X.w _ _ ⟨.bl _, H, I, rfl, q⟩
end Ks

/-! Calls of defs with a star parameter, also under a try. -/
namespace Ks
open PySem PySem.Spec L2
open PyProof.Rows hiding St
section
variable {X : Cx} {CX : CXT} {k : Nat} {f : Addr} {sp : Sp} {E : L2.St → XK} {x : Str} {p pos : Pos} {e : Expr} {es : List Expr} {t : TA}
theorem run_fnRS {pins : List (Addr × Obj)} {σ : L2.St} {H : Hp} {s : Shared} {Q : VK} {us : List Value} {vs : List V} (F : FnR X.prog X.w X.K X.mg X.base CX k f sp) (hr : Room k X.A) (hx : PassesAt CX X σ (E σ)) (I : Inv X pins σ H s) (r : Vals vs us) (q : sp vs H Q (E σ)) :
    wpAny (model X.prog X.w) X.A (call (.ref f) us) (EP X pins σ Q) X.xe s := by
  refine wpAny_call (codeAny_mono (F X.A X.stack s H us vs Q (E σ) hr I.env0 r q) ?_)
  intro res s2 hq
  cases res with
  | error er => exact hx pins H s er s2 I hq
  | ok fl =>
    cases fl with
    | ret u => exact I.after hq
    | next => exact hq.elim
    | brk => exact hq.elim
    | cont => exact hq.elim
/-- f(e, ..) where f has a star parameter -/
theorem pe_callRS (F : FnR X.prog X.w X.K X.mg X.base CX k f sp) (hr : Room k X.A) (hg : Gl X x) (hm : X.mg x = some (.ref f)) (hk : PySem.W.keepIn X.K (.ref f) = true) (hx : ∀ σ, PassesAt CX X σ (E σ))
    (ha : PA X (e :: es) t) (hdb : (x == ("__debug__" : Str)) = false := by decide) (hst : starEach (e :: es) X.env = (false, eval e X.env) :: starEach es X.env := by rfl) (hpl : (backTo pos (starEach es X.env)).any (·.1) = false := by rfl) :
    PE X (.Call (.Name x p) (e :: es) [] pos) (tCallS sp E t) := by
  constructor
  intro pins s σ H Q I h
  refine wpAny_Call_Name_kw (ld_glob I hg hm ?_ hdb)
  refine PySem.W.callWith_K (h₀ := X.base) I.ok.mod.kin hk (thn (ha.run pos pins s σ H _ I h) ?_) hst hpl
  rintro us s1 ⟨vs, H1, I1, r, q⟩
  exact ⟨I1.kIn, run_fnRS F hr (hx σ) I1 r q⟩
theorem pe_callRS0 (F : FnR X.prog X.w X.K X.mg X.base CX k f sp) (hr : Room k X.A) (hg : Gl X x) (hm : X.mg x = some (.ref f)) (hk : PySem.W.keepIn X.K (.ref f) = true) (hx : ∀ σ, PassesAt CX X σ (E σ))
    (hdb : (x == ("__debug__" : Str)) = false := by decide) : PE X (.Call (.Name x p) [] [] pos) (tCallS sp E tNil) := by
  constructor
  intro pins s σ H Q I h
  refine Call_ (ld_glob I hg hm ?_ hdb)
  exact PySem.W.callWith_K0 I.kIn hk (run_fnRS (us := []) F hr (hx σ) I .nil h)
end
theorem passOut {X : Cx} {W : XK} (tk : Takes X (fun cls d _ H => W cls d H)) (σ : L2.St) : PassesAt (L2.CX X.prog X.w) X σ W := fun _ _ _ e s' I c => tk e s' (XE.of_call I (fun _ _ _ h => h) c)
end Ks

/-! The bag of drawn numbers: a list of three ints that each draw writes. -/
namespace Ks
open PySem PySem.Spec L2
open PyProof.Rows hiding St
/-- without what is tracked at b -/
def wo (b : Addr) (H : Hp) : Hp := fun a => if a = b then none else H a
def Bag (b : Addr) (H : Hp) : Prop := ∃ g m c : Int, H b = some (.lst [.int g, .int m, .int c])
/-- the bag is a bag again; all else is as it was -/
def Go (b : Addr) (H H' : Hp) : Prop := Bag b H' ∧ Same (wo b H) (wo b H')
theorem wo_ne {b a : Addr} {H : Hp} (h : a ≠ b) : wo b H a = H a := if_neg h
theorem wo_same (b : Addr) (H : Hp) : Same (wo b H) H := fun a o e => by
  by_cases h : a = b
  · have : wo b H a = none := if_pos h
    rw [this] at e
    cases e
  · rwa [wo_ne h] at e
theorem wo_up {b : Addr} {H H' : Hp} (s : Same H H') : Same (wo b H) (wo b H') := fun a o e => by
  by_cases h : a = b
  · have : wo b H a = none := if_pos h
    rw [this] at e
    cases e
  · rw [wo_ne h] at e ⊢
    exact s a o e
theorem wo_free {b : Addr} {H H' : Hp} (hb : H b = none) (s : Same H H') : Same H (wo b H') := fun a o e => by
  rw [wo_ne (ne_of_none e hb)]
  exact s a o e
theorem Go.refl {b : Addr} {H : Hp} (h : Bag b H) : Go b H H := ⟨h, Same.refl _⟩
theorem Go.trans {b : Addr} {H H1 H2 : Hp} (x : Go b H H1) (y : Go b H1 H2) : Go b H H2 := ⟨y.1, x.2.trans y.2⟩
theorem Go.same {b : Addr} {H H' : Hp} (h : Bag b H) (s : Same H H') : Go b H H' := by
  obtain ⟨g, m, c, e⟩ := h
  exact ⟨⟨g, m, c, s b _ e⟩, wo_up s⟩
theorem Go.at {b a : Addr} {H H' : Hp} {o : HO} (x : Go b H H') (h : a ≠ b) (e : H a = some o) : H' a = some o := by
  have := x.2 a o (by rw [wo_ne h]; exact e)
  rwa [wo_ne h] at this
theorem Go.put {b : Addr} {H H' : Hp} {g m c : Int} (x : Go b H H') : Go b H (upd H' b (.lst [.int g, .int m, .int c])) := by
  refine ⟨⟨g, m, c, upd_same⟩, fun a o e => ?_⟩
  have h : a ≠ b := fun z => by
    have : wo b H a = none := if_pos z
    rw [this] at e
    cases e
  have e1 := x.2 a o e
  rw [wo_ne h] at e1 ⊢
  rw [upd_ne h]
  exact e1
theorem Go.free {b a : Addr} {H H' : Hp} (x : Go b H H') (hb : Bag b H) (h : H' a = none) : H a = none := by
  cases q : H a with
  | none => rfl
  | some o =>
    have hne : a ≠ b := fun z => by
      obtain ⟨g, m, c, e⟩ := x.1
      rw [z, e] at h
      cases h
    rw [x.at hne q] at h
    cases h
/-- something new beside the bag -/
theorem Go.new {b a : Addr} {H H' : Hp} {o : HO} (x : Go b H H') (h : H' a = none) : Go b H (upd H' a o) :=
  x.trans (Go.same x.1 fun c u e => by
    rw [upd_ne (ne_of_none e h)]
    exact e)
/-- something tracked, not the bag, is written -/
theorem Go.set {b a : Addr} {H H' : Hp} {o : HO} (x : Go b H H') (h : H a = none) (hb : Bag b H) : Go b H (upd H' a o) := by
  have hne : a ≠ b := fun z => by
    obtain ⟨g, m, c, e⟩ := hb
    rw [z, e] at h
    cases h
  obtain ⟨⟨g, m, c, e⟩, s⟩ := x
  refine ⟨⟨g, m, c, by rw [upd_ne (Ne.symm hne)]; exact e⟩, fun d u e => ?_⟩
  have hd : d ≠ b := fun z => by
    have : wo b H d = none := if_pos z
    rw [this] at e
    cases e
  have hda : d ≠ a := fun z => by
    rw [wo_ne hd, z, h] at e
    cases e
  have := s d u e
  rw [wo_ne hd] at this ⊢
  rw [upd_ne hda]
  exact this
theorem Bag.ne {b a : Addr} {H : Hp} (hb : Bag b H) (h : H a = none) : a ≠ b := fun z => by
  obtain ⟨g, m, c, e⟩ := hb
  rw [z, e] at h
  cases h
/-! ### the promises of the drawing -/
def spDraw : Sp := fun vs H Q _ => ∃ b t, vs = [.ref b, .int t] ∧ 0 < t ∧ t.natAbs.log2 < 9000 ∧ Bag b H ∧ ∀ r : Nat, (r : Int) < t → ∀ H', Go b H H' → Q (.int r) H'
def spBag (K : PySem.W.Frag) : Sp := fun vs H Q _ => ∃ (a : Addr) (ns : List Int) (k : Int), vs = [.ref a, .int k] ∧ SqL K H a (ns.map V.int) ∧ (0 : Int) ≤ k ∧ ∀ p H', H p = none → Same H H' → Bag p H' → Q (.ref p) H'
def spOneOf : Sp := fun vs H Q _ => ∃ b p xs, vs = [.ref b, .ref p] ∧ Bag b H ∧ H p = some (.lst xs) ∧ p ≠ b ∧ xs ≠ [] ∧ xs.length ≤ 1000 ∧ ∀ x ∈ xs, ∀ H', Go b H H' → Q x H'
end Ks

namespace K03
open PySem PySem.Spec L2
open PyProof.Rows hiding St
def topS (i : Nat) : Stmt := PySem.Challenge.pw_mayrows_k03_errors_of_texts.main.body.getD i (.Pass ⟨0, 0, 0, 0⟩)
abbrev sInvalidnumberInit : Stmt := inClass (topS 4) 0
theorem scInvalidnumberInit : FnScope ["self", "given"] ["self", "given"] (defScope sInvalidnumberInit) := ⟨rfl, rfl, rfl, by decide +kernel, rfl, by decide +kernel, by decide +kernel⟩
abbrev sIsNumber : Stmt := topS 6
theorem scIsNumber : FnScope ["value", "low", "high"] ["value", "low", "high"] (defScope sIsNumber) := ⟨rfl, rfl, rfl, by decide +kernel, rfl, by decide +kernel, by decide +kernel⟩
abbrev sCheckNumber : Stmt := topS 7
theorem scCheckNumber : FnScope ["given", "low", "high"] ["given", "low", "high"] (defScope sCheckNumber) := ⟨rfl, rfl, rfl, by decide +kernel, rfl, by decide +kernel, by decide +kernel⟩
abbrev sIsText : Stmt := topS 10
theorem scIsText : FnScope ["value", "letters"] ["value", "letters"] (defScope sIsText) := ⟨rfl, rfl, rfl, by decide +kernel, rfl, by decide +kernel, by decide +kernel⟩
abbrev sTextsOf : Stmt := topS 11
abbrev sComesAhead : Stmt := topS 12
theorem scComesAhead : FnScope ["one", "other"] ["one", "other"] (defScope sComesAhead) := ⟨rfl, rfl, rfl, by decide +kernel, rfl, by decide +kernel, by decide +kernel⟩
abbrev sLineOf : Stmt := topS 13
theorem scLineOf : FnScope ["text", "line", "digits", "letter"] ["text", "line"] (defScope sLineOf) := ⟨rfl, rfl, rfl, by decide +kernel, rfl, by decide +kernel, by decide +kernel⟩
abbrev sTextOfLines : Stmt := topS 14
theorem scTextOfLines : FnScope ["lines", "line", "low", "high"] ["lines"] (defScope sTextOfLines) := ⟨rfl, rfl, rfl, by decide +kernel, rfl, by decide +kernel, by decide +kernel⟩
abbrev sCheckWidth : Stmt := topS 15
theorem scCheckWidth : FnScope ["width"] ["width"] (defScope sCheckWidth) := ⟨rfl, rfl, rfl, by decide +kernel, rfl, by decide +kernel, by decide +kernel⟩
abbrev sCheckText : Stmt := topS 16
theorem scCheckText : FnScope ["text", "lines"] ["text", "lines"] (defScope sCheckText) := ⟨rfl, rfl, rfl, by decide +kernel, rfl, by decide +kernel, by decide +kernel⟩
abbrev sCheckLetters : Stmt := topS 17
theorem scCheckLetters : FnScope ["letters"] ["letters"] (defScope sCheckLetters) := ⟨rfl, rfl, rfl, by decide +kernel, rfl, by decide +kernel, by decide +kernel⟩
abbrev sLbag : Stmt := topS 19
theorem scLbag : FnScope ["_law_script", "_law_at", "_law_cell", "_law_great", "_law_mixed"] ["_law_script", "_law_at"] (defScope sLbag) := ⟨rfl, rfl, rfl, by decide +kernel, rfl, by decide +kernel, by decide +kernel⟩
abbrev sLdraw : Stmt := topS 20
theorem scLdraw : FnScope ["_law_bag_here", "_law_total", "_law_found", "_law_one", "_law_two"] ["_law_bag_here", "_law_total"] (defScope sLdraw) := ⟨rfl, rfl, rfl, by decide +kernel, rfl, by decide +kernel, by decide +kernel⟩
abbrev sLoneOf : Stmt := topS 21
theorem scLoneOf : FnScope ["_law_bag_here", "_law_items"] ["_law_bag_here", "_law_items"] (defScope sLoneOf) := ⟨rfl, rfl, rfl, by decide +kernel, rfl, by decide +kernel, by decide +kernel⟩
abbrev sLtext : Stmt := topS 22
theorem scLtext : FnScope ["_law_bag_here", "_law_letters", "_law_width", "_law_turn"] ["_law_bag_here", "_law_letters", "_law_width"] (defScope sLtext) := ⟨rfl, rfl, rfl, by decide +kernel, rfl, by decide +kernel, by decide +kernel⟩
abbrev sLcall : Stmt := topS 23
theorem scLcall : FnScope ["_law_which", "_law_one", "_law_other"] ["_law_which", "_law_one", "_law_other"] (defScope sLcall) := ⟨rfl, rfl, rfl, by decide +kernel, rfl, by decide +kernel, by decide +kernel⟩
abbrev sLasked : Stmt := topS 24
theorem scLasked : FnScope ["_law_which", "_law_one", "_law_other", "e"] ["_law_which", "_law_one", "_law_other"] (defScope sLasked) := ⟨rfl, rfl, rfl, by decide +kernel, rfl, by decide +kernel, by decide +kernel⟩
abbrev sLlinesAsked : Stmt := topS 25
theorem scLlinesAsked : FnScope ["_law_lines"] ["_law_lines"] (defScope sLlinesAsked) := ⟨rfl, rfl, rfl, by decide +kernel, rfl, by decide +kernel, by decide +kernel⟩
abbrev sLnoNumber : Stmt := topS 26
theorem scLnoNumber : FnScope ["_law_bag_here"] ["_law_bag_here"] (defScope sLnoNumber) := ⟨rfl, rfl, rfl, by decide +kernel, rfl, by decide +kernel, by decide +kernel⟩
abbrev sLnoText : Stmt := topS 27
theorem scLnoText : FnScope ["_law_bag_here", "_law_letters", "_law_near", "_law_odd"] ["_law_bag_here", "_law_letters"] (defScope sLnoText) := ⟨rfl, rfl, rfl, by decide +kernel, rfl, by decide +kernel, by decide +kernel⟩
abbrev sLareNumbers : Stmt := topS 28
theorem scLareNumbers : FnScope ["_law_bag_here", "_law_wrong", "_law_other", "_law_width", "_law_size", "_law_value", "_law_line"] ["_law_bag_here"] (defScope sLareNumbers) := ⟨rfl, rfl, rfl, by decide +kernel, rfl, by decide +kernel, by decide +kernel⟩
abbrev sLareValues : Stmt := topS 29
theorem scLareValues : FnScope ["_law_bag_here", "_law_wrong", "_law_wrong_two", "_law_text_here", "_law_one", "_law_two", "_law_some"] ["_law_bag_here"] (defScope sLareValues) := ⟨rfl, rfl, rfl, by decide +kernel, rfl, by decide +kernel, by decide +kernel⟩
abbrev sLaw : Stmt := topS 30
theorem scLaw : FnScope ["_law_script", "_law_at", "_law_bag_here"] ["_law_script"] (defScope sLaw) := ⟨rfl, rfl, rfl, by decide +kernel, rfl, by decide +kernel, by decide +kernel⟩
end K03

namespace K03
open PySem PySem.Spec L2 Ks
open PyProof.Rows hiding St
section
variable {P : Program} {w : World} {K : PySem.W.Frag} {mg : Str → Option Value} {base : Heap}

/-! ### is_number -/
def spIsNumber : Sp := fun vs H Q _ => ∃ x lo hi, vs = [x, .int lo, .int hi] ∧ AnyV H x ∧ Q (.bl (isNum lo hi x)) H
theorem okIsNumber {f : Addr} {fd : FuncData} (D : Dn K mg "is_number" sIsNumber ["value", "low", "high"] f fd) (T : Bx mg) : FnOk P w K mg base CX0 1 f fd ["value", "low", "high"] spIsNumber := by
  refine D.F.ok scIsNumber (fun vs H Q E h => ?_) (fun cdv A outer s H vs Q E hr h => ?_)
  · obtain ⟨x, lo, hi, rfl, _⟩ := h
    rfl
  · obtain ⟨x, lo, hi, rfl, hx, q⟩ := h
    refine ⟨_, (pss_one (ps_ret (pe_and (pe_callB call_isi (by rfl) T.m_isinstance (by decide +kernel) (pa_cons (pv 0) (pa_cons (pe_bltn (v := .ty "int") (by rfl) T.m_int (by decide +kernel) rfl) pa_nil))) (pe_and (pe_not (pe_callB call_isi (by rfl) T.m_isinstance (by decide +kernel) (pa_cons (pv 0) (pa_cons (pe_bltn (v := .ty "bool") (by rfl) T.m_bool (by decide +kernel) rfl) pa_nil)))) (pe_one (pe_chain op_le op_le (pv 1) (pv 0) (pv 2))))))), ?_⟩
    obtain ⟨t, ty, k1, k2, _⟩ := hx.typed (K := K)
    refine ⟨x, rfl, x, .ty "int", .type t, .type "int", isI x, rfl, .ty "int", ty, kit_ty k1, isI x, rfl, ite2 (fun e1 => ?_) (fun e1 => ?_)⟩
    · refine ⟨x, rfl, x, .ty "bool", .type t, .type "bool", isB x, rfl, .ty "bool", ty, kit_ty k2, isB x, rfl, !isB x, rfl, ite2 (fun e2 => ?_) (fun e2 => ?_)⟩
      · cases hx with
        | int i =>
          refine ⟨_, rfl, _, rfl, lo, i, rfl, rfl, decide (lo ≤ i), rfl, ite2 (fun e3 => ?_) (fun e3 => ?_)⟩
          · refine ⟨_, rfl, i, hi, rfl, rfl, ?_⟩
            have e : isNum lo hi (.int i) = decide (i ≤ hi) := by
              show (decide (lo ≤ i) && decide (i ≤ hi)) = _
              rw [e3, Bool.true_and]
            rw [e] at q
            exact q
          · have e : isNum lo hi (.int i) = false := by
              show (decide (lo ≤ i) && decide (i ≤ hi)) = _
              rw [Bool.eq_false_iff.mpr e3, Bool.false_and]
            rw [e] at q
            exact q
        | bl b => cases e2
        | non => cases e1
        | str z => cases e1
        | lst _ => cases e1
        | tup _ => cases e1
        | dct _ => cases e1
      · have e : isNum lo hi x = false := by
          cases hx <;> first | rfl | exact absurd rfl e2
        rw [e] at q
        exact q
    · have e : isNum lo hi x = false := by
        cases hx <;> first | rfl | exact absurd rfl e1
      rw [e] at q
      exact q

/-! ### InvalidNumber -/
abbrev ixB : List Value := [.type "IndexError", .type "LookupError", .type "Exception", .type "BaseException", .type "object"]
abbrev INum (K : PySem.W.Frag) (mg : Str → Option Value) (C fI : Addr) (fd : FuncData) : Prop := KeepE K mg "InvalidNumber" "given" C fI fd ["self", "given"] "IndexError" ixB "IndexError.__new__" "IndexError.__init__"
theorem okInit {C f : Addr} {fd : FuncData} (F : Fun K "__init__" "InvalidNumber.__init__" sInvalidnumberInit f fd) (I : INum K mg C f fd) : FnOk P w K mg base CX0 1 f fd ["self", "given"] (spKeep C "given") := by
  refine F.ok scInvalidnumberInit (fun vs H Q E h => ?_) (fun cdv A outer s H vs Q E hr h => ?_)
  · obtain ⟨a, y, rfl, _⟩ := h
    rfl
  · obtain ⟨a, y, rfl, ha, q⟩ := h
    refine ⟨_, (pss_one (ps_keep I.T I.n (pv 0) (pv 1))), ?_⟩
    exact ⟨y, rfl, .ref a, rfl, a, rfl, ha, fun dx hd ne => q dx hd ne⟩
/-- the way out with an InvalidNumber that keeps x -/
def RNum (C : Addr) (E : XK) (H : Hp) (x : V) : Prop := ∀ d, H d = none → E (.ref C) (some d) (upd H d (.xd [("given", x)]))

/-! ### check_number -/
def spCheckNumber (C : Addr) : Sp := fun vs H Q E => ∃ x lo hi, vs = [x, .int lo, .int hi] ∧ AnyV H x ∧ (isNum lo hi x = true → Q .non H) ∧ (isNum lo hi x = false → RNum C E H x)
theorem okCheckNumber {C fI f f1 : Addr} {fdI fd fd1 : FuncData} (D : Dn K mg "check_number" sCheckNumber ["given", "low", "high"] f fd) (T : Bx mg) (DIsNumber : Dn K mg "is_number" sIsNumber ["value", "low", "high"] f1 fd1)
    (FI : Fun K "__init__" "InvalidNumber.__init__" sInvalidnumberInit fI fdI) (IInvalidNumber : INum K mg C fI fdI) : FnOk P w K mg base (L2.CX P w) 3 f fd ["given", "low", "high"] (spCheckNumber C) := by
  have GIsNumber : FnOk P w K mg base CX0 1 _ _ _ _ := okIsNumber DIsNumber T
  have GInvalidnumberInit : FnOk P w K mg base CX0 1 _ _ _ _ := okInit FI IInvalidNumber
  refine D.F.okX scCheckNumber (fun vs H Q E h => ?_) (fun cdv A outer s H vs Q E hr h => ?_)
  · obtain ⟨x, lo, hi, rfl, _⟩ := h
    rfl
  · obtain ⟨x, lo, hi, rfl, hx, q, r⟩ := h
    refine ⟨_, (pss_one (ps_if (pt_not (pt_val (pe_call GIsNumber (hr.mono (by decide)) (by rfl) DIsNumber.g DIsNumber.F.kp DIsNumber.b .nil pass0 (pa_cons (pv 0) (pa_cons (pv 1) (pa_cons (pv 2) pa_nil)))))) (pss_one (ps_raise rfl (takes_of rfl rfl rfl rfl) (Ks.pmk_keep IInvalidNumber.T IInvalidNumber.i IInvalidNumber.t GInvalidnumberInit (hr.mono (by decide)) IInvalidNumber.b passZ (by rfl) IInvalidNumber.g (pa_cons (pv 0) pa_nil)))) pss_nil)), ?_⟩
    refine ⟨_, rfl, _, rfl, _, rfl, x, lo, hi, rfl, hx, isNum lo hi x, rfl, ite2 (fun e => ?_) (fun e => ?_)⟩
    · exact ⟨x, rfl, x, rfl, fun d hd => r (by simpa using e) d hd⟩
    · exact q (by simpa using e)
end
end K03

namespace K03
open PySem PySem.Spec L2 Ks
open PyProof.Rows hiding St
def Fit (x : V) : Prop := ∀ z, x = .str z → z.length ≤ sizeLine
def lettersOk (x : V) : Bool := isNum 2 2 x || isNum 4 4 x
def isTxt (n : Int) : V → Bool
  | .str z => txt n z
  | _ => false
section
variable {P : Program} {w : World} {K : PySem.W.Frag} {mg : Str → Option Value} {base : Heap}
/-- the errors' classes -/
structure Er (K : PySem.W.Frag) (mg : Str → Option Value) (CN CT fI : Addr) (fdI : FuncData) : Prop where
  FI : Fun K "__init__" "InvalidNumber.__init__" sInvalidnumberInit fI fdI
  IN : INum K mg CN fI fdI
  OT : OwnE K mg "InvalidText" CT
/-- the defs of the package's first two files -/
structure Ds (K : PySem.W.Frag) (mg : Str → Option Value) (fN fC fL fT fX fW : Addr) (dN dC dL dT dX dW : FuncData) : Prop where
  isN : Dn K mg "is_number" sIsNumber ["value", "low", "high"] fN dN
  chN : Dn K mg "check_number" sCheckNumber ["given", "low", "high"] fC dC
  chL : Dn K mg "_check_letters" sCheckLetters ["letters"] fL dL
  isT : Dn K mg "is_text" sIsText ["value", "letters"] fT dT
  chT : Dn K mg "check_text" sCheckText ["text", "lines"] fX dX
  chW : Dn K mg "check_width" sCheckWidth ["width"] fW dW
  wid : ∃ t, mg "MAX_WIDTH" = some (.int 200 t)

variable {CN CT fI fN fC fL fT fX fW : Addr} {fdI dN dC dL dT dX dW : FuncData}
/-! ### _check_letters -/
def spCheckLetters (C : Addr) : Sp := fun vs H Q E => ∃ x, vs = [x] ∧ AnyV H x ∧ (lettersOk x = true → Q .non H) ∧ (lettersOk x = false → RNum C E H x)
theorem okCheckLetters (S : Ds K mg fN fC fL fT fX fW dN dC dL dT dX dW) (T : Bx mg) (R : Er K mg CN CT fI fdI) : FnOk P w K mg base (L2.CX P w) 3 fL dL ["letters"] (spCheckLetters CN) := by
  have DIsNumber := S.isN
  have IInvalidNumber := R.IN
  have GIsNumber : FnOk P w K mg base CX0 1 _ _ _ _ := okIsNumber DIsNumber T
  have GInvalidnumberInit : FnOk P w K mg base CX0 1 _ _ _ _ := okInit R.FI IInvalidNumber
  refine S.chL.F.okX scCheckLetters (fun vs H Q E h => ?_) (fun cdv A outer s H vs Q E hr h => ?_)
  · obtain ⟨x, rfl, _⟩ := h
    rfl
  · obtain ⟨x, rfl, hx, q, r⟩ := h
    refine ⟨_, ((pss_one (ps_if (PW.pt (pw_and (pt_not (pt_val (pe_call GIsNumber (hr.mono (by decide)) (by rfl) DIsNumber.g DIsNumber.F.kp DIsNumber.b .nil pass0 (pa_cons (pv 0) (pa_cons pe_int (pa_cons pe_int pa_nil)))))) (pw_and1 (pt_not (pt_val (pe_call GIsNumber (hr.mono (by decide)) (by rfl) DIsNumber.g DIsNumber.F.kp DIsNumber.b .nil pass0 (pa_cons (pv 0) (pa_cons pe_int (pa_cons pe_int pa_nil))))))))) (pss_one (ps_raise rfl (takes_of rfl rfl rfl rfl) (Ks.pmk_keep IInvalidNumber.T IInvalidNumber.i IInvalidNumber.t GInvalidnumberInit (hr.mono (by decide)) IInvalidNumber.b passZ (by rfl) IInvalidNumber.g (pa_cons (pv 0) pa_nil)))) pss_nil))), ?_⟩
    refine ⟨_, rfl, x, 2, 2, rfl, hx, isNum 2 2 x, rfl, ite2 (fun e => ?_) (fun e => ?_)⟩
    · refine ⟨_, rfl, x, 4, 4, rfl, hx, isNum 4 4 x, rfl, ite2 (fun e2 => ?_) (fun e2 => ?_)⟩
      · exact ⟨x, rfl, x, rfl, fun d hd => r (by unfold lettersOk; simpa using And.intro e e2) d hd⟩
      · exact q (by unfold lettersOk; simp at e2; rw [e2]; simp)
    · exact iteF (q (by unfold lettersOk; simp at e; rw [e]; simp))
/-! ### check_width -/
def spCheckWidth (C : Addr) : Sp := fun vs H Q E => ∃ x, vs = [x] ∧ AnyV H x ∧ (isNum 0 200 x = true → Q .non H) ∧ (isNum 0 200 x = false → RNum C E H x)
theorem okCheckWidth (S : Ds K mg fN fC fL fT fX fW dN dC dL dT dX dW) (T : Bx mg) (R : Er K mg CN CT fI fdI) : FnOk P w K mg base (L2.CX P w) 4 fW dW ["width"] (spCheckWidth CN) := by
  have DCheckNumber := S.chN
  have GCheckNumber : FnOk P w K mg base (L2.CX P w) 3 _ _ _ _ := okCheckNumber DCheckNumber T S.isN R.FI R.IN
  obtain ⟨tW, hW⟩ := S.wid
  refine S.chW.F.okX scCheckWidth (fun vs H Q E h => ?_) (fun cdv A outer s H vs Q E hr h => ?_)
  · obtain ⟨x, rfl, _⟩ := h
    rfl
  · obtain ⟨x, rfl, hx, q, r⟩ := h
    refine ⟨_, (pss_one (ps_expr (pe_call GCheckNumber (hr.mono (by decide)) (by rfl) DCheckNumber.g DCheckNumber.F.kp DCheckNumber.b .nil (passes_call (takes_of rfl rfl rfl rfl) (fun _ _ _ _ z => z)) (pa_cons (pv 0) (pa_cons pe_int (pa_cons (pe_glob (v := .int 200) rfl hW ⟨_, rfl⟩) pa_nil)))))), ?_⟩
    exact ⟨_, rfl, x, 0, 200, rfl, hx, q, r⟩
/-! ### is_text -/
def spIsText (C : Addr) : Sp := fun vs H Q E => ∃ x y, vs = [x, y] ∧ AnyV H x ∧ Fit x ∧ AnyV H y ∧ (lettersOk y = false → RNum C E H y) ∧ (∀ n : Int, y = .int n → n = 2 ∨ n = 4 → Q (.bl (isTxt n x)) H)
theorem okIsText (S : Ds K mg fN fC fL fT fX fW dN dC dL dT dX dW) (T : Bx mg) (R : Er K mg CN CT fI fdI) : FnOk P w K mg base (L2.CX P w) 4 fT dT ["value", "letters"] (spIsText CN) := by
  have DCheckLetters := S.chL
  have GCheckLetters : FnOk P w K mg base (L2.CX P w) 3 _ _ _ _ := okCheckLetters S T R
  obtain ⟨tW, hW⟩ := S.wid
  refine S.isT.F.okX scIsText (fun vs H Q E h => ?_) (fun cdv A outer s H vs Q E hr h => ?_)
  · obtain ⟨x, y, rfl, _⟩ := h
    rfl
  · obtain ⟨x, y, rfl, hx, fx, hy, r, q⟩ := h
    refine ⟨_, (pss_cons (ps_expr (pe_call GCheckLetters (hr.mono (by decide)) (by rfl) DCheckLetters.g DCheckLetters.F.kp DCheckLetters.b .nil (passes_call (takes_of rfl rfl rfl rfl) (fun _ _ _ _ z => z)) (pa_cons (pv 1) pa_nil)))
  (pss_one (ps_ret (pe_and (pe_callB call_isi (by rfl) T.m_isinstance (by decide +kernel) (pa_cons (pv 0) (pa_cons (pe_bltn (v := .ty "str") (by rfl) T.m_str (by decide +kernel) rfl) pa_nil))) (pe_and (pe_cmpR op_le (pe_callB call_len (by rfl) T.m_len (by decide +kernel) (pa_cons (pv 0) pa_nil)) (pe_glob (v := .int 200) rfl hW ⟨_, rfl⟩) (nomark _)) (pe_one (pe_cmpR op_eq (pe_bm PySem.F.plainAttrs_str PySem.F.slot_str_strip PySem.F.type_str_strip mt_stripChars (pv 0) (pa_cons (pe_slice sl_str pe_str po_none (po_some (pv 1))) pa_nil)) pe_str (nomark _)))))))), ?_⟩
    refine ⟨y, rfl, y, rfl, hy, fun ok => ?_, r⟩
    obtain ⟨n, rfl, hn⟩ : ∃ n : Int, y = .int n ∧ (n = 2 ∨ n = 4) := by
      cases hy with
      | int i =>
        refine ⟨i, rfl, ?_⟩
        unfold lettersOk isNum at ok
        simp only [Bool.or_eq_true, Bool.and_eq_true, decide_eq_true_eq] at ok
        omega
      | _ => cases ok
    have q := q n rfl hn
    obtain ⟨t, ty, _, _, k3⟩ := hx.typed (K := K)
    refine ⟨x, rfl, x, .ty "str", .type t, .type "str", isS x, rfl, .ty "str", ty, kit_ty k3, isS x, rfl, ite2 (fun e1 => ?_) (fun e1 => ?_)⟩
    · cases hx with
      | str z =>
        have fz := fx z rfl
        refine ⟨_, rfl, .str z, z.length, rfl, ⟨fz, rfl⟩, _, _, rfl, rfl, _, rfl, ite2 (fun e2 => ?_) (fun e2 => ?_)⟩
        · refine ⟨_, rfl, rfl, _, rfl, n, rfl, ("0123" : Str), rfl, by decide, z, _, rfl, rfl, fz, rfl, ?_⟩
          have e : isTxt n (.str z) = decide (V.str (Txt.stripChars z (cutS "0123" none (some n))) = V.str ("" : Str)) := by
            have h3 : ((z.length : Int) ≤ 200) := by simpa using e2
            rw [strip_empty]
            show (decide (z.length ≤ 200) && _) = _
            rw [decide_eq_true (by omega), Bool.true_and]
            rfl
          rw [e] at q
          exact q
        · have e : isTxt n (.str z) = false := by
            have h3 : ¬ ((z.length : Int) ≤ 200) := by simpa using e2
            show (decide (z.length ≤ 200) && _) = false
            rw [decide_eq_false (by omega), Bool.false_and]
          rw [e] at q
          exact q
      | _ => cases e1
    · have e : isTxt n x = false := by
        cases hx <;> first | rfl | exact absurd rfl e1
      rw [e] at q
      exact q
/-! ### check_text -/
def spCheckText (C : Addr) : Sp := fun vs H Q E => ∃ x l, vs = [x, .int l] ∧ AnyV H x ∧ Fit x ∧ (l = 1 ∨ l = 2) ∧ (isTxt (2 * l) x = true → Q .non H) ∧ (isTxt (2 * l) x = false → E (.ref C) none H)
theorem okCheckText (S : Ds K mg fN fC fL fT fX fW dN dC dL dT dX dW) (T : Bx mg) (R : Er K mg CN CT fI fdI) : FnOk P w K mg base (L2.CX P w) 5 fX dX ["text", "lines"] (spCheckText CT) := by
  have DIsText := S.isT
  have OInvalidText := R.OT
  have GIsText : FnOk P w K mg base (L2.CX P w) 4 _ _ _ _ := okIsText S T R
  refine S.chT.F.okX scCheckText (fun vs H Q E h => ?_) (fun cdv A outer s H vs Q E hr h => ?_)
  · obtain ⟨x, l, rfl, _⟩ := h
    rfl
  · obtain ⟨x, l, rfl, hx, fx, hl, q, r⟩ := h
    refine ⟨_, ((pss_one (ps_if (pt_not (pt_val (pe_call GIsText (hr.mono (by decide)) (by rfl) DIsText.g DIsText.F.kp DIsText.b .nil (passes_call (takes_of rfl rfl rfl rfl) (fun _ _ _ _ z => z)) (pa_cons (pv 0) (pa_cons (pe_op op_shl pe_int (pv 1)) pa_nil))))) (pss_one (ps_raise rfl (takes_of rfl rfl rfl rfl) (pmk_own PySem.F.excBase_ValueError OInvalidText.x OInvalidText.g OInvalidText.k (raises_own OInvalidText.b OInvalidText.t) rfl))) pss_nil))), ?_⟩
    have e2 : (1 : Int) * 2 ^ l.toNat = 2 * l ∧ (2 * l = 2 ∨ 2 * l = 4) := by
      rcases hl with rfl | rfl <;> exact ⟨by decide, by decide⟩
    refine ⟨x, rfl, .int l, rfl, 1, l, rfl, rfl, ⟨by omega, by omega, by decide⟩, x, .int (1 * 2 ^ l.toNat), rfl, hx, fx, .int _, fun bad => ?_, fun n en hn => ?_⟩
    · exfalso
      rw [e2.1] at bad
      unfold lettersOk isNum at bad
      rcases e2.2 with e | e <;> rw [e] at bad <;> exact absurd bad (by decide)
    · rw [e2.1] at en
      cases en
      refine ⟨_, rfl, ite2 (fun e => ?_) (fun e => ?_)⟩
      · exact r (by simpa using e)
      · exact q (by simpa using e)
end
end K03

namespace K03
open PySem PySem.Spec L2 Ks
open PyProof.Rows hiding St
theorem isTxt_str {n : Int} {x : V} (h : isTxt n x = true) : ∃ z, x = .str z ∧ z.length ≤ 200 ∧ ((cl z).all fun c => (alpha n).cps.contains c) = true := by
  cases x with
  | str z =>
    have h' : (decide (z.length ≤ 200) && (cl z).all fun c => (alpha n).cps.contains c) = true := h
    rw [Bool.and_eq_true] at h'
    exact ⟨z, rfl, of_decide_eq_true h'.1, h'.2⟩
  | _ => cases h
theorem line200 {n : Nat} (h : n ≤ 200) : n ≤ sizeLine := Nat.le_trans h (by decide)
section
variable {P : Program} {w : World} {K : PySem.W.Frag} {mg : Str → Option Value} {base : Heap}
variable {CN CT CO fI fN fC fL fT fX fW : Addr} {fdI dN dC dL dT dX dW : FuncData}
/-! ### comes_ahead -/
def spAhead (C : Addr) : Sp := fun vs H Q E => ∃ x y, vs = [x, y] ∧ AnyV H x ∧ Fit x ∧ AnyV H y ∧ Fit y ∧
  ((isTxt 4 x && isTxt 4 y) = false → E (.ref C) none H) ∧ ((isTxt 4 x && isTxt 4 y) = true → ∀ b H', Same H H' → Q (.bl b) H')
theorem okAhead {f : Addr} {fd : FuncData} (D : Dn K mg "comes_ahead" sComesAhead ["one", "other"] f fd) (S : Ds K mg fN fC fL fT fX fW dN dC dL dT dX dW) (T : Bx mg) (R : Er K mg CN CT fI fdI) : FnOk P w K mg base (L2.CX P w) 6 f fd ["one", "other"] (spAhead CT) := by
  have DCheckText := S.chT
  have GCheckText : FnOk P w K mg base (L2.CX P w) 5 _ _ _ _ := okCheckText S T R
  refine D.F.okX scComesAhead (fun vs H Q E h => ?_) (fun cdv A outer s H vs Q E hr h => ?_)
  · obtain ⟨x, y, rfl, _⟩ := h
    rfl
  · obtain ⟨x, y, rfl, hx, fx, hy, fy, r, q⟩ := h
    refine ⟨_, ((pss_cons (ps_expr (pe_call GCheckText (hr.mono (by decide)) (by rfl) DCheckText.g DCheckText.F.kp DCheckText.b .nil (passes_call (takes_of rfl rfl rfl rfl) (fun _ _ _ _ z => z)) (pa_cons (pv 0) (pa_cons pe_int pa_nil))))
  (pss_cons (ps_expr (pe_call GCheckText (hr.mono (by decide)) (by rfl) DCheckText.g DCheckText.F.kp DCheckText.b .nil (passes_call (takes_of rfl rfl rfl rfl) (fun _ _ _ _ z => z)) (pa_cons (pv 1) (pa_cons pe_int pa_nil))))
  (pss_one (ps_ret (pe_cmpR (Ks.op_ltD ((show ∀ a b : Nat, b + 280 < a → b + 100 < a from fun _ _ h => by omega) _ _ hr.un)) (pe_tup (pa_cons (pe_callB call_len (by rfl) T.m_len (by decide +kernel) (pa_cons (pv 0) pa_nil)) (pa_cons (pv 0) pa_nil))) (pe_tup (pa_cons (pe_callB call_len (by rfl) T.m_len (by decide +kernel) (pa_cons (pv 1) pa_nil)) (pa_cons (pv 1) pa_nil))) (nomark _))))))), ?_⟩
    refine ⟨x, rfl, x, 2, rfl, hx, fx, .inr rfl, fun e1 => ?_, fun e1 => r (by rw [show isTxt 4 x = false from e1, Bool.false_and])⟩
    have e1' : isTxt 4 x = true := e1
    refine ⟨y, rfl, y, 2, rfl, hy, fy, .inr rfl, fun e2 => ?_, fun e2 => r (by rw [show isTxt 4 y = false from e2, Bool.and_false])⟩
    have e2' : isTxt 4 y = true := e2
    obtain ⟨z, rfl, lz, _⟩ := isTxt_str e1'
    obtain ⟨u, rfl, lu, _⟩ := isTxt_str e2'
    have lz' := line200 lz
    have lu' := line200 lu
    refine ⟨_, rfl, .str z, z.length, rfl, ⟨lz', rfl⟩, _, rfl, (show 2 ≤ sizeLine by decide), fun p np => ?_⟩
    refine ⟨_, rfl, .str u, u.length, rfl, ⟨lu', rfl⟩, _, rfl, (show 2 ≤ sizeLine by decide), fun p2 np2 => ?_⟩
    have sm : Same H (upd H p (.tup [.int z.length, .str z])) := fun b o e => by
      rw [upd_ne (ne_of_none e np)]
      exact e
    have sm2 : Same (upd H p (.tup [.int z.length, .str z])) (upd (upd H p (.tup [.int z.length, .str z])) p2 (.tup [.int u.length, .str u])) := fun b o e => by
      rw [upd_ne (ne_of_none e np2)]
      exact e
    refine ⟨.tuple [.int z.length, .str z], .tuple [.int u.length, .str u], .tup (.inl (.inl (sm2 _ _ upd_same))) (.cons (.int _) (.cons (.str _) .nil)), .tup (.inl (.inl upd_same)) (.cons (.int _) (.cons (.str _) .nil)), rfl, (fun e => nomatch e), (show 1 ≤ 60 by decide), ?_⟩
    exact q (by rw [e1', e2']; rfl) _ _ (sm.trans sm2)
/-! ### line_of -/
def spLineOf (CT CN : Addr) : Sp := fun vs H Q E => ∃ x y, vs = [x, y] ∧ AnyV H x ∧ Fit x ∧ AnyV H y ∧
  (isTxt 4 x = false → E (.ref CT) none H) ∧ (isTxt 4 x = true → isNum 0 1 y = false ∧ RNum CN E H y)
theorem okLineOf {f : Addr} {fd : FuncData} (D : Dn K mg "line_of" sLineOf ["text", "line"] f fd) (S : Ds K mg fN fC fL fT fX fW dN dC dL dT dX dW) (T : Bx mg) (R : Er K mg CN CT fI fdI) : FnOk P w K mg base (L2.CX P w) 6 f fd ["text", "line"] (spLineOf CT CN) := by
  have DCheckText := S.chT
  have GCheckText : FnOk P w K mg base (L2.CX P w) 5 _ _ _ _ := okCheckText S T R
  have DCheckNumber := S.chN
  have GCheckNumber : FnOk P w K mg base (L2.CX P w) 3 _ _ _ _ := okCheckNumber DCheckNumber T S.isN R.FI R.IN
  refine D.F.okX scLineOf (fun vs H Q E h => ?_) (fun cdv A outer s H vs Q E hr h => ?_)
  · obtain ⟨x, y, rfl, _⟩ := h
    rfl
  · obtain ⟨x, y, rfl, hx, fx, hy, r, q⟩ := h
    refine ⟨_, ((pss_cons (ps_expr (pe_call GCheckText (hr.mono (by decide)) (by rfl) DCheckText.g DCheckText.F.kp DCheckText.b .nil (passes_call (takes_of rfl rfl rfl rfl) (fun _ _ _ _ z => z)) (pa_cons (pv 0) (pa_cons pe_int pa_nil))))
  (pss_cons (ps_expr (pe_call GCheckNumber (hr.mono (by decide)) (by rfl) DCheckNumber.g DCheckNumber.F.kp DCheckNumber.b .nil (passes_call (takes_of rfl rfl rfl rfl) (fun _ _ _ _ z => z)) (pa_cons (pv 1) (pa_cons pe_int (pa_cons pe_int pa_nil)))))
  (pss_cons (ps_set (i := 2) scLineOf.nd rfl (Or.inr rfl) (pe_ifExp (pt_cmpR op_eq (pv 1) pe_int (nomark _)) pe_str pe_str))
  (pss_one (ps_ret (pe_join pe_str (pe_lc (own := [("letter", 3)]) (g := gName 3) rfl scLineOf.nd (pi_str (pv 0)) (blkOk_by (own := [("letter", 3)]) (N := ["text", "line", "digits", "letter"]) (sc := defScope sLineOf) (by decide +kernel)) (fun _ _ _ _ _ => (pg_name (i := 3) scLineOf.nd rfl (Or.inl rfl))) (fun _ _ _ _ _ => pts_nil) (fun _ _ _ _ _ => (pe_ix ix_str (pv 2) (pe_callTy call_int_str (by rfl) T.m_int (by decide +kernel) (pa_cons (pv 3) pa_nil)) (fun _ _ => rfl))))))))))), ?_⟩
    refine ⟨x, rfl, x, 2, rfl, hx, fx, .inr rfl, fun e1 => ?_, fun e1 => r e1⟩
    obtain ⟨ny, ry⟩ := q e1
    refine ⟨y, rfl, y, 0, 1, rfl, hy, fun e2 => ?_, fun _ => ry⟩
    rw [ny] at e2
    cases e2
end
end K03

namespace K03
open PySem PySem.Spec L2 Ks
open PyProof.Rows hiding St
theorem same_new {H : Hp} {p : Addr} {o : HO} (np : H p = none) : Same H (upd H p o) := fun b x e => by
  rw [upd_ne (ne_of_none e np)]
  exact e
/-- one digit of a text -/
theorem digit_of {n : Int} {z : Str} {i : Nat} {c : Nat} (h : isTxt n (.str z) = true) (hn : n = 2 ∨ n = 4) (hc : z.cps[i]? = some c) : ∃ r : Nat, (r : Int) < n ∧ r < 4 ∧ c = 48 + r := by
  obtain ⟨z', e, _, ha⟩ := isTxt_str h
  cases e
  rw [List.all_eq_true] at ha
  have hm : c ∈ cl z := by
    rw [← Array.getElem?_toList] at hc
    exact List.mem_of_getElem? hc
  have h1 := ha c hm
  rcases hn with rfl | rfl
  · rw [alpha2] at h1
    have h2 : c = 48 ∨ c = 49 := by simpa using h1
    rcases h2 with rfl | rfl
    · exact ⟨0, by decide, by decide, rfl⟩
    · exact ⟨1, by decide, by decide, rfl⟩
  · rw [alpha4] at h1
    have h2 : c = 48 ∨ c = 49 ∨ c = 50 ∨ c = 51 := by simpa using h1
    rcases h2 with rfl | rfl | rfl | rfl
    · exact ⟨0, by decide, by decide, rfl⟩
    · exact ⟨1, by decide, by decide, rfl⟩
    · exact ⟨2, by decide, by decide, rfl⟩
    · exact ⟨3, by decide, by decide, rfl⟩
theorem int_digit {r : Nat} (h : r < 4) : intText? ⟨#[48 + r]⟩ = some (r : Int) := by
  match r, h with
  | 0, _ => decide +kernel
  | 1, _ => decide +kernel
  | 2, _ => decide +kernel
  | 3, _ => decide +kernel
section
variable {P : Program} {w : World} {K : PySem.W.Frag} {mg : Str → Option Value} {base : Heap}
variable {CN CT CO fI fN fC fL fT fX fW : Addr} {fdI dN dC dL dT dX dW : FuncData}
/-! ### text_of_lines -/
/-- the way out of some lines: none is no text and there are two of a width, or an error -/
def LinesSp (CT CO : Addr) (xs : List V) (Q : VK) (E : XK) (H : Hp) : Prop :=
  (∀ x ∈ xs, AnyV H x ∧ Fit x) ∧ xs.length ≤ 3 ∧ ((xs.all (isTxt 2)) = false → E (.ref CT) none H) ∧ ((xs.all (isTxt 2)) = true → xs.length ≠ 1 ∧
    (∀ x y, xs = [.str x, .str y] → x.length = y.length → ∀ z H', Same H H' → Q (.str z) H') ∧ ((∀ x y, xs = [.str x, .str y] → x.length ≠ y.length) → E (.ref CO) none H))
def spLines (CT CO : Addr) : Sp := fun vs H Q E => ∃ p xs, vs = [.ref p] ∧ H p = some (.tup xs) ∧ LinesSp CT CO xs Q E H
theorem okLines {f : Addr} {fd : FuncData} (F : Fun K "text_of_lines" "text_of_lines" sTextOfLines f fd) (S : Ds K mg fN fC fL fT fX fW dN dC dL dT dX dW) (T : Bx mg) (R : Er K mg CN CT fI fdI) (OInvalidOperation : OwnE K mg "InvalidOperation" CO) :
    FnR P w K mg base (L2.CX P w) 6 f (fun vs H Q E => ∃ ws rest, vs = ws ++ rest ∧ ws.length = ([] : List Str).length ∧ rest.length ≤ sizeLine ∧ ∀ p, H p = Option.none → spLines CT CO (ws ++ [V.ref p]) (upd H p (.tup rest)) Q E) := by
  have DCheckText := S.chT
  have GCheckText : FnOk P w K mg base (L2.CX P w) 5 _ _ _ _ := okCheckText S T R
  obtain ⟨oc, od, kV, doc, pm, an, cdv, ct, osl, rfl, lk, hcd⟩ := F.ex
  refine StX.fn_star (ps := []) (pv := "lines") lk hcd scTextOfLines StX.cxUp (fun us rest hl => match us, rest, hl with | [], [], _ => rfl | [], _ :: _, _ => rfl) (fun A outer s H vs Q E hr h => ?_)
  obtain ⟨p, xs, rfl, hp, hv, hl3, r, q⟩ := h
  have hS : SqT K H p xs := .inl (.inl hp)
  refine ⟨_, ((pss_cons (ps_for PassesOwn.leaving rfl (pi_tup (pv 0)) (pg_name (i := 1) scTextOfLines.nd rfl (Or.inl rfl)) (pss_one (ps_expr (pe_call GCheckText (hr.mono (by decide)) (by rfl) DCheckText.g DCheckText.F.kp DCheckText.b .nil (passes_call (takes_of rfl rfl rfl rfl) (fun _ _ _ _ z => z)) (pa_cons (pv 1) (pa_cons pe_int pa_nil))))))
  (pss_cons (ps_if (pt_cmpR op_eq (pe_callB call_len_seq (by rfl) T.m_len (by decide +kernel) (pa_cons (pv 0) pa_nil)) pe_int (nomark _)) (pss_one (ps_ret (pe_ix ix_tup (pv 0) pe_int (fun _ _ => rfl)))) pss_nil)
  (pss_cons (ps_if (PW.pt (pw_or (pt_cmpR op_ne (pe_callB call_len_seq (by rfl) T.m_len (by decide +kernel) (pa_cons (pv 0) pa_nil)) pe_int (nomark _)) (pw_or1 (pt_cmpR op_ne (pe_callB call_len (by rfl) T.m_len (by decide +kernel) (pa_cons (pe_ix ix_tup (pv 0) pe_int (fun _ _ => rfl)) pa_nil)) (pe_callB call_len (by rfl) T.m_len (by decide +kernel) (pa_cons (pe_ix ix_tup (pv 0) pe_int (fun _ _ => rfl)) pa_nil)) (nomark _))))) (pss_one (ps_raise rfl (takes_of rfl rfl rfl rfl) (pmk_own PySem.F.excBase_ValueError OInvalidOperation.x OInvalidOperation.g OInvalidOperation.k (raises_own OInvalidOperation.b OInvalidOperation.t) rfl))) pss_nil)
  (pss_one (ps_ret (pe_join pe_str (pe_lc (own := [("low", 2), ("high", 3)]) (g := gTup K 2 (gCons (gName 2) (gCons (gName 3) gNil))) rfl scTextOfLines.nd (Ks.pi_zipS (by rfl) T.m_zip (pa_cons (pe_ix ix_tup (pv 0) pe_int (fun _ _ => rfl)) (pa_cons (pe_ix ix_tup (pv 0) pe_int (fun _ _ => rfl)) pa_nil))) (blkOk_by (own := [("low", 2), ("high", 3)]) (N := ["lines", "line", "low", "high"]) (sc := defScope sTextOfLines) (by decide +kernel)) (fun _ _ _ _ _ => (pg_tup rfl (pgs_cons (pg_name (i := 2) scTextOfLines.nd rfl (Or.inl rfl)) (pgs_cons (pg_name (i := 3) scTextOfLines.nd rfl (Or.inl rfl)) pgs_nil)))) (fun _ _ _ _ _ => pts_nil) (fun _ _ _ _ _ => (pe_callTy call_str_int (by rfl) T.m_str (by decide +kernel) (pa_cons (pe_op op_add (pe_callTy call_int_str (by rfl) T.m_int (by decide +kernel) (pa_cons (pv 2) pa_nil)) (pe_op op_mul pe_int (pe_callTy call_int_str (by rfl) T.m_int (by decide +kernel) (pa_cons (pv 3) pa_nil)))) pa_nil))))))))))), ?_⟩
  refine ⟨.ref p, rfl, p, rfl, ⟨xs, hS⟩, for_it (walk_tup (xs := xs)) (fun i σ H' => H' = H ∧ (∃ y, σ = [some (.ref p), y, none, none]) ∧ ∀ j x, j < i → xs[j]? = some x → isTxt 2 x = true) ⟨rfl, ⟨none, rfl⟩, fun j x hj => absurd hj (Nat.not_lt_zero j)⟩ (fun i σ H' _ h => by rw [h.1]; exact hS) (fun i x σ H' H2 hi h hy => ?_) (fun σ H' h => ?_)⟩
  · obtain ⟨rfl, ⟨y, rfl⟩, ht⟩ := h
    obtain ⟨rfl, hx⟩ := hy
    have hm : x ∈ xs := List.mem_of_getElem? hx
    obtain ⟨vx, fx⟩ := hv x hm
    refine ⟨x, rfl, x, 1, rfl, vx, fx, .inl rfl, fun e => ⟨rfl, ⟨some x, rfl⟩, fun j z hj hz => ?_⟩, fun e => r ?_⟩
    · rcases Nat.lt_or_ge j i with g | g
      · exact ht j z g hz
      · have ej : j = i := by omega
        subst ej
        rw [hx] at hz
        cases hz
        exact e
    · rw [Bool.eq_false_iff]
      intro z
      rw [List.all_eq_true] at z
      have := z x hm
      rw [show isTxt 2 x = false from e] at this
      cases this
  · obtain ⟨rfl, ⟨y, rfl⟩, ht⟩ := h
    have al : xs.all (isTxt 2) = true := by
      rw [List.all_eq_true]
      intro x hx
      obtain ⟨j, hj, e⟩ := List.getElem_of_mem hx
      exact ht j x hj (by rw [List.getElem?_eq_getElem hj, e])
    obtain ⟨n1, q2, qo⟩ := q al
    refine ⟨.ref p, rfl, p, xs, rfl, .inr hS, rfl, _, rfl, ite2 (fun e => absurd (V.int.inj (of_decide_eq_true e)) (by omega)) (fun _ => ?_)⟩
    have go : ∀ x y, xs = [.str x, .str y] → x.length ≤ 200 ∧ y.length ≤ 200 ∧ isTxt 2 (.str x) = true ∧ isTxt 2 (.str y) = true := fun x y e => by
      rw [e] at al
      have h1 : isTxt 2 (.str x) = true ∧ isTxt 2 (.str y) = true := by simpa using al
      obtain ⟨x', ex, lx, _⟩ := isTxt_str h1.1
      obtain ⟨y', ey, ly, _⟩ := isTxt_str h1.2
      cases ex
      cases ey
      exact ⟨lx, ly, h1⟩
    refine ⟨.ref p, rfl, p, xs, rfl, .inr hS, rfl, _, rfl, ite2 (fun e => ?_) (fun e => ?_)⟩
    · refine qo fun x y exs => ?_
      subst exs
      exact absurd e (show ¬ (!decide (V.int ((2 : Nat) : Int) = V.int 2)) = true by decide)
    · have l2 : xs.length = 2 := by
        have e' : ¬ (!decide (V.int (xs.length : Int) = V.int 2)) = true := e
        have e3 : V.int (xs.length : Int) = V.int 2 := by simpa using e'
        exact Int.ofNat.inj (V.int.inj e3)
      obtain ⟨x, y, rfl⟩ : ∃ x y, xs = [x, y] := by
        match xs, l2 with
        | [x, y], _ => exact ⟨x, y, rfl⟩
      have h1 : isTxt 2 x = true ∧ isTxt 2 y = true := by simpa using al
      obtain ⟨z, rfl, lz, _⟩ := isTxt_str h1.1
      obtain ⟨u, rfl, lu, _⟩ := isTxt_str h1.2
      have fz : z.length ≤ sizeLine := line200 lz
      have fu : u.length ≤ sizeLine := line200 lu
      refine ⟨.ref p, rfl, p, _, 0, .str z, rfl, rfl, hS, rfl, .str z, z.length, rfl, ⟨fz, rfl⟩, .ref p, rfl, p, _, 1, .str u, rfl, rfl, hS, rfl, .str u, u.length, rfl, ⟨fu, rfl⟩, rfl, _, rfl, ite2 (fun e2 => ?_) (fun e2 => ?_)⟩
      · refine qo fun x y exs => ?_
        cases exs
        intro ez
        have e3 : (!decide (V.int (z.length : Int) = V.int (u.length : Int))) = true := e2
        rw [ez] at e3
        simp at e3
      · have ez : z.length = u.length := by
          have e' : ¬ (!decide (V.int (z.length : Int) = V.int (u.length : Int))) = true := e2
          have e3 : V.int (z.length : Int) = V.int (u.length : Int) := by simpa using e'
          exact Int.ofNat.inj (V.int.inj e3)
        refine ⟨⟨_, rfl⟩, .ref p, rfl, p, _, 0, .str z, rfl, rfl, hS, rfl, .ref p, rfl, p, _, 1, .str u, rfl, rfl, hS, rfl, z, u, rfl, fun D nD => ?_⟩
        have sD : Same H' (upd H' D (.lst [])) := same_new nD
        refine lc_it (walk_zipS (x := z) (y := u) (n := z.length) (by show z.cps.size = min z.cps.size u.cps.size; have : z.cps.size = u.cps.size := ez; omega)) (fun i H3 => Same H' H3 ∧ ∃ zs : List Str, H3 D = some (.lst (zs.map V.str)) ∧ zs.length = i ∧ ∀ t ∈ zs, t.length = 1)
          ⟨sD, [], upd_same, rfl, fun t ht => nomatch ht⟩ (fun _ _ _ _ => trivial) (fun i x H1 H2 hi h hy => ?_) (fun H1 h => ?_)
        · obtain ⟨s1, zs, eD, lz2, ones⟩ := h
          obtain ⟨t, c, d, rfl, nt, rfl, hc, hd⟩ := hy
          have nTD : D ≠ t := ne_of_none eD nt
          obtain ⟨r1, rl1, _, rfl⟩ := digit_of h1.1 (.inl rfl) hc
          obtain ⟨r2, rl2, _, rfl⟩ := digit_of h1.2 (.inl rfl) hd
          have r1' : r1 < 2 := by omega
          have r2' : r2 < 2 := by omega
          refine ⟨t, _, rfl, .inl (.inl upd_same), rfl, _, _, rfl, _, _, rfl, rfl, rfl, ?_⟩
          refine ⟨_, rfl, _, (r1 : Int), rfl, int_digit (by omega), (show 1 ≤ 640 by decide), _, rfl, _, (r2 : Int), rfl, int_digit (by omega), (show 1 ≤ 640 by decide), 2, (r2 : Int), rfl, rfl, ?_⟩
          refine ⟨by unfold CMul; rcases (show r2 = 0 ∨ r2 = 1 by omega) with rfl | rfl <;> decide, _, _, rfl, rfl, _, rfl, ?_, zs.map V.str, ?_, ?_, ?_⟩
          · rcases (show r1 = 0 ∨ r1 = 1 by omega) with rfl | rfl <;> rcases (show r2 = 0 ∨ r2 = 1 by omega) with rfl | rfl <;> decide
          · rw [upd_ne nTD]
            exact eD
          · rw [List.length_map]
            exact Nat.lt_of_lt_of_le (show zs.length < 201 by omega) (by decide)
          · have e0 : (r1 : Int) + 2 * (r2 : Int) = ((r1 + 2 * r2 : Nat) : Int) := by omega
            refine ⟨fun b o eb => ?_, zs ++ [Str.ofString (toString ((r1 : Int) + 2 * (r2 : Int)))], ?_, ?_, fun t ht => ?_⟩
            · have hb := s1 b o eb
              have nb : b ≠ D := ne_of_none eb nD
              rw [upd_ne nb, upd_ne (ne_of_none hb nt)]
              exact hb
            · rw [upd_same, List.map_append]
              rfl
            · rw [List.length_append, lz2]
              rfl
            · rw [List.mem_append] at ht
              rcases ht with ht | ht
              · exact ones t ht
              · have et : t = Str.ofString (toString ((r1 : Int) + 2 * (r2 : Int))) := by simpa using ht
                rw [et, e0, digit_str _ (by omega)]
                rfl
        · obtain ⟨s1, zs, eD, lz2, ones⟩ := h
          refine ⟨"", D, zs, rfl, rfl, .inl (.inl (.inl eD)), ?_, q2 z u rfl ez _ _ s1⟩
          have hs : ∀ l : List Str, (∀ t ∈ l, t.length = 1) → (l.map (·.length)).sum = l.length := by
            intro l
            induction l with
            | nil => intro _; rfl
            | cons a r ih =>
              intro hh
              rw [List.map_cons, List.sum_cons, hh a (by simp), ih (fun t ht => hh t (by simp [ht])), List.length_cons]
              omega
          rw [hs zs ones, lz2]
          show z.length + z.length * 0 ≤ 16777216
          omega
end
end K03

namespace K03
open PySem PySem.Spec L2 Ks
open PyProof.Rows hiding St
theorem scTextsOf : GScope ["letters", "width", "greatest", "text", "head"] ["letters", "width"] (defScope sTextsOf) := ⟨rfl, rfl, rfl, by decide +kernel, rfl, by decide +kernel, by decide +kernel⟩
/-- how the caught classes stand to each other -/
structure Ek (K : PySem.W.Frag) (CN CT CO : Addr) : Prop where
  xf : XfC K CN
  nn : PySem.W.exmOne K (.ref CN) (.ref CN) = some true
  tn : PySem.W.exmOne K (.ref CT) (.ref CN) = some false
  tt : PySem.W.exmOne K (.ref CT) (.ref CT) = some true
  on : PySem.W.exmOne K (.ref CO) (.ref CN) = some false
  ot : PySem.W.exmOne K (.ref CO) (.ref CT) = some false
  oo : PySem.W.exmOne K (.ref CO) (.ref CO) = some true
  st : PySem.W.subIn K (.ref CN) (.type "StopIteration") = some false
/-- what a call comes to -/
inductive Out
  | told
  | num (v : V)
  | text
  | op
  | off
def outc (n : Int) (x y : V) : Out :=
  if n = 0 then (if lettersOk y = true then .told else .num y)
  else if n = 1 then (if lettersOk x = true then (if isNum 0 200 y = true then .off else .num y) else .num x)
  else if n = 2 then (if (isTxt 4 x && isTxt 4 y) = true then .told else .text)
  else if n = 3 then (if isTxt 4 x = true then (if isNum 0 1 y = true then .off else .num y) else .text)
  else (if (isTxt 2 x && isTxt 2 y) = true then (match x, y with | .str z, .str u => if z.length = u.length then .told else .op | _, _ => .off) else .text)
def Res (CN CT CO : Addr) (o : Out) (Q : VK) (E : XK) (H : Hp) : Prop := match o with
  | .told => ∀ v H', Same H H' → Q v H'
  | .num v => RNum CN E H v
  | .text => ∀ H', Same H H' → E (.ref CT) none H'
  | .op => ∀ H', Same H H' → E (.ref CO) none H'
  | .off => False
/-- nothing is told of what is never come to -/
def tNever : TGn := fun _ _ _ _ => False
theorem gss_never {X : Cx} {rest : List Stmt} : GSs X rest tNever := ⟨fun _ _ _ _ _ _ _ _ _ _ _ _ _ _ _ _ _ _ _ _ _ h => h.elim⟩
theorem _root_.Ks.AnyV.up {H H' : Hp} {x : V} (h : AnyV H x) (s : Same H H') : AnyV H' x := by
  cases h with
  | non => exact .non
  | bl b => exact .bl b
  | int i => exact .int i
  | str z => exact .str z
  | lst e => exact .lst (s _ _ e)
  | tup e => exact .tup (s _ _ e)
  | dct e => exact .dct (s _ _ e)
section
variable {P : Program} {w : World} {K : PySem.W.Frag} {mg : Str → Option Value} {base : Heap}
variable {CN CT CO fI fN fC fL fT fX fW : Addr} {fdI dN dC dL dT dX dW : FuncData}
/-! ### texts_of, where it raises -/
def spTextsOf (C : Addr) : SpG := fun vs H _ E => ∃ x y, vs = [x, y] ∧ AnyV H x ∧ AnyV H y ∧ ((lettersOk x = false ∧ RNum C E H x) ∨ (lettersOk x = true ∧ isNum 0 200 y = false ∧ RNum C E H y))
theorem okTextsOf {f : Addr} {fd : FuncData} (D : Dn K mg "texts_of" sTextsOf ["letters", "width"] f fd) (S : Ds K mg fN fC fL fT fX fW dN dC dL dT dX dW) (T : Bx mg) (R : Er K mg CN CT fI fdI) : GFn P w K mg base 5 f fd ["letters", "width"] (spTextsOf CN) := by
  have DCheckLetters := S.chL
  have GCheckLetters : FnOk P w K mg base (L2.CX P w) 3 _ _ _ _ := okCheckLetters S T R
  have DCheckWidth := S.chW
  have GCheckWidth : FnOk P w K mg base (L2.CX P w) 4 _ _ _ _ := okCheckWidth S T R
  obtain ⟨oc, od, kV, doc, pm, an, cdv, ct, osl, rfl, lk, hcd⟩ := D.F.ex
  refine gfn_of lk hcd scTextsOf (fun vs H Q E h => ?_) (fun A outer s H vs Q E pn hr h => ?_)
  · obtain ⟨x, y, rfl, _⟩ := h
    rfl
  · obtain ⟨x, y, rfl, hx, hy, h⟩ := h
    refine ⟨_, gss_cons (gs_ps (ps_expr (pe_call GCheckLetters (hr.mono (by decide)) (by rfl) DCheckLetters.g DCheckLetters.F.kp DCheckLetters.b .nil (passes_call takes_gcx (fun _ _ _ _ z => z)) (pa_cons (pv 0) pa_nil))))
      (gss_cons (gs_ps (ps_expr (pe_call GCheckWidth (hr.mono (by decide)) (by rfl) DCheckWidth.g DCheckWidth.F.kp DCheckWidth.b .nil (passes_call takes_gcx (fun _ _ _ _ z => z)) (pa_cons (pv 1) pa_nil)))) gss_never), ?_⟩
    refine ⟨x, rfl, x, rfl, hx, fun ok => ?_, fun bad => ?_⟩
    · rcases h with ⟨e, _⟩ | ⟨_, e2, r⟩
      · rw [ok] at e
        cases e
      · refine ⟨y, rfl, y, rfl, hy, fun ok2 => ?_, fun _ => r⟩
        rw [e2] at ok2
        cases ok2
    · rcases h with ⟨_, r⟩ | ⟨e, _⟩
      · exact r
      · rw [bad] at e
        cases e
end
end K03

namespace K03
open PySem PySem.Spec L2 Ks
open PyProof.Rows hiding St
section
variable {P : Program} {w : World} {K : PySem.W.Frag} {mg : Str → Option Value} {base : Heap}
variable {CN CT CO fI fN fC fL fT fX fW : Addr} {fdI dN dC dL dT dX dW : FuncData}
structure Dt (K : PySem.W.Frag) (mg : Str → Option Value) (fO fA fJ fS : Addr) (dO dA dJ dS : FuncData) : Prop where
  tx : Dn K mg "texts_of" sTextsOf ["letters", "width"] fO dO
  ca : Dn K mg "comes_ahead" sComesAhead ["one", "other"] fA dA
  lo : Dn K mg "line_of" sLineOf ["text", "line"] fJ dJ
  tF : Fun K "text_of_lines" "text_of_lines" sTextOfLines fS dS
  tg : mg "text_of_lines" = some (.ref fS)
variable {fO fA fJ fS : Addr} {dO dA dJ dS : FuncData}
theorem outs_all {x y : V} : ([x, y].all (isTxt 2)) = (isTxt 2 x && isTxt 2 y) := by simp
def spCall (CN CT CO : Addr) : Sp := fun vs H Q E => ∃ n x y, vs = [.int n, x, y] ∧ AnyV H x ∧ Fit x ∧ AnyV H y ∧ Fit y ∧ Res CN CT CO (outc n x y) Q E H
theorem okCall {f : Addr} {fd : FuncData} (D : Dn K mg "_law_call" sLcall ["_law_which", "_law_one", "_law_other"] f fd) (S : Ds K mg fN fC fL fT fX fW dN dC dL dT dX dW) (S2 : Dt K mg fO fA fJ fS dO dA dJ dS) (T : Bx mg) (R : Er K mg CN CT fI fdI) (OO : OwnE K mg "InvalidOperation" CO) (X : Ek K CN CT CO) :
    FnOk P w K mg base (L2.CX P w) 9 f fd ["_law_which", "_law_one", "_law_other"] (spCall CN CT CO) := by
  have DIsText := S.isT
  have GIsText : FnOk P w K mg base (L2.CX P w) 4 _ _ _ _ := okIsText S T R
  have DTextsOf := S2.tx
  have GTextsOf : GFn P w K mg base 5 _ _ _ _ := okTextsOf DTextsOf S T R
  have DComesAhead := S2.ca
  have GComesAhead : FnOk P w K mg base (L2.CX P w) 6 _ _ _ _ := okAhead DComesAhead S T R
  have DLineOf := S2.lo
  have GLineOf : FnOk P w K mg base (L2.CX P w) 6 _ _ _ _ := okLineOf DLineOf S T R
  have GTextOfLines : FnR P w K mg base (L2.CX P w) 6 _ _ := okLines S2.tF S T R OO
  refine D.F.okX scLcall (fun vs H Q E h => ?_) (fun cdv A outer s H vs Q E hr h => ?_)
  · obtain ⟨n, x, y, rfl, _⟩ := h
    rfl
  · obtain ⟨n, x, y, rfl, hx, fx, hy, fy, h⟩ := h
    refine ⟨_, (pss_cons (ps_if (pt_cmpR op_eq (pv 0) pe_int (nomark _)) (pss_one (ps_ret (pe_call GIsText (hr.mono (by decide)) (by rfl) DIsText.g DIsText.F.kp DIsText.b .nil (passes_call (takes_of rfl rfl rfl rfl) (fun _ _ _ _ z => z)) (pa_cons (pv 1) (pa_cons (pv 2) pa_nil))))) pss_nil)
  (pss_cons (ps_if (pt_cmpR op_eq (pv 0) pe_int (nomark _)) (pss_one (ps_ret (pe_listG (E := fun cls d H' => cls = Value.ref CN ∧ E cls d H') (pgen_call GTextsOf (hr.mono (by decide)) (by rfl) DTextsOf.g DTextsOf.F.kp DTextsOf.b .nil (pa_cons (pv 1) (pa_cons (pv 2) pa_nil))) (passes_call (takes_of rfl rfl rfl rfl) (fun _ _ _ _ z => z.2)) (fun cls d H' z => by rw [z.1]; exact X.st) (hr.mono (by decide)) (by rfl) T.m_list (by decide +kernel)))) pss_nil)
  (pss_cons (ps_if (pt_cmpR op_eq (pv 0) pe_int (nomark _)) (pss_one (ps_ret (pe_call GComesAhead (hr.mono (by decide)) (by rfl) DComesAhead.g DComesAhead.F.kp DComesAhead.b .nil (passes_call (takes_of rfl rfl rfl rfl) (fun _ _ _ _ z => z)) (pa_cons (pv 1) (pa_cons (pv 2) pa_nil))))) pss_nil)
  (pss_cons (ps_if (pt_cmpR op_eq (pv 0) pe_int (nomark _)) (pss_one (ps_ret (pe_call GLineOf (hr.mono (by decide)) (by rfl) DLineOf.g DLineOf.F.kp DLineOf.b .nil (passes_call (takes_of rfl rfl rfl rfl) (fun _ _ _ _ z => z)) (pa_cons (pv 1) (pa_cons (pv 2) pa_nil))))) pss_nil)
  (pss_one (ps_ret (pe_callRS GTextOfLines (hr.mono (by decide)) (by rfl) S2.tg S2.tF.kp (fun σ => passOut (takes_of rfl rfl rfl rfl) σ) (pa_cons (pv 1) (pa_cons (pv 2) pa_nil))))))))), ?_⟩
    have ne : ∀ {k : Int}, ¬ decide (V.int n = V.int k) = true → n ≠ k := fun e z => e (by rw [z]; exact decide_eq_true rfl)
    have eq : ∀ {k : Int}, decide (V.int n = V.int k) = true → n = k := fun e => V.int.inj (of_decide_eq_true e)
    unfold outc at h
    refine ⟨_, rfl, rfl, _, rfl, ite2 (fun e0 => ?_) (fun e0 => ?_)⟩
    · rw [if_pos (eq e0)] at h
      refine ⟨x, rfl, y, rfl, x, y, rfl, hx, fx, hy, fun bad => ?_, fun m em hm => ?_⟩
      · rw [if_neg (by rw [bad]; decide)] at h
        exact h
      · subst em
        have ok : lettersOk (.int m) = true := by
          rcases hm with rfl | rfl <;> decide
        rw [if_pos ok] at h
        exact h _ _ (Same.refl H)
    rw [if_neg (ne e0)] at h
    refine ⟨_, rfl, rfl, _, rfl, ite2 (fun e1 => ?_) (fun e1 => ?_)⟩
    · rw [if_pos (eq e1)] at h
      refine ⟨x, rfl, y, rfl, x, y, rfl, hx, hy, ?_⟩
      cases ok : lettersOk x with
      | false =>
        rw [if_neg (by rw [ok]; decide)] at h
        exact .inl ⟨rfl, fun d nd => ⟨rfl, h d nd⟩⟩
      | true =>
        rw [if_pos ok] at h
        cases ok2 : isNum 0 200 y with
        | true =>
          rw [if_pos ok2] at h
          exact h.elim
        | false =>
          rw [if_neg (by rw [ok2]; decide)] at h
          exact .inr ⟨rfl, rfl, fun d nd => ⟨rfl, h d nd⟩⟩
    rw [if_neg (ne e1)] at h
    refine ⟨_, rfl, rfl, _, rfl, ite2 (fun e2 => ?_) (fun e2 => ?_)⟩
    · rw [if_pos (eq e2)] at h
      refine ⟨x, rfl, y, rfl, x, y, rfl, hx, fx, hy, fy, fun bad => ?_, fun ok => ?_⟩
      · rw [if_neg (by rw [bad]; decide)] at h
        exact h _ (Same.refl H)
      · rw [if_pos ok] at h
        exact fun b H' sm => h _ _ sm
    rw [if_neg (ne e2)] at h
    refine ⟨_, rfl, rfl, _, rfl, ite2 (fun e3 => ?_) (fun e3 => ?_)⟩
    · rw [if_pos (eq e3)] at h
      refine ⟨x, rfl, y, rfl, x, y, rfl, hx, fx, hy, fun bad => ?_, fun ok => ?_⟩
      · rw [if_neg (by rw [bad]; decide)] at h
        exact h _ (Same.refl H)
      · rw [if_pos ok] at h
        cases ok2 : isNum 0 1 y with
        | true =>
          rw [if_pos ok2] at h
          exact h.elim
        | false =>
          rw [if_neg (by rw [ok2]; decide)] at h
          exact ⟨rfl, h⟩
    rw [if_neg (ne e3)] at h
    refine ⟨x, rfl, y, rfl, [], [x, y], rfl, rfl, (show 2 ≤ sizeLine by decide), fun p np => ?_⟩
    have sp : Same H (upd H p (.tup [x, y])) := same_new np
    refine ⟨p, [x, y], rfl, upd_same, fun z hz => ?_, (show 2 ≤ 3 by decide), fun bad => ?_, fun ok => ⟨(show 2 ≠ 1 by decide), fun z u e el t H' sm => ?_, fun hne => ?_⟩⟩
    · have hz' : z = x ∨ z = y := by simpa using hz
      rcases hz' with rfl | rfl
      · exact ⟨hx.up sp, fx⟩
      · exact ⟨hy.up sp, fy⟩
    · rw [outs_all] at bad
      rw [if_neg (by rw [bad]; decide)] at h
      exact h _ sp
    · rw [outs_all] at ok
      rw [if_pos ok] at h
      cases e
      simp only [el, if_true] at h
      exact h _ _ (sp.trans sm)
    · rw [outs_all] at ok
      rw [if_pos ok] at h
      rw [Bool.and_eq_true] at ok
      obtain ⟨z, rfl, _⟩ := isTxt_str ok.1
      obtain ⟨u, rfl, _⟩ := isTxt_str ok.2
      simp only [hne z u rfl, if_false] at h
      exact h _ sp
end
end K03

namespace K03
open PySem PySem.Spec L2 Ks
open PyProof.Rows hiding St
/-- its text -/
def Shw (K : PySem.W.Frag) (H : Hp) (v : V) (d : PyData) : Prop := Shows K H v d ∧ d.showable = true ∧ d.depth ≤ 50 ∧ d.shown.length ≤ 300
mutual
theorem dpUp {K : PySem.W.Frag} {H H' : Hp} (s : Same H H') : ∀ {x : V} {d : PyData}, Dp K H x d → Dp K H' x d
  | _, _, .non => .non
  | _, _, .bl b => .bl b
  | _, _, .int i => .int i
  | _, _, .str z => .str z
  | _, _, .lst h r => .lst (s.seq h) (dpUpAll s r)
  | _, _, .tup h r => .tup (by
      rcases h with (h | ⟨o, h⟩) | h
      · exact .inl (.inl (s _ _ h))
      · exact .inl (.inr ⟨o, s _ _ h⟩)
      · exact .inr h) (dpUpAll s r)
theorem dpUpAll {K : PySem.W.Frag} {H H' : Hp} (s : Same H H') : ∀ {xs : List V} {ds : List PyData}, DpAll K H xs ds → DpAll K H' xs ds
  | _, _, .nil => .nil
  | _, _, .cons a r => .cons (dpUp s a) (dpUpAll s r)
end
theorem Shw.up {K : PySem.W.Frag} {H H' : Hp} (s : Same H H') {x : V} {d : PyData} (h : Shw K H x d) : Shw K H' x d := by
  obtain ⟨h1, h2⟩ := h
  refine ⟨?_, h2⟩
  rcases h1 with ⟨a, b⟩ | ⟨a, kvs, ds, e, ea, r⟩
  · exact .inl ⟨dpUp s a, b⟩
  · exact .inr ⟨a, kvs, ds, e, s _ _ ea, r⟩
def Told (K : PySem.W.Frag) (H : Hp) (o : Out) (z : Str) : Prop := match o with
  | .told => z = "told"
  | .num v => ∃ d, Shw K H v d ∧ z = ("number " : Str) ++ d.shown
  | .text => z = "text"
  | .op => z = "operation"
  | .off => False
theorem Told.up {K : PySem.W.Frag} {H H' : Hp} (s : Same H H') {o : Out} {z : Str} (h : Told K H o z) : Told K H' o z := by
  cases o with
  | num v =>
    obtain ⟨d, a, b⟩ := h
    exact ⟨d, a.up s, b⟩
  | _ => exact h
section
variable {P : Program} {w : World} {K : PySem.W.Frag} {mg : Str → Option Value} {base : Heap}
variable {CN CT CO fI fN fC fL fT fX fW : Addr} {fdI dN dC dL dT dX dW : FuncData} {fO fA fJ fS : Addr} {dO dA dJ dS : FuncData}
/-! ### _law_asked -/
def spAsked (K : PySem.W.Frag) : Sp := fun vs H Q _ => ∃ n x y z, vs = [.int n, x, y] ∧ AnyV H x ∧ Fit x ∧ AnyV H y ∧ Fit y ∧ Told K H (outc n x y) z ∧ ∀ H', Same H H' → Q (.str z) H'
theorem okAsked {f f1 : Addr} {fd fd1 : FuncData} (D : Dn K mg "_law_asked" sLasked ["_law_which", "_law_one", "_law_other"] f fd) (DLcall : Dn K mg "_law_call" sLcall ["_law_which", "_law_one", "_law_other"] f1 fd1)
    (S : Ds K mg fN fC fL fT fX fW dN dC dL dT dX dW) (S2 : Dt K mg fO fA fJ fS dO dA dJ dS) (T : Bx mg) (R : Er K mg CN CT fI fdI) (OO : OwnE K mg "InvalidOperation" CO) (X : Ek K CN CT CO) :
    FnG P w K mg base CX0 10 f fd ["_law_which", "_law_one", "_law_other"] (spAsked K) := by
  have GLcall : FnOk P w K mg base (L2.CX P w) 9 _ _ _ _ := okCall DLcall S S2 T R OO X
  refine fng_of D.F scLasked (fun vs H Q E h => ?_) (fun cdv A outer s H vs Q E hr hG h => ?_)
  · obtain ⟨n, x, y, z, rfl, _⟩ := h
    rfl
  · obtain ⟨n, x, y, z, rfl, hx, fx, hy, fy, t, q⟩ := h
    refine ⟨_, pss_cons (ps_catch (l := [⟨.ref CN, some 3, fun a cls d => _⟩, ⟨.ref CT, none, fun a cls d => _⟩, ⟨.ref CO, none, fun a cls d => _⟩]) rfl rfl scLasked.nd takes0
        (fun W pn xe tk po => pss_one (ps_expr (pe_callS GLcall (hr.mono (by decide)) (by rfl) DLcall.g DLcall.F.kp DLcall.b (fun σ => passAt tk σ) (pa_cons (pv 0) (pa_cons (pv 1) (pa_cons (pv 2) pa_nil))))))
        (ClausesOk.named ⟨by rfl, by decide, .inl R.IN.g⟩ rfl rfl (fun a oe cls d pn hz hf => pss_one (ps_ret (pe_op op_add_str pe_str (pe_callB (id := "repr") (r := rShow K) (by exact Ks.call_show hG ((show ∀ a b c : Nat, b + c + 200 < a → b + 100 < a from fun _ _ _ h => by omega) _ _ _ hr.un)) (by rfl) T.m_repr (by decide +kernel) (pa_cons (pe_xf X.xf R.IN.n hz hf (pv 3)) pa_nil)))))
          (ClausesOk.bare ⟨by rfl, by decide, .inl R.OT.g⟩ (fun a oe cls d pn hz hf => pss_one (ps_ret pe_str))
            (ClausesOk.bare ⟨by rfl, by decide, .inl OO.g⟩ (fun a oe cls d pn hz hf => pss_one (ps_ret pe_str)) ClausesOk.nil))))
      (pss_one (ps_ret pe_str)), ?_⟩
    refine ⟨_, rfl, x, rfl, y, rfl, n, x, y, rfl, hx, fx, hy, fy, ?_⟩
    cases o : outc n x y with
    | off =>
      rw [o] at t
      exact t.elim
    | told =>
      rw [o] at t
      cases (show z = "told" from t)
      exact fun v H' sm => q H' sm
    | num v =>
      rw [o] at t
      obtain ⟨dt, sh, rfl⟩ := t
      intro d nd
      have sd : Same H (upd H d (.xd [("given", v)])) := same_new nd
      obtain ⟨s1, s2, s3, s4⟩ := sh.up sd
      refine ⟨true, X.nn, fun _ a na => ?_, fun e => nomatch e⟩
      refine ⟨_, rfl, rfl, rfl, d, _, v, rfl, upd_same, rfl, v, dt, rfl, s1, s2, s3, Nat.le_trans s4 (by decide), _, _, rfl, rfl, ?_, q _ sd⟩
      show 7 + dt.shown.length ≤ sizeLine
      exact Nat.le_trans (Nat.add_le_add_left s4 7) (by decide)
    | text =>
      rw [o] at t
      cases (show z = "text" from t)
      exact fun H' sm => ⟨false, X.tn, (fun e => nomatch e), fun _ => ⟨true, X.tt, fun _ a na => q H' sm, fun e => nomatch e⟩⟩
    | op =>
      rw [o] at t
      cases (show z = "operation" from t)
      exact fun H' sm => ⟨false, X.on, (fun e => nomatch e), fun _ => ⟨false, X.ot, (fun e => nomatch e), fun _ => ⟨true, X.oo, fun _ a na => q H' sm, fun e => nomatch e⟩⟩⟩
end
end K03

namespace K03
open PySem PySem.Spec L2 Ks
open PyProof.Rows hiding St
def rLen2 (K : PySem.W.Frag) : List V → Hp → VK → Prop := fun xs H Q => ∃ p ys, xs = [.ref p] ∧ (SqL K H p ys ∨ SqT K H p ys) ∧ Q (.int ys.length) H
section
variable {P : Program} {w : World} {K : PySem.W.Frag} {mg : Str → Option Value} {base : Heap}
variable {CN CT CO fI fN fC fL fT fX fW : Addr} {fdI dN dC dL dT dX dW : FuncData} {fO fA fJ fS : Addr} {dO dA dJ dS : FuncData}
/-! ### _law_lines_asked -/
def spLinesAsked : Sp := fun vs H Q _ => ∃ p xs z, vs = [.ref p] ∧ H p = some (.lst xs) ∧ (∀ x ∈ xs, AnyV H x ∧ Fit x) ∧ (xs.length = 0 ∨ xs.length = 1 ∨ xs.length = 3) ∧
  ((xs.all (isTxt 2)) = true → xs.length ≠ 1 ∧ z = "operation") ∧ ((xs.all (isTxt 2)) = false → z = "text") ∧ ∀ H', Same H H' → Q (.str z) H'
theorem okLinesAsked {f : Addr} {fd : FuncData} (D : Dn K mg "_law_lines_asked" sLlinesAsked ["_law_lines"] f fd)
    (S : Ds K mg fN fC fL fT fX fW dN dC dL dT dX dW) (S2 : Dt K mg fO fA fJ fS dO dA dJ dS) (T : Bx mg) (R : Er K mg CN CT fI fdI) (OO : OwnE K mg "InvalidOperation" CO) (X : Ek K CN CT CO) :
    FnOk P w K mg base CX0 8 f fd ["_law_lines"] spLinesAsked := by
  have G : FnR P w K mg base (L2.CX P w) 6 _ _ := okLines S2.tF S T R OO
  refine D.F.ok scLlinesAsked (fun vs H Q E h => ?_) (fun cdv A outer s H vs Q E hr h => ?_)
  · obtain ⟨p, xs, z, rfl, _⟩ := h
    rfl
  · obtain ⟨p, xs, z, rfl, hp, hv, hl, ok, bad, q⟩ := h
    refine ⟨_, pss_cons (ps_catch (l := [⟨.ref CT, none, fun a cls d => _⟩, ⟨.ref CO, none, fun a cls d => _⟩]) rfl rfl scLlinesAsked.nd takes0
        (fun W pn xe tk po => pss_one (ps_if (pt_cmpR op_eq (pe_callB (id := "len") (r := rLen2 K) (by exact call_len_seq) (by rfl) T.m_len (by decide +kernel) (pa_cons (pv 0) pa_nil)) pe_int (nomark _))
          (pss_one (ps_expr (pe_callRS0 G (hr.mono (by decide)) (by rfl) S2.tg S2.tF.kp (fun σ => passAt tk σ))))
          (pss_one (ps_if (pt_cmpR op_eq (pe_callB (id := "len") (r := rLen2 K) (by exact call_len_seq) (by rfl) T.m_len (by decide +kernel) (pa_cons (pv 0) pa_nil)) pe_int (nomark _))
            (pss_one (ps_expr (pe_callRS G (hr.mono (by decide)) (by rfl) S2.tg S2.tF.kp (fun σ => passAt tk σ) (pa_cons (pe_ix (r := rIxL K) (by exact ix_list) (pv 0) pe_int (fun _ _ => rfl)) pa_nil))))
            (pss_one (ps_expr (pe_callRS G (hr.mono (by decide)) (by rfl) S2.tg S2.tF.kp (fun σ => passAt tk σ) (pa_cons (pe_ix (r := rIxL K) (by exact ix_list) (pv 0) pe_int (fun _ _ => rfl)) (pa_cons (pe_ix (r := rIxL K) (by exact ix_list) (pv 0) pe_int (fun _ _ => rfl)) (pa_cons (pe_ix (r := rIxL K) (by exact ix_list) (pv 0) pe_int (fun _ _ => rfl)) pa_nil)))))))))) 
        (ClausesOk.bare ⟨by rfl, by decide, .inl R.OT.g⟩ (fun a oe cls d pn hz hf => pss_one (ps_ret pe_str))
            (ClausesOk.bare ⟨by rfl, by decide, .inl OO.g⟩ (fun a oe cls d pn hz hf => pss_one (ps_ret pe_str)) ClausesOk.nil)))
      (pss_one (ps_ret pe_str)), ?_⟩
    have sq : SqL K H p xs := .inl (.inl hp)
    refine ⟨.ref p, rfl, p, xs, rfl, .inl sq, rfl, _, rfl, ?_⟩
    -- what a call of text_of_lines comes to
    have go : ∀ (ys : List V) (Q2 : VK) (E2 : XK), (∀ x ∈ ys, AnyV H x ∧ Fit x) → ys.length ≤ 3 → ys = xs → (∀ H', Same H H' → z = "text" → E2 (.ref CT) none H') → (∀ H', Same H H' → z = "operation" → E2 (.ref CO) none H') →
        (∃ ws rest, ys = ws ++ rest ∧ ws.length = ([] : List Str).length ∧ rest.length ≤ sizeLine ∧ ∀ p, H p = Option.none → spLines CT CO (ws ++ [V.ref p]) (upd H p (.tup rest)) Q2 E2) := by
      intro ys Q2 E2 hv2 hl2 hxs e1 e2
      subst hxs
      refine ⟨[], ys, rfl, rfl, Nat.le_trans hl2 (by decide), fun c nc => ?_⟩
      have sc : Same H (upd H c (.tup ys)) := same_new nc
      refine ⟨c, ys, rfl, upd_same, fun x hx => ⟨(hv2 x hx).1.up sc, (hv2 x hx).2⟩, hl2, fun b => e1 _ sc (bad b), fun a => ⟨(ok a).1, fun x y e => ?_, fun _ => e2 _ sc (ok a).2⟩⟩
      rw [e] at hl
      simp at hl
    have onT : ∀ σ' H', Same H H' → z = "text" → wCatch K (fun _ _ _ _ => False) { nx := fun _ H' => Q .non H', rt := Q } [⟨.ref CT, none, fun a cls d => tRet (tC (.str "text"))⟩, ⟨.ref CO, none, fun a cls d => tRet (tC (.str "operation"))⟩] (.ref CT) none σ' H' := fun σ' H' sm ez => by
      subst ez
      exact ⟨true, X.tt, fun _ a na => q H' sm, fun e => nomatch e⟩
    have onO : ∀ σ' H', Same H H' → z = "operation" → wCatch K (fun _ _ _ _ => False) { nx := fun _ H' => Q .non H', rt := Q } [⟨.ref CT, none, fun a cls d => tRet (tC (.str "text"))⟩, ⟨.ref CO, none, fun a cls d => tRet (tC (.str "operation"))⟩] (.ref CO) none σ' H' := fun σ' H' sm ez => by
      subst ez
      exact ⟨false, X.ot, (fun e => nomatch e), fun _ => ⟨true, X.oo, fun _ a na => q H' sm, fun e => nomatch e⟩⟩
    refine ite2 (fun e0 => ?_) (fun e0 => ?_)
    · have l0 : xs.length = 0 := Int.ofNat.inj (V.int.inj (of_decide_eq_true e0))
      have : xs = [] := List.eq_nil_of_length_eq_zero l0
      subst this
      exact go [] _ _ (fun x hx => nomatch hx) (by decide) rfl (fun H' sm ez => onT _ _ sm ez) (fun H' sm ez => onO _ _ sm ez)
    refine ⟨.ref p, rfl, p, xs, rfl, .inl sq, rfl, _, rfl, ite2 (fun e1 => ?_) (fun e1 => ?_)⟩
    · have l1 : xs.length = 1 := Int.ofNat.inj (V.int.inj (of_decide_eq_true e1))
      obtain ⟨x, rfl⟩ : ∃ x, xs = [x] := by
        match xs, l1 with
        | [x], _ => exact ⟨x, rfl⟩
      exact ⟨.ref p, rfl, p, _, 0, x, rfl, rfl, sq, rfl, go [x] _ _ hv (by show 1 ≤ 3; decide) rfl (fun H' sm ez => onT _ _ sm ez) (fun H' sm ez => onO _ _ sm ez)⟩
    · have l3 : xs.length = 3 := by
        rcases hl with h | h | h
        · exact absurd (decide_eq_true (by rw [h]; rfl)) e0
        · exact absurd (decide_eq_true (by rw [h]; rfl)) e1
        · exact h
      obtain ⟨x, y, u, rfl⟩ : ∃ x y u, xs = [x, y, u] := by
        match xs, l3 with
        | [x, y, u], _ => exact ⟨x, y, u, rfl⟩
      exact ⟨.ref p, rfl, p, _, 0, x, rfl, rfl, sq, rfl, .ref p, rfl, p, _, 1, y, rfl, rfl, sq, rfl, .ref p, rfl, p, _, 2, u, rfl, rfl, sq, rfl, go [x, y, u] _ _ hv (by show 3 ≤ 3; decide) rfl (fun H' sm ez => onT _ _ sm ez) (fun H' sm ez => onO _ _ sm ez)⟩
end
end K03

namespace K03
open PySem PySem.Spec L2 Ks
open PyProof.Rows hiding St
section
variable {P : Program} {w : World} {K : PySem.W.Frag} {mg : Str → Option Value} {base : Heap}
theorem okLdraw {f : Addr} {fd : FuncData} (D : Dn K mg "_law_draw" sLdraw ["_law_bag_here", "_law_total"] f fd) (T : Bx mg) : FnOk P w K mg base CX0 1 f fd ["_law_bag_here", "_law_total"] spDraw := by
  refine D.F.ok scLdraw (fun vs H Q E h => ?_) (fun cdv A outer s H vs Q E hr h => ?_)
  · obtain ⟨b, t, rfl, _⟩ := h
    rfl
  · obtain ⟨b, t, rfl, ht, hw, ⟨g, m, c, hb⟩, q⟩ := h
    refine ⟨_, ((pss_cons (ps_if (pt_cmpR op_gt (pe_ix ix_list (pv 0) pe_int (fun _ _ => rfl)) pe_int (nomark _)) (pss_cons (ps_set (i := 2) scLdraw.nd rfl (Or.inl rfl) (pe_op op_mod (pe_callTy call_int1 (by rfl) T.m_int (by decide +kernel) (pa_cons (pe_ix ix_list (pv 0) pe_int (fun _ _ => rfl)) pa_nil)) (pv 1)))
  (pss_cons (ps_asg (pe_op op_fdivW (pe_ix ix_list (pv 0) pe_int (fun _ _ => rfl)) (pv 1)) (pg_sub (pv 0) pe_int set_list))
  (pss_one (ps_ret (pv 2))))) pss_nil)
  (pss_cons (ps_asg (pe_op op_add (pe_ix ix_list (pv 0) pe_int (fun _ _ => rfl)) pe_int) (pg_sub (pv 0) pe_int set_list))
  (pss_cons (ps_set (i := 3) scLdraw.nd rfl (Or.inl rfl) (pe_op op_mod (pe_callTy call_int1 (by rfl) T.m_int (by decide +kernel) (pa_cons (pe_op op_add (pe_ix ix_list (pv 0) pe_int (fun _ _ => rfl)) (pe_op op_mul pe_int (pe_ix ix_list (pv 0) pe_int (fun _ _ => rfl)))) pa_nil)) pe_int))
  (pss_cons (ps_set (i := 4) scLdraw.nd rfl (Or.inl rfl) (pe_op op_add (pe_op op_mul (pe_op op_mod (pe_callTy call_int1 (by rfl) T.m_int (by decide +kernel) (pa_cons (pe_op op_mul (pv 3) (pv 3)) pa_nil)) pe_int) (pv 3)) (pe_op op_mul pe_int (pe_ix ix_list (pv 0) pe_int (fun _ _ => rfl)))))
  (pss_one (ps_ret (pe_op op_mod (pe_callTy call_int1 (by rfl) T.m_int (by decide +kernel) (pa_cons (pe_op op_fdivW (pe_op op_mod (pe_callTy call_int1 (by rfl) T.m_int (by decide +kernel) (pa_cons (pv 4) pa_nil)) pe_int) pe_int) pa_nil)) (pv 1))))))))), ?_⟩
    have at0 : ∀ {H' : Hp} {x y z : Int}, H' b = some (.lst [.int x, .int y, .int z]) → SqL K H' b [.int x, .int y, .int z] := fun e => .inl (.inl e)
    have fin : ∀ i : Int, ∃ r : Nat, i % t = (r : Int) ∧ (r : Int) < t := fun i => ⟨(i % t).toNat, by have := Int.emod_nonneg i (Int.ne_of_gt ht); omega, by have := Int.emod_lt_of_pos i ht; have := Int.emod_nonneg i (Int.ne_of_gt ht); omega⟩
    refine ⟨.ref b, rfl, b, _, 0, .int g, rfl, rfl, at0 hb, rfl, g, 0, rfl, rfl, _, rfl, ite2 (fun e => ?_) (fun e => ?_)⟩
    · refine ⟨.ref b, rfl, b, _, 0, .int g, rfl, rfl, at0 hb, rfl, .inl ⟨g, rfl, .int t, rfl, g, t, rfl, rfl, ht, ?_⟩⟩
      refine ⟨.ref b, rfl, b, _, 0, .int g, rfl, rfl, at0 hb, rfl, .int t, rfl, g, t, rfl, rfl, ⟨ht, hw⟩, .ref b, rfl, b, _, 0, 0, rfl, rfl, hb, rfl, ?_⟩
      obtain ⟨r, er, lr⟩ := fin g
      refine ⟨_, rfl, ?_⟩
      have := q r lr _ (Go.put (g := g / t) (m := m) (c := c) (Go.refl ⟨g, m, c, hb⟩))
      rw [← er] at this
      exact this
    · refine ⟨.ref b, rfl, b, _, 2, .int c, rfl, rfl, at0 hb, rfl, c, 1, rfl, rfl, .ref b, rfl, b, _, 2, 2, rfl, rfl, hb, rfl, ?_⟩
      have hb2 : (upd H b (.lst [.int g, .int m, .int (c + 1)])) b = some (.lst [.int g, .int m, .int (c + 1)]) := upd_same
      have s2 := at0 hb2
      refine ⟨.ref b, rfl, b, _, 1, .int m, rfl, rfl, s2, rfl, .ref b, rfl, b, _, 2, .int (c + 1), rfl, rfl, s2, rfl, 1048609, c + 1, rfl, rfl, .inl ⟨by decide, by decide⟩, m, _, rfl, rfl, .inl ⟨_, rfl, _, _, rfl, rfl, (show (0 : Int) < _ by decide), ?_⟩⟩
      refine ⟨_, rfl, _, rfl, _, _, rfl, rfl, ?_, .inl ⟨_, rfl, _, _, rfl, rfl, (show (0 : Int) < _ by decide), ?_⟩⟩
      · have h1 := Int.emod_nonneg (m + 1048609 * (c + 1)) (show (2305843009213693951 : Int) ≠ 0 by decide)
        have h2 := Int.emod_lt_of_pos (m + 1048609 * (c + 1)) (show (0 : Int) < 2305843009213693951 by decide)
        exact .inl ⟨by omega, by omega⟩
      refine ⟨_, rfl, _, _, rfl, rfl, ?_, .ref b, rfl, b, _, 2, .int (c + 1), rfl, rfl, s2, rfl, 8117, c + 1, rfl, rfl, .inl ⟨by decide, by decide⟩, _, _, rfl, rfl, ?_⟩
      · have h1 := Int.emod_nonneg (m + 1048609 * (c + 1)) (show (2305843009213693951 : Int) ≠ 0 by decide)
        have h2 := Int.emod_lt_of_pos (m + 1048609 * (c + 1)) (show (0 : Int) < 2305843009213693951 by decide)
        exact .inr ⟨by show _ < _; omega, by show _ < _; omega⟩
      refine ⟨_, rfl, .inl ⟨_, rfl, _, _, rfl, rfl, (show (0 : Int) < _ by decide), _, _, rfl, rfl, ⟨by decide, (by decide +kernel)⟩, .inl ⟨_, rfl, .int t, rfl, _, t, rfl, rfl, ht, ?_⟩⟩⟩
      obtain ⟨r, er, lr⟩ := fin ((((m + 1048609 * (c + 1)) % 2305843009213693951 * ((m + 1048609 * (c + 1)) % 2305843009213693951)) % 2305843009213693723 * ((m + 1048609 * (c + 1)) % 2305843009213693951) + 8117 * (c + 1)) % 2305843009213693921 / 16384)
      have := q r lr _ (Go.put (g := g) (m := m) (c := c + 1) (Go.refl ⟨g, m, c, hb⟩))
      rw [← er] at this
      exact this
end
end K03

namespace K03
open PySem PySem.Spec L2 Ks
open PyProof.Rows hiding St
theorem digits_txt {n : Int} (hn : n = 2 ∨ n = 4) {rs : List Nat} (h : ∀ r ∈ rs, (r : Int) < n) (hl : rs.length ≤ 200) :
    isTxt n (.str (Txt.join "" (rs.map fun r => (⟨#[48 + r]⟩ : Str)))) = true ∧ (Txt.join "" (rs.map fun r => (⟨#[48 + r]⟩ : Str))).length = rs.length := by
  have e : cl (Txt.join "" (rs.map fun r => (⟨#[48 + r]⟩ : Str))) = rs.map (48 + ·) := by
    rw [join_empty, List.map_map]
    clear h hl
    induction rs with
    | nil => rfl
    | cons a r ih =>
      rw [List.map_cons, List.flatten_cons, ih]
      rfl
  have el : (Txt.join "" (rs.map fun r => (⟨#[48 + r]⟩ : Str))).length = rs.length := by
    rw [← cl_len, e, List.length_map]
  refine ⟨?_, el⟩
  show (decide (_ ≤ 200) && _) = true
  rw [el, decide_eq_true hl, Bool.true_and, e, List.all_eq_true]
  intro c hc
  obtain ⟨r, hr, rfl⟩ := List.mem_map.mp hc
  have := h r hr
  rcases hn with rfl | rfl
  · rw [alpha2]
    rcases (show r = 0 ∨ r = 1 by omega) with rfl | rfl <;> decide +kernel
  · rw [alpha4]
    rcases (show r = 0 ∨ r = 1 ∨ r = 2 ∨ r = 3 by omega) with rfl | rfl | rfl | rfl <;> decide +kernel
def spText : Sp := fun vs H Q _ => ∃ b n k, vs = [.ref b, .int n, .int k] ∧ (n = 2 ∨ n = 4) ∧ (0 : Int) ≤ k ∧ k ≤ 200 ∧ Bag b H ∧ ∀ z : Str, isTxt n (.str z) = true → (z.length : Int) = k → ∀ H', Go b H H' → Q (.str z) H'
section
variable {P : Program} {w : World} {K : PySem.W.Frag} {mg : Str → Option Value} {base : Heap}
theorem cut1L (xs : List V) : cutV xs none (some 1) = xs.take 1 := by
  unfold cutV
  rw [show HT.sIx xs.length xs.length (some 1) = min 1 xs.length from HT.sIx_nat xs.length xs.length 1, HT.sIx_none]
  cases xs with
  | nil => rfl
  | cons x r =>
    rw [show min 1 (x :: r).length = 1 by
      rw [List.length_cons]
      omega]
    rfl
theorem okLbag {f : Addr} {fd : FuncData} (D : Dn K mg "_law_bag" sLbag ["_law_script", "_law_at"] f fd) (T : Bx mg) : FnOk P w K mg base CX0 1 f fd ["_law_script", "_law_at"] (spBag K) := by
  refine D.F.ok scLbag (fun vs H Q E h => ?_) (fun cdv A outer s H vs Q E hr h => ?_)
  · obtain ⟨a, ns, k, rfl, _⟩ := h
    rfl
  · obtain ⟨a, ns, k, rfl, hS, hk, q⟩ := h
    refine ⟨_, ((pss_cons (ps_set (i := 2) scLbag.nd rfl (Or.inl rfl) (pe_ifExp (pt_cmpR op_lt (pv 1) (pe_callB call_len_seq (by rfl) T.m_len (by decide +kernel) (pa_cons (pv 0) pa_nil)) (nomark _)) (pe_ix ix_list (pv 0) (pv 1) (fun _ _ => rfl)) (pe_op op_add (pe_op op_add (pe_callB (cr_sum rfl) (by rfl) T.m_sum (by decide +kernel) (pa_cons (pe_slice sl_list (pv 0) po_none (po_some pe_int)) pa_nil)) (pe_op op_mul pe_int (pv 1))) pe_int)))
  (pss_cons (ps_set (i := 3) scLbag.nd rfl (Or.inl rfl) (pe_op op_mod (pe_callTy call_int1 (by rfl) T.m_int (by decide +kernel) (pa_cons (pe_callB call_abs (by rfl) T.m_abs (by decide +kernel) (pa_cons (pv 2) pa_nil)) pa_nil)) (pe_op Ks.op_powW (pe_op Ks.op_powW pe_int pe_int) pe_int)))
  (pss_cons (ps_set (i := 4) scLbag.nd rfl (Or.inl rfl) (pe_op op_add (pe_op op_add (pe_op op_add (pe_op op_mul (pe_op op_mod (pe_callTy call_int1 (by rfl) T.m_int (by decide +kernel) (pa_cons (pv 3) pa_nil)) pe_int) pe_int) (pe_op op_mul pe_int (pv 1))) (pe_op op_mul pe_int (pe_callTy call_int1 (by rfl) T.m_int (by decide +kernel) (pa_cons (pe_cmpR op_lt (pv 2) pe_int (nomark _)) pa_nil)))) pe_int))
  (pss_one (ps_ret (pe_lst (pa_cons (pe_callB (call_max2 rfl) (by rfl) T.m_max (by decide +kernel) (pa_cons pe_int (pa_cons (pe_op op_sub (pv 3) (pe_op Ks.op_powW pe_int pe_int)) pa_nil))) (pa_cons (pe_op op_mod (pe_callTy call_int1 (by rfl) T.m_int (by decide +kernel) (pa_cons (pv 4) pa_nil)) pe_int) (pa_cons pe_int pa_nil)))))))))), ?_⟩
    have pw : ∀ i : Int, (i = 47 ∨ i = 18) → CPowW 10 i := by
      rintro i (rfl | rfl) <;> exact ⟨by decide, by decide +kernel⟩
    refine ⟨.int k, rfl, .ref a, rfl, a, _, rfl, .inl hS, k, _, rfl, rfl, _, rfl, ite2 (fun e => ?a) (fun e => ?b)⟩
    case a =>
      have hk2 : k.toNat < (ns.map V.int).length := by
        have : k < ((ns.map V.int).length : Int) := of_decide_eq_true e
        omega
      have hk3 : k.toNat < ns.length := by rwa [List.length_map] at hk2
      have sm : Same H H := Same.refl H
      refine ⟨.ref a, rfl, .int k, rfl, a, _, k, .int ns[k.toNat], rfl, rfl, hS, ?_, ?_⟩
      · have := atI_nat (xs := ns.map V.int) (j := k.toNat) (v := .int ns[k.toNat]) (by rw [List.getElem?_map, List.getElem?_eq_getElem hk3]; rfl)
        rwa [Int.toNat_of_nonneg hk] at this
      refine ⟨_, rfl, _, rfl, .inl ⟨_, rfl, _, _, rfl, rfl, pw _ (.inl rfl), _, _, rfl, rfl, ⟨by decide, by decide +kernel⟩, _, _, rfl, rfl, (show (0 : Int) < _ by decide +kernel), ?_⟩⟩
      refine ⟨_, rfl, .inl ⟨_, rfl, _, _, rfl, rfl, (show (0 : Int) < _ by decide), _, _, rfl, rfl, .inr ⟨by decide, by decide⟩, .int k, rfl, _, _, rfl, rfl, .inl ⟨by decide, by decide⟩, _, _, rfl, rfl, ?_⟩⟩
      refine ⟨_, rfl, _, _, rfl, rfl, .inr ⟨_, rfl, _, _, rfl, rfl, .inl ⟨by decide, by decide⟩, _, _, rfl, rfl, _, _, rfl, rfl, ?_⟩⟩
      refine ⟨_, rfl, _, _, rfl, rfl, pw _ (.inr rfl), _, _, rfl, rfl, _, _, rfl, _, rfl, .inl ⟨_, rfl, _, _, rfl, rfl, (show (0 : Int) < _ by decide), (show 3 ≤ sizeLine by decide), fun c nc => ?_⟩⟩
      exact q c _ (sm.free nc) (sm.trans (same_new nc)) ⟨_, _, _, upd_same⟩
    case b =>
      refine ⟨.ref a, rfl, 1, rfl, a, _, rfl, hS, fun p np => ?_⟩
      have sm : Same H (upd H p (.lst (cutV (ns.map V.int) none (some 1)))) := same_new np
      refine ⟨p, ns.take 1, rfl, .inl (.inl ?_), .int k, rfl, 103, k, rfl, rfl, .inl ⟨by decide, by decide⟩, _, _, rfl, rfl, _, _, rfl, rfl, ?_⟩
      · rw [upd_same, cut1L, List.map_take]
      refine ⟨_, rfl, _, rfl, .inl ⟨_, rfl, _, _, rfl, rfl, pw _ (.inl rfl), _, _, rfl, rfl, ⟨by decide, by decide +kernel⟩, _, _, rfl, rfl, (show (0 : Int) < _ by decide +kernel), ?_⟩⟩
      refine ⟨_, rfl, .inl ⟨_, rfl, _, _, rfl, rfl, (show (0 : Int) < _ by decide), _, _, rfl, rfl, .inr ⟨by decide, by decide⟩, .int k, rfl, _, _, rfl, rfl, .inl ⟨by decide, by decide⟩, _, _, rfl, rfl, ?_⟩⟩
      refine ⟨_, rfl, _, _, rfl, rfl, .inr ⟨_, rfl, _, _, rfl, rfl, .inl ⟨by decide, by decide⟩, _, _, rfl, rfl, _, _, rfl, rfl, ?_⟩⟩
      refine ⟨_, rfl, _, _, rfl, rfl, pw _ (.inr rfl), _, _, rfl, rfl, _, _, rfl, _, rfl, .inl ⟨_, rfl, _, _, rfl, rfl, (show (0 : Int) < _ by decide), (show 3 ≤ sizeLine by decide), fun c nc => ?_⟩⟩
      exact q c _ (sm.free nc) (sm.trans (same_new nc)) ⟨_, _, _, upd_same⟩
theorem okLoneOf {f f1 : Addr} {fd fd1 : FuncData} (D : Dn K mg "_law_one_of" sLoneOf ["_law_bag_here", "_law_items"] f fd) (DLdraw : Dn K mg "_law_draw" sLdraw ["_law_bag_here", "_law_total"] f1 fd1) (T : Bx mg) : FnOk P w K mg base CX0 2 f fd ["_law_bag_here", "_law_items"] spOneOf := by
  have GLdraw : FnOk P w K mg base CX0 1 _ _ _ _ := okLdraw DLdraw T
  refine D.F.ok scLoneOf (fun vs H Q E h => ?_) (fun cdv A outer s H vs Q E hr h => ?_)
  · obtain ⟨b, p, xs, rfl, _⟩ := h
    rfl
  · obtain ⟨b, p, xs, rfl, hb, hp, hne, h0, hl, q⟩ := h
    refine ⟨_, ((pss_one (ps_ret (pe_ix ix_list (pv 1) (pe_call GLdraw (hr.mono (by decide)) (by rfl) DLdraw.g DLdraw.F.kp DLdraw.b .nil pass0 (pa_cons (pv 0) (pa_cons (pe_callB call_len_seq (by rfl) T.m_len (by decide +kernel) (pa_cons (pv 1) pa_nil)) pa_nil))) (fun _ _ => rfl))))), ?_⟩
    have hl0 : 0 < xs.length := List.length_pos_iff.mpr h0
    refine ⟨.ref p, rfl, .ref b, rfl, .ref p, rfl, p, xs, rfl, .inl (.inl (.inl hp)), b, _, rfl, by omega, ?_, hb, fun r lr H' go => ?_⟩
    · have h1 := Nat.log2_le_self (xs.length : Int).natAbs
      have h2 : (xs.length : Int).natAbs = xs.length := Int.natAbs_natCast _
      omega
    · have hr : r < xs.length := by omega
      refine ⟨p, xs, (r : Int), xs[r], rfl, rfl, .inl (.inl (go.at hne hp)), atI_nat (List.getElem?_eq_getElem hr), q _ (List.getElem_mem hr) _ go⟩
theorem okLtext {f f1 : Addr} {fd fd1 : FuncData} (D : Dn K mg "_law_text" sLtext ["_law_bag_here", "_law_letters", "_law_width"] f fd) (DLdraw : Dn K mg "_law_draw" sLdraw ["_law_bag_here", "_law_total"] f1 fd1) (T : Bx mg) : FnOk P w K mg base CX0 2 f fd ["_law_bag_here", "_law_letters", "_law_width"] spText := by
  have GLdraw : FnOk P w K mg base CX0 1 _ _ _ _ := okLdraw DLdraw T
  refine D.F.ok scLtext (fun vs H Q E h => ?_) (fun cdv A outer s H vs Q E hr h => ?_)
  · obtain ⟨b, n, k, rfl, _⟩ := h
    rfl
  · obtain ⟨b, n, k, rfl, hn, k0, k1, hb, q⟩ := h
    refine ⟨_, ((pss_one (ps_ret (pe_join pe_str (pe_lc (own := [("_law_turn", 3)]) (g := gName 3) rfl scLtext.nd (pi_range1 (by rfl) T.m_range (pa_cons (pv 2) pa_nil)) (blkOk_by (own := [("_law_turn", 3)]) (N := ["_law_bag_here", "_law_letters", "_law_width", "_law_turn"]) (sc := defScope sLtext) (by decide +kernel)) (fun _ _ _ _ _ => (pg_name (i := 3) scLtext.nd rfl (Or.inl rfl))) (fun _ _ _ _ _ => pts_nil) (fun _ _ _ _ _ => (pe_callTy call_str_int (by rfl) T.m_str (by decide +kernel) (pa_cons (pe_call GLdraw (hr.mono (by decide)) (by rfl) DLdraw.g DLdraw.F.kp DLdraw.b .nil pass0 (pa_cons (pv 0) (pa_cons (pv 1) pa_nil))) pa_nil)))))))), ?_⟩
    have hk : k < 2 ^ 62 := Int.lt_of_le_of_lt k1 (by decide)
    refine ⟨⟨_, rfl⟩, .int k, rfl, k, rfl, by omega, hk, fun D nD => ?_⟩
    have dn := hb.ne nD
    refine lc_it (walk_range (lo := 0) (n := k.toNat)) (fun i H' => Go b H H' ∧ ∃ rs : List Nat, H' D = some (.lst (rs.map fun r => V.str ⟨#[48 + r]⟩)) ∧ rs.length = i ∧ ∀ r ∈ rs, (r : Int) < n)
      ⟨(Go.refl hb).new nD, [], upd_same, rfl, fun r hr => nomatch hr⟩ (fun _ _ _ _ => trivial) (fun i x H1 H2 hi h hy => ?_) (fun H1 h => ?_)
    · obtain ⟨go, rs, eD, lr, ok⟩ := h
      obtain ⟨rfl, rfl⟩ := hy
      refine ⟨rfl, ?_⟩
      refine ⟨.ref b, rfl, .int n, rfl, b, n, rfl, by omega, ?_, go.1, fun r hr H' g2 => ?_⟩
      · rcases hn with rfl | rfl <;> decide
      have r4 : r < 4 := by omega
      refine ⟨(r : Int), rfl, ?_, rs.map (fun r => V.str ⟨#[48 + r]⟩), g2.at dn eD, ?_, ?_⟩
      · have h1 := Nat.log2_le_self (r : Int).natAbs
        omega
      · rw [List.length_map]
        exact Nat.lt_of_lt_of_le (show rs.length < 201 by omega) (by decide)
      · refine ⟨(go.trans g2).set nD hb, rs ++ [r], ?_, ?_, fun t ht => ?_⟩
        · rw [upd_same, digit_str r r4, List.map_append]
          rfl
        · rw [List.length_append, lr]
          rfl
        · rw [List.mem_append] at ht
          rcases ht with ht | ht
          · exact ok t ht
          · have et : t = r := by simpa using ht
            rw [et]
            exact hr
    · obtain ⟨go, rs, eD, lr, ok⟩ := h
      have hl : rs.length ≤ 200 := by omega
      obtain ⟨h1, h2⟩ := digits_txt hn ok hl
      refine ⟨"", D, rs.map (fun r => (⟨#[48 + r]⟩ : Str)), rfl, rfl, .inl (.inl (.inl ?_)), ?_, q _ h1 (by rw [h2]; omega) _ go⟩
      · rw [eD, List.map_map]
        rfl
      · have : (List.map (fun x => x.length) (List.map (fun r => (⟨#[48 + r]⟩ : Str)) rs)).sum = rs.length := by
          clear h1 h2 hl ok lr eD
          induction rs with
          | nil => rfl
          | cons a r ih =>
            rw [List.map_cons, List.map_cons, List.sum_cons, ih, List.length_cons]
            show 1 + r.length = r.length + 1
            omega
        rw [this]
        show rs.length + (List.map _ rs).length * 0 ≤ 16777216
        omega
end
end K03

namespace Ks
open PySem PySem.Spec L2
open PyProof.Rows hiding St
/-- a text some times -/
def rMulS : R2 := fun x y H Q => ∃ z n, x = .str z ∧ y = .int n ∧ MulOk z n ∧ Q (.str (Txt.mul z n)) H
theorem op_mul_str {X : Cx} : OpR X (binaryOp .Mult) rMulS := by
  intro pins s σ H x y v u Q I rx ry h
  obtain ⟨z, n, rfl, rfl, ok, q⟩ := h
  obtain ⟨t, rfl⟩ := rx
  obtain ⟨t', rfl⟩ := ry
  exact SB.mul ok fun t' k => ⟨.str (Txt.mul z n), H, I.tok _, ⟨_, rfl⟩, q⟩
end Ks
namespace K03
open PySem PySem.Spec L2 Ks
open PyProof.Rows hiding St
def spNoNumber (K : PySem.W.Frag) : Sp := fun vs H Q _ => ∃ b, vs = [.ref b] ∧ Bag b H ∧ ∀ x d H', Go b H H' → AnyV (wo b H') x → Fit x → Shw K (wo b H') x d → isNum 0 200 x = false → Q x H'
def spNoText : Sp := fun vs H Q _ => ∃ b n, vs = [.ref b, .int n] ∧ (n = 2 ∨ n = 4) ∧ Bag b H ∧ ∀ x H', Go b H H' → AnyV (wo b H') x → Fit x → isTxt n x = false → Q x H'
section
variable {P : Program} {w : World} {K : PySem.W.Frag} {mg : Str → Option Value} {base : Heap}
theorem okLnoNumber {f f1 f2 : Addr} {fd fd1 fd2 : FuncData} (D : Dn K mg "_law_no_number" sLnoNumber ["_law_bag_here"] f fd) (DLoneOf : Dn K mg "_law_one_of" sLoneOf ["_law_bag_here", "_law_items"] f1 fd1) (DLdraw : Dn K mg "_law_draw" sLdraw ["_law_bag_here", "_law_total"] f2 fd2) (T : Bx mg) :
    FnOk P w K mg base CX0 3 f fd ["_law_bag_here"] (spNoNumber K) := by
  have GLoneOf : FnOk P w K mg base CX0 2 _ _ _ _ := okLoneOf DLoneOf DLdraw T
  refine D.F.ok scLnoNumber (fun vs H Q E h => ?_) (fun cdv A outer s H vs Q E hr h => ?_)
  · obtain ⟨b, rfl, _⟩ := h
    rfl
  · obtain ⟨b, rfl, hb, q⟩ := h
    refine ⟨_, ((pss_one (ps_ret (pe_call GLoneOf (hr.mono (by decide)) (by rfl) DLoneOf.g DLoneOf.F.kp DLoneOf.b .nil pass0 (pa_cons (pv 0) (pa_cons (pe_lst (pa_cons pe_non (pa_cons pe_bl (pa_cons pe_bl (pa_cons pe_str (pa_cons (pe_un un_neg pe_int) (pa_cons (pe_un un_neg pe_int) (pa_cons pe_int (pa_cons (pe_op Ks.op_powW pe_int pe_int) (pa_cons (pe_op op_mulW (pe_op Ks.op_powW pe_int pe_int) (pe_op Ks.op_powW pe_int pe_int)) (pa_cons (pe_tup (pa_cons pe_int pa_nil)) (pa_cons (pe_lst (pa_cons pe_int pa_nil)) (pa_cons pe_str (pa_cons (pe_disp (pps_cons pe_int pe_int pps_nil) (by rfl) (by rfl) (fun z => by cases z) (by decide)) pa_nil)))))))))))))) pa_nil)))))), ?_⟩
    refine ⟨.ref b, rfl, ?_⟩
    have pw : ∀ i : Int, (i = 60 ∨ i = 39) → CPowW 10 i := by
      rintro i (rfl | rfl) <;> exact ⟨by decide, by decide +kernel⟩
    refine ⟨1, rfl, 2, rfl, 10, 60, rfl, rfl, pw _ (.inl rfl), 10, 60, rfl, rfl, pw _ (.inl rfl), 10, 39, rfl, rfl, pw _ (.inr rfl), _, _, rfl, rfl, (by show _ < _; decide +kernel), ?_⟩
    refine ⟨(show 1 ≤ sizeLine by decide), fun t nt => ⟨(show 1 ≤ sizeLine by decide), fun l nl => fun m nm => ⟨upd_same, [(.inl 2, .int 4)], rfl, (by decide), (show 13 ≤ sizeLine by decide), fun p np => ?_⟩⟩⟩
    have sd : ∀ {H' : Hp} {c : Addr} {o o' : HO}, H' c = none → Go b H H' → Go b H (upd (upd H' c o) c o') := fun {H' c o o'} n g => by
      have e : upd (upd H' c o) c o' = upd H' c o' := by
        funext a
        by_cases h : a = c
        · rw [h, upd_same, upd_same]
        · rw [upd_ne h, upd_ne h, upd_ne h]
      rw [e]
      exact g.new n
    have g1 := (Go.refl hb).new (o := .tup [.int 2]) nt
    have g2 := g1.new (o := .lst [.int 2]) nl
    have g3 := sd (o := .dK []) (o' := .dK (mergeK [] [(.inl 2, .int 4)])) nm g2
    have tb := (Go.refl hb).1.ne nt
    have lb := g1.1.ne nl
    have mb := g2.1.ne nm
    have pb := g3.1.ne np
    have lt : l ≠ t := fun z => by rw [z, upd_same] at nl; cases nl
    have mt : m ≠ t := fun z => by rw [z, upd_ne lt.symm, upd_same] at nm; cases nm
    have ml : m ≠ l := fun z => by rw [z, upd_same] at nm; cases nm
    have pm : p ≠ m := fun z => by rw [z, upd_same] at np; cases np
    have pl : p ≠ l := fun z => by rw [z, upd_ne ml.symm, upd_ne ml.symm, upd_same] at np; cases np
    have pt : p ≠ t := fun z => by rw [z, upd_ne mt.symm, upd_ne mt.symm, upd_ne lt.symm, upd_same] at np; cases np
    refine ⟨b, p, _, rfl, (g3.new np).1, upd_same, pb, (fun z => nomatch z), (show 13 ≤ 1000 by decide), fun x hx H' go => ?_⟩
    have g4 := (g3.new (o := .lst _) np).trans go
    have et := go.2 t (.tup [.int 2]) (by rw [wo_ne tb, upd_ne pt.symm, upd_ne mt.symm, upd_ne mt.symm, upd_ne lt.symm, upd_same])
    have el := go.2 l (.lst [.int 2]) (by rw [wo_ne lb, upd_ne pl.symm, upd_ne ml.symm, upd_ne ml.symm, upd_same])
    have em := go.2 m (.dK [(.inl 2, .int 4)]) (by
      rw [wo_ne mb, upd_ne pm.symm, upd_same]
      rfl)
    suffices h : ∃ d, AnyV (wo b H') x ∧ Fit x ∧ Shw K (wo b H') x d ∧ isNum 0 200 x = false by
      obtain ⟨d, h1, h2, h3, h4⟩ := h
      exact q x d H' g4 h1 h2 h3 h4
    have fr : ∀ a : Addr, Fit (.ref a) := fun a z e => nomatch e
    have fi : ∀ i : Int, Fit (.int i) := fun a z e => nomatch e
    simp only [List.mem_cons, List.not_mem_nil, or_false] at hx
    rcases hx with rfl | rfl | rfl | rfl | rfl | rfl | rfl | rfl | rfl | rfl | rfl | rfl | rfl
    · exact ⟨.none, .non, (fun z e => nomatch e), ⟨.inl ⟨.non, rfl⟩, rfl, by decide, by decide +kernel⟩, rfl⟩
    · exact ⟨.bool true, .bl _, (fun z e => nomatch e), ⟨.inl ⟨.bl _, rfl⟩, rfl, by decide, by decide +kernel⟩, rfl⟩
    · exact ⟨.bool false, .bl _, (fun z e => nomatch e), ⟨.inl ⟨.bl _, rfl⟩, rfl, by decide, by decide +kernel⟩, rfl⟩
    · exact ⟨.str "2", .str _, (fun z e => by cases e; decide), ⟨.inl ⟨.str _, rfl⟩, rfl, by decide, by decide +kernel⟩, rfl⟩
    · exact ⟨.int (-1), .int _, fi _, ⟨.inl ⟨.int _, rfl⟩, by decide +kernel, by decide, by decide +kernel⟩, by decide⟩
    · exact ⟨.int (-2), .int _, fi _, ⟨.inl ⟨.int _, rfl⟩, by decide +kernel, by decide, by decide +kernel⟩, by decide⟩
    · exact ⟨.int 201, .int _, fi _, ⟨.inl ⟨.int _, rfl⟩, by decide +kernel, by decide, by decide +kernel⟩, by decide⟩
    · exact ⟨.int (10 ^ Int.toNat 60), .int _, fi _, ⟨.inl ⟨.int _, rfl⟩, by decide +kernel, by decide, by decide +kernel⟩, by decide +kernel⟩
    · exact ⟨.int (10 ^ Int.toNat 60 * 10 ^ Int.toNat 39), .int _, fi _, ⟨.inl ⟨.int _, rfl⟩, by decide +kernel, by decide, by decide +kernel⟩, by decide +kernel⟩
    · exact ⟨.tuple [.int 2], .tup et, fr _, ⟨.inl ⟨.tup (.inl (.inl et)) (.cons (.int _) .nil), rfl⟩, by decide +kernel, by decide, by decide +kernel⟩, rfl⟩
    · exact ⟨.list [.int 2], .lst el, fr _, ⟨.inl ⟨.lst (.inl (.inl el)) (.cons (.int _) .nil), rfl⟩, by decide +kernel, by decide, by decide +kernel⟩, rfl⟩
    · exact ⟨.str "", .str _, (fun z e => by cases e; decide), ⟨.inl ⟨.str _, rfl⟩, rfl, by decide, by decide +kernel⟩, rfl⟩
    · exact ⟨.dict [(.int 2, .int 4)], .dct em, fr _, ⟨.inr ⟨_, _, _, rfl, em, .cons rfl .nil, rfl⟩, by decide +kernel, by decide, by decide +kernel⟩, rfl⟩
end
end K03

namespace K03
open PySem PySem.Spec L2 Ks
open PyProof.Rows hiding St
theorem cl_append (a b : Str) : cl (a ++ b) = cl a ++ cl b := by
  show (a.cps ++ b.cps).toList = _
  exact Array.toList_append
theorem bad_char {n : Int} {z : Str} {c : Nat} (hc : c ∈ cl z) (h : (alpha n).cps.contains c = false) : isTxt n (.str z) = false := by
  show (_ && _) = false
  have : ((cl z).all fun c => (alpha n).cps.contains c) = false := by
    rw [Bool.eq_false_iff]
    intro q
    rw [List.all_eq_true] at q
    have := q c hc
    rw [h] at this
    cases this
  rw [this, Bool.and_false]
theorem no4 {n : Int} (hn : n = 2 ∨ n = 4) {c : Nat} (h : c ≠ 48 ∧ c ≠ 49 ∧ c ≠ 50 ∧ c ≠ 51) : (alpha n).cps.contains c = false := by
  rcases hn with rfl | rfl
  · rw [alpha2]
    simp
    omega
  · rw [alpha4]
    simp
    omega
section
variable {P : Program} {w : World} {K : PySem.W.Frag} {mg : Str → Option Value} {base : Heap}
theorem okLnoText {f f1 f2 f3 : Addr} {fd fd1 fd2 fd3 : FuncData} (D : Dn K mg "_law_no_text" sLnoText ["_law_bag_here", "_law_letters"] f fd) (DLoneOf : Dn K mg "_law_one_of" sLoneOf ["_law_bag_here", "_law_items"] f1 fd1) (DLdraw : Dn K mg "_law_draw" sLdraw ["_law_bag_here", "_law_total"] f2 fd2)
    (DLtext : Dn K mg "_law_text" sLtext ["_law_bag_here", "_law_letters", "_law_width"] f3 fd3) (T : Bx mg) :
    FnOk P w K mg base CX0 3 f fd ["_law_bag_here", "_law_letters"] spNoText := by
  have GLoneOf : FnOk P w K mg base CX0 2 _ _ _ _ := okLoneOf DLoneOf DLdraw T
  have GLtext : FnOk P w K mg base CX0 2 _ _ _ _ := okLtext DLtext DLdraw T
  refine D.F.ok scLnoText (fun vs H Q E h => ?_) (fun cdv A outer s H vs Q E hr h => ?_)
  · obtain ⟨b, n, rfl, _⟩ := h
    rfl
  · obtain ⟨b, n, rfl, hn, hb, q⟩ := h
    refine ⟨_, ((pss_cons (ps_set (i := 2) scLnoText.nd rfl (Or.inl rfl) (pe_call GLtext (hr.mono (by decide)) (by rfl) DLtext.g DLtext.F.kp DLtext.b .nil pass0 (pa_cons (pv 0) (pa_cons (pv 1) (pa_cons pe_int pa_nil)))))
  (pss_cons (ps_set (i := 3) scLnoText.nd rfl (Or.inl rfl) (pe_lst (pa_cons pe_non (pa_cons pe_bl (pa_cons pe_int (pa_cons pe_int (pa_cons (pe_tup pa_nil) (pa_cons (pe_tup (pa_cons pe_str pa_nil)) (pa_cons (pe_lst (pa_cons pe_str pa_nil)) (pa_cons (pe_disp (pps_cons pe_str pe_str pps_nil) (by rfl) (by rfl) (fun z => by cases z) (by decide)) (pa_cons (pe_op Ks.op_mul_str pe_str pe_int) (pa_cons pe_str (pa_cons pe_str (pa_cons (pe_op op_add_str (pv 2) pe_str) (pa_cons (pe_op op_add_str (pv 2) pe_str) (pa_cons pe_str (pa_cons (pe_op op_add_str (pv 2) pe_str) pa_nil)))))))))))))))))
  (pss_one (ps_ret (pe_call GLoneOf (hr.mono (by decide)) (by rfl) DLoneOf.g DLoneOf.F.kp DLoneOf.b .nil pass0 (pa_cons (pv 0) (pa_cons (pe_ifExp (pt_cmpR op_eq (pv 1) pe_int (nomark _)) (pe_op op_cat (pv 3) (pe_lst (pa_cons (pe_op op_add_str pe_str (pv 2)) (pa_cons (pe_op op_add_str (pv 2) pe_str) pa_nil)))) (pv 3)) pa_nil)))))))), ?_⟩
    refine ⟨.ref b, rfl, .int n, rfl, b, n, 3, rfl, hn, (by decide), (by decide), hb, fun z hz lz H1 g0 => ?_⟩
    have lz3 : z.length = 3 := by omega
    have sm : z.length + 1 ≤ sizeLine := by rw [lz3]; decide
    refine ⟨(show 0 ≤ sizeLine by decide), fun e ne => ⟨(show 1 ≤ sizeLine by decide), fun t nt => ⟨(show 1 ≤ sizeLine by decide), fun l nl => fun m nm => ⟨upd_same, [(.inr "0", .str "0")], rfl, (by decide), ?_⟩⟩⟩⟩
    refine ⟨"0", 201, rfl, rfl, ⟨by decide, (by decide), (by decide +kernel)⟩, .str z, rfl, z, "4", rfl, rfl, sm, .str z, rfl, z, " ", rfl, rfl, sm, .str z, rfl, z, "a", rfl, rfl, sm, (show 15 ≤ sizeLine by decide), fun p np => ?_⟩
    have sd : ∀ {H' : Hp} {c : Addr} {o o' : HO}, H' c = none → Go b H H' → Go b H (upd (upd H' c o) c o') := fun {H' c o o'} n g => by
      have e : upd (upd H' c o) c o' = upd H' c o' := by
        funext a
        by_cases h : a = c
        · rw [h, upd_same, upd_same]
        · rw [upd_ne h, upd_ne h, upd_ne h]
      rw [e]
      exact g.new n
    have ge := g0.new (o := .tup []) ne
    have gt := ge.new (o := .tup [.str "0"]) nt
    have gl := gt.new (o := .lst [.str "0"]) nl
    have gm := sd (o := .dK []) (o' := .dK (mergeK [] [(.inr "0", .str "0")])) nm gl
    have eb := g0.1.ne ne
    have tb := ge.1.ne nt
    have lb := gt.1.ne nl
    have mb := gl.1.ne nm
    have pb := gm.1.ne np
    have te : t ≠ e := fun z => by rw [z, upd_same] at nt; cases nt
    have le : l ≠ e := fun z => by rw [z, upd_ne te.symm, upd_same] at nl; cases nl
    have lt : l ≠ t := fun z => by rw [z, upd_same] at nl; cases nl
    have me : m ≠ e := fun z => by rw [z, upd_ne le.symm, upd_ne te.symm, upd_same] at nm; cases nm
    have mt : m ≠ t := fun z => by rw [z, upd_ne lt.symm, upd_same] at nm; cases nm
    have ml : m ≠ l := fun z => by rw [z, upd_same] at nm; cases nm
    have pm : p ≠ m := fun z => by rw [z, upd_same] at np; cases np
    have pl : p ≠ l := fun z => by rw [z, upd_ne ml.symm, upd_ne ml.symm, upd_same] at np; cases np
    have pt : p ≠ t := fun z => by rw [z, upd_ne mt.symm, upd_ne mt.symm, upd_ne lt.symm, upd_same] at np; cases np
    have pe : p ≠ e := fun z => by rw [z, upd_ne me.symm, upd_ne me.symm, upd_ne le.symm, upd_ne te.symm, upd_same] at np; cases np
    have fr : ∀ a : Addr, Fit (.ref a) := fun a z e => nomatch e
    have fs : ∀ u : Str, u.length ≤ 4 → Fit (.str u) := fun u h z e => by
      cases e
      exact Nat.le_trans h (by decide)
    have ln : ∀ u : Str, u.length = 1 → (z ++ u).length ≤ 4 := fun u h => by
      have : (z ++ u).length = z.length + u.length := Array.size_append
      omega
    have bad : ∀ {u : Str} {c : Nat}, c ∈ cl u → (c ≠ 48 ∧ c ≠ 49 ∧ c ≠ 50 ∧ c ≠ 51) → isTxt n (.str u) = false := fun hc h => bad_char hc (no4 hn h)
    have onr : ∀ {u : Str} {c : Nat}, c ∈ cl u → c ∈ cl (z ++ u) := fun h => by
      rw [cl_append]
      exact List.mem_append_right _ h
    have onl : ∀ {u : Str} {c : Nat}, c ∈ cl u → c ∈ cl (u ++ z) := fun h => by
      rw [cl_append]
      exact List.mem_append_left _ h
    have gp := gm.new (o := .lst [V.non, V.bl true, V.int 0, V.int 11, V.ref e, V.ref t, V.ref l, V.ref m, V.str (Txt.mul ("0" : Str) 201), V.str ("x" : Str), V.str (" " : Str), V.str (z ++ ("4" : Str)), V.str (z ++ (" " : Str)), V.str ("-1" : Str), V.str (z ++ ("a" : Str))]) np
    have all : ∀ x ∈ [V.non, V.bl true, V.int 0, V.int 11, V.ref e, V.ref t, V.ref l, V.ref m, V.str (Txt.mul ("0" : Str) 201), V.str ("x" : Str), V.str (" " : Str), V.str (z ++ ("4" : Str)), V.str (z ++ (" " : Str)), V.str ("-1" : Str), V.str (z ++ ("a" : Str))],
        AnyV (wo b (upd (upd (upd (upd (upd (upd H1 e (.tup [])) t (.tup [.str "0"])) l (.lst [.str "0"])) m (.dK [])) m (.dK (mergeK [] [(.inr "0", .str "0")]))) p (.lst [V.non, V.bl true, V.int 0, V.int 11, V.ref e, V.ref t, V.ref l, V.ref m, V.str (Txt.mul ("0" : Str) 201), V.str ("x" : Str), V.str (" " : Str), V.str (z ++ ("4" : Str)), V.str (z ++ (" " : Str)), V.str ("-1" : Str), V.str (z ++ ("a" : Str))]))) x ∧ Fit x ∧ isTxt n x = false := by
      intro x hx
      simp only [List.mem_cons, List.not_mem_nil, or_false] at hx
      rcases hx with rfl | rfl | rfl | rfl | rfl | rfl | rfl | rfl | rfl | rfl | rfl | rfl | rfl | rfl | rfl
      · exact ⟨.non, (fun z e => nomatch e), rfl⟩
      · exact ⟨.bl _, (fun z e => nomatch e), rfl⟩
      · exact ⟨.int _, (fun z e => nomatch e), rfl⟩
      · exact ⟨.int _, (fun z e => nomatch e), rfl⟩
      · exact ⟨.tup (xs := []) (by rw [wo_ne eb, upd_ne pe.symm, upd_ne me.symm, upd_ne me.symm, upd_ne le.symm, upd_ne te.symm, upd_same]), fr _, rfl⟩
      · exact ⟨.tup (xs := [.str "0"]) (by rw [wo_ne tb, upd_ne pt.symm, upd_ne mt.symm, upd_ne mt.symm, upd_ne lt.symm, upd_same]), fr _, rfl⟩
      · exact ⟨.lst (xs := [.str "0"]) (by rw [wo_ne lb, upd_ne pl.symm, upd_ne ml.symm, upd_ne ml.symm, upd_same]), fr _, rfl⟩
      · exact ⟨.dct (kvs := mergeK [] [(.inr "0", .str "0")]) (by rw [wo_ne mb, upd_ne pm.symm, upd_same]), fr _, rfl⟩
      · refine ⟨.str _, (fun z e => by cases e; decide +kernel), ?_⟩
        show txt n (Txt.mul ("0" : Str) 201) = false
        unfold txt
        rw [show decide ((Txt.mul ("0" : Str) 201).length ≤ 200) = false by decide +kernel, Bool.false_and]
      · exact ⟨.str _, fs _ (by decide), bad (c := 120) (by decide) (by decide)⟩
      · exact ⟨.str _, fs _ (by decide), bad (c := 32) (by decide) (by decide)⟩
      · exact ⟨.str _, fs _ (ln _ rfl), bad (c := 52) (onr (by decide)) (by decide)⟩
      · exact ⟨.str _, fs _ (ln _ rfl), bad (c := 32) (onr (by decide)) (by decide)⟩
      · exact ⟨.str _, fs _ (by decide), bad (c := 45) (by decide) (by decide)⟩
      · exact ⟨.str _, fs _ (ln _ rfl), bad (c := 97) (onr (by decide)) (by decide)⟩
    have push : ∀ {x : V} {Ha Hb : Hp}, Same (wo b Ha) (wo b Hb) → (AnyV (wo b Ha) x ∧ Fit x ∧ isTxt n x = false) → (AnyV (wo b Hb) x ∧ Fit x ∧ isTxt n x = false) := fun sm h => ⟨h.1.up sm, h.2⟩
    refine ⟨.ref b, rfl, .int n, rfl, rfl, _, rfl, ite2 (fun e2 => ?_) (fun e2 => ?_)⟩
    · have hn2 : n = 2 := V.int.inj (of_decide_eq_true e2)
      refine ⟨.ref p, rfl, .str z, rfl, "2", z, rfl, rfl, by show 1 + z.length ≤ sizeLine; omega, .str z, rfl, z, "3", rfl, rfl, sm, (show 2 ≤ sizeLine by decide), fun u nu => ?_⟩
      have up : u ≠ p := fun z => by rw [z, upd_same] at nu; cases nu
      refine ⟨p, u, _, _, rfl, rfl, by rw [upd_ne up.symm, upd_same], upd_same, (by show 15 + 2 ≤ sizeLine; decide), fun v nv => ?_⟩
      have gu := gp.new (o := .lst [.str ("2" ++ z), .str (z ++ "3")]) nu
      refine ⟨b, v, _, rfl, (gu.new nv).1, upd_same, gu.1.ne nv, (fun z => nomatch z), (show 17 ≤ 1000 by decide), fun x hx H' go => ?_⟩
      suffices h : AnyV (wo b H') x ∧ Fit x ∧ isTxt n x = false from q x H' ((gu.new nv).trans go) h.1 h.2.1 h.2.2
      rw [List.mem_append] at hx
      rcases hx with hx | hx
      · exact push (((Go.refl gp.1).new nu).trans (((Go.refl gu.1).new nv).trans go)).2 (all x hx)
      · simp only [List.mem_cons, List.not_mem_nil, or_false] at hx
        subst hn2
        rcases hx with rfl | rfl
        · refine ⟨.str _, fs _ ?_, bad_char (c := 50) (onl (by decide)) (by rw [alpha2]; decide +kernel)⟩
          have : (("2" : Str) ++ z).length = ("2" : Str).length + z.length := Array.size_append
          have : ("2" : Str).length = 1 := rfl
          omega
        · exact ⟨.str _, fs _ (ln _ rfl), bad_char (c := 51) (onr (by decide)) (by rw [alpha2]; decide +kernel)⟩
    · refine ⟨.ref p, rfl, b, p, _, rfl, gp.1, upd_same, pb, (fun z => nomatch z), (show 15 ≤ 1000 by decide), fun x hx H' go => ?_⟩
      have h := push go.2 (all x hx)
      exact q x H' (gp.trans go) h.1 h.2.1 h.2.2
end
end K03

namespace K03
open PySem PySem.Spec L2 Ks
open PyProof.Rows hiding St
theorem isNum_sub {x : V} (h : isNum 0 200 x = false) {lo hi : Int} (h0 : 0 ≤ lo) (h1 : hi ≤ 200) : isNum lo hi x = false := by
  cases x with
  | int i =>
    have h' : (decide (0 ≤ i) && decide (i ≤ 200)) = false := h
    show (decide (lo ≤ i) && decide (i ≤ hi)) = false
    rw [Bool.and_eq_false_iff, decide_eq_false_iff_not, decide_eq_false_iff_not] at h' ⊢
    omega
  | _ => rfl
theorem letters_no {x : V} (h : isNum 0 200 x = false) : lettersOk x = false := by
  unfold lettersOk
  rw [isNum_sub h (by decide) (by decide), isNum_sub h (by decide) (by decide)]
  rfl
/-- a value beside the bag -/
structure Vl (b : Addr) (H : Hp) (x : V) : Prop where
  any : AnyV (wo b H) x
  fit : Fit x
theorem Vl.up {b : Addr} {H H' : Hp} {x : V} (v : Vl b H x) (g : Go b H H') : Vl b H' x := ⟨v.any.up g.2, v.fit⟩
theorem Vl.at {b : Addr} {H : Hp} {x : V} (v : Vl b H x) : AnyV H x := v.any.up (wo_same b H)
theorem Vl.int {b : Addr} {H : Hp} (i : Int) : Vl b H (.int i) := ⟨.int i, fun z e => nomatch e⟩
theorem Vl.non {b : Addr} {H : Hp} : Vl b H .non := ⟨.non, fun z e => nomatch e⟩
theorem Vl.str {b : Addr} {H : Hp} (z : Str) (h : z.length ≤ sizeLine) : Vl b H (.str z) := ⟨.str z, fun u e => by cases e; exact h⟩
theorem shwUp {K : PySem.W.Frag} {b : Addr} {H H' : Hp} {x : V} {d : PyData} (s : Shw K (wo b H) x d) (g : Go b H H') : Shw K (wo b H') x d := s.up g.2
theorem shwAt {K : PySem.W.Frag} {b : Addr} {H : Hp} {x : V} {d : PyData} (s : Shw K (wo b H) x d) : Shw K H x d := s.up (wo_same b H)
theorem shwInt {K : PySem.W.Frag} {H : Hp} (i : Int) (h : (PyData.int i).showable = true := by decide) (h2 : (PyData.int i).shown.length ≤ 300 := by decide +kernel) : Shw K H (.int i) (.int i) := ⟨.inl ⟨.int i, rfl⟩, h, (show 0 ≤ 50 by decide), h2⟩
theorem eqs {a b : Str} (h : a = b) {P : Prop} (e : (!decide (V.str a = V.str b)) = true) : P := by
  rw [h] at e
  simp at e
theorem num_len {d : PyData} (h : d.shown.length ≤ 300) : ("number " : Str).length + d.shown.length ≤ sizeLine := by
  show 7 + d.shown.length ≤ sizeLine
  exact Nat.le_trans (Nat.add_le_add_left h 7) (by decide)
theorem outc1_num {x y : V} (h : lettersOk x = false) : outc 1 x y = .num x := by
  show (if lettersOk x = true then _ else Out.num x) = _
  rw [h]
  rfl
theorem outc1_w {x y : V} (h : lettersOk x = true) (h2 : isNum 0 200 y = false) : outc 1 x y = .num y := by
  show (if lettersOk x = true then (if isNum 0 200 y = true then Out.off else .num y) else Out.num x) = _
  rw [h, h2]
  rfl
theorem outc0_num {x y : V} (h : lettersOk y = false) : outc 0 x y = .num y := by
  show (if lettersOk y = true then Out.told else Out.num y) = _
  rw [h]
  rfl
theorem outc0_told {x y : V} (h : lettersOk y = true) : outc 0 x y = .told := by
  show (if lettersOk y = true then Out.told else Out.num y) = _
  rw [h]
  rfl
theorem outc2_of {x y : V} {b : Bool} (h : (isTxt 4 x && isTxt 4 y) = b) : outc 2 x y = if b = true then .told else .text := by
  show (if (isTxt 4 x && isTxt 4 y) = true then Out.told else Out.text) = _
  rw [h]
theorem outc3_num {x y : V} (h : isTxt 4 x = true) (h2 : isNum 0 1 y = false) : outc 3 x y = .num y := by
  show (if isTxt 4 x = true then (if isNum 0 1 y = true then Out.off else .num y) else Out.text) = _
  rw [h, h2]
  rfl
theorem outc3_text {x y : V} (h : isTxt 4 x = false) : outc 3 x y = .text := by
  show (if isTxt 4 x = true then (if isNum 0 1 y = true then Out.off else .num y) else Out.text) = _
  rw [h]
  rfl
theorem outc4_text {x y : V} (h : (isTxt 2 x && isTxt 2 y) = false) : outc 4 x y = .text := by
  show (if (isTxt 2 x && isTxt 2 y) = true then _ else Out.text) = _
  rw [h]
  rfl
theorem outc4_of {z u : Str} (h : (isTxt 2 (.str z) && isTxt 2 (.str u)) = true) : outc 4 (.str z) (.str u) = if z.length = u.length then .told else .op := by
  show (if (isTxt 2 (.str z) && isTxt 2 (.str u)) = true then (if z.length = u.length then Out.told else .op) else Out.text) = _
  rw [h]
  rfl
theorem toldNum {K : PySem.W.Frag} {H : Hp} {v : V} {d : PyData} {o : Out} (s : Shw K H v d) (e : o = .num v) : Told K H o (("number " : Str) ++ d.shown) := by
  rw [e]
  exact ⟨d, s, rfl⟩
theorem toldText {K : PySem.W.Frag} {H : Hp} {o : Out} (e : o = .text) : Told K H o "text" := by
  rw [e]
  exact rfl
theorem toldTold {K : PySem.W.Frag} {H : Hp} {o : Out} (e : o = .told) : Told K H o "told" := by
  rw [e]
  exact rfl
theorem toldOp {K : PySem.W.Frag} {H : Hp} {o : Out} (e : o = .op) : Told K H o "operation" := by
  rw [e]
  exact rfl
def spAre : Sp := fun vs H Q _ => ∃ b, vs = [.ref b] ∧ Bag b H ∧ ∀ H', Go b H H' → Q (.bl true) H'
/-- the defs of the law -/
structure Dl (K : PySem.W.Frag) (mg : Str → Option Value) (fa fb fc fd' fe ff fg : Addr) (da db dc dd de df dg : FuncData) : Prop where
  draw : Dn K mg "_law_draw" sLdraw ["_law_bag_here", "_law_total"] fa da
  one : Dn K mg "_law_one_of" sLoneOf ["_law_bag_here", "_law_items"] fb db
  text : Dn K mg "_law_text" sLtext ["_law_bag_here", "_law_letters", "_law_width"] fc dc
  call : Dn K mg "_law_call" sLcall ["_law_which", "_law_one", "_law_other"] fd' dd
  asked : Dn K mg "_law_asked" sLasked ["_law_which", "_law_one", "_law_other"] fe de
  noN : Dn K mg "_law_no_number" sLnoNumber ["_law_bag_here"] ff df
  noT : Dn K mg "_law_no_text" sLnoText ["_law_bag_here", "_law_letters"] fg dg
section
variable {P : Program} {w : World} {K : PySem.W.Frag} {mg : Str → Option Value} {base : Heap}
variable {CN CT CO fI fN fC fL fT fX fW : Addr} {fdI dN dC dL dT dX dW : FuncData} {fO fA fJ fS : Addr} {dO dA dJ dS : FuncData}
variable {fa fb fc fd' fe ff fg : Addr} {da db dc dd de df dg : FuncData}
theorem okLareNumbers {f : Addr} {fd : FuncData} (D : Dn K mg "_law_are_numbers" sLareNumbers ["_law_bag_here"] f fd) (L : Dl K mg fa fb fc fd' fe ff fg da db dc dd de df dg)
    (S : Ds K mg fN fC fL fT fX fW dN dC dL dT dX dW) (S2 : Dt K mg fO fA fJ fS dO dA dJ dS) (T : Bx mg) (R : Er K mg CN CT fI fdI) (OO : OwnE K mg "InvalidOperation" CO) (X : Ek K CN CT CO) :
    FnG P w K mg base CX0 11 f fd ["_law_bag_here"] spAre := by
  have DLdraw := L.draw
  have DLoneOf := L.one
  have DLtext := L.text
  have DLasked := L.asked
  have DLnoNumber := L.noN
  have GLdraw : FnOk P w K mg base CX0 1 _ _ _ _ := okLdraw L.draw T
  have GLoneOf : FnOk P w K mg base CX0 2 _ _ _ _ := okLoneOf L.one L.draw T
  have GLtext : FnOk P w K mg base CX0 2 _ _ _ _ := okLtext L.text L.draw T
  have GLnoNumber : FnOk P w K mg base CX0 3 _ _ _ _ := okLnoNumber L.noN L.one L.draw T
  have GLasked : FnG P w K mg base CX0 10 _ _ _ _ := okAsked L.asked L.call S S2 T R OO X
  refine fng_of D.F scLareNumbers (fun vs H Q E h => ?_) (fun cdv A outer s H vs Q E hr hG h => ?_)
  · obtain ⟨b, rfl, _⟩ := h
    rfl
  · obtain ⟨b, rfl, hb, q⟩ := h
    refine ⟨_, ((pss_cons (ps_par3 (i := 1) (j := 2) (l := 3) rfl scLareNumbers.nd rfl rfl rfl (by decide) (by decide) (by decide) rfl rfl rfl (pa_cons (pe_call GLnoNumber (hr.mono (by decide)) (by rfl) DLnoNumber.g DLnoNumber.F.kp DLnoNumber.b .nil pass0 (pa_cons (pv 0) pa_nil)) (pa_cons (pe_call GLnoNumber (hr.mono (by decide)) (by rfl) DLnoNumber.g DLnoNumber.F.kp DLnoNumber.b .nil pass0 (pa_cons (pv 0) pa_nil)) (pa_cons (pe_call GLdraw (hr.mono (by decide)) (by rfl) DLdraw.g DLdraw.F.kp DLdraw.b .nil pass0 (pa_cons (pv 0) (pa_cons pe_int pa_nil))) pa_nil))) (by rfl))
  (pss_cons (ps_set (i := 4) scLareNumbers.nd rfl (Or.inl rfl) (pe_call GLoneOf (hr.mono (by decide)) (by rfl) DLoneOf.g DLoneOf.F.kp DLoneOf.b .nil pass0 (pa_cons (pv 0) (pa_cons (pe_lst (pa_cons (pv 1) (pa_cons pe_int (pa_cons pe_int (pa_cons pe_int (pa_cons pe_int pa_nil)))))) pa_nil))))
  (pss_cons (ps_if (pt_cmpR op_ne (Ks.pe_callG hG GLasked (hr.mono (by decide)) (by rfl) DLasked.g DLasked.F.kp DLasked.b pass0 (pa_cons pe_int (pa_cons (pv 4) (pa_cons (pe_call GLoneOf (hr.mono (by decide)) (by rfl) DLoneOf.g DLoneOf.F.kp DLoneOf.b .nil pass0 (pa_cons (pv 0) (pa_cons (pe_lst (pa_cons (pv 3) (pa_cons (pv 2) pa_nil))) pa_nil))) pa_nil)))) (pe_op op_add_str pe_str (pe_callB (Ks.call_show hG ((show ∀ a b c : Nat, b + c + 200 < a → b + 100 < a from fun _ _ _ h => by omega) _ _ _ hr.un)) (by rfl) T.m_repr (by decide +kernel) (pa_cons (pv 4) pa_nil))) (nomark _)) (pss_one (ps_ret pe_bl)) pss_nil)
  (pss_cons (ps_if (PW.pt (pw_or (pt_cmpR op_ne (Ks.pe_callG hG GLasked (hr.mono (by decide)) (by rfl) DLasked.g DLasked.F.kp DLasked.b pass0 (pa_cons pe_int (pa_cons pe_int (pa_cons (pv 1) pa_nil)))) (pe_op op_add_str pe_str (pe_callB (Ks.call_show hG ((show ∀ a b c : Nat, b + c + 200 < a → b + 100 < a from fun _ _ _ h => by omega) _ _ _ hr.un)) (by rfl) T.m_repr (by decide +kernel) (pa_cons (pv 1) pa_nil))) (nomark _)) (pw_or1 (pt_cmpR op_ne (Ks.pe_callG hG GLasked (hr.mono (by decide)) (by rfl) DLasked.g DLasked.F.kp DLasked.b pass0 (pa_cons pe_int (pa_cons pe_int (pa_cons (pv 1) pa_nil)))) (pe_op op_add_str pe_str (pe_callB (Ks.call_show hG ((show ∀ a b c : Nat, b + c + 200 < a → b + 100 < a from fun _ _ _ h => by omega) _ _ _ hr.un)) (by rfl) T.m_repr (by decide +kernel) (pa_cons (pv 1) pa_nil))) (nomark _))))) (pss_one (ps_ret pe_bl)) pss_nil)
  (pss_cons (ps_set (i := 5) scLareNumbers.nd rfl (Or.inl rfl) (pe_call GLoneOf (hr.mono (by decide)) (by rfl) DLoneOf.g DLoneOf.F.kp DLoneOf.b .nil pass0 (pa_cons (pv 0) (pa_cons (pe_lst (pa_cons pe_str (pa_cons pe_non (pa_cons (pv 1) (pa_cons pe_int (pa_cons pe_str pa_nil)))))) pa_nil))))
  (pss_cons (ps_if (PW.pt (pw_or (pt_cmpR op_ne (Ks.pe_callG hG GLasked (hr.mono (by decide)) (by rfl) DLasked.g DLasked.F.kp DLasked.b pass0 (pa_cons pe_int (pa_cons (pv 5) (pa_cons (pv 4) pa_nil)))) (pe_op op_add_str pe_str (pe_callB (Ks.call_show hG ((show ∀ a b c : Nat, b + c + 200 < a → b + 100 < a from fun _ _ _ h => by omega) _ _ _ hr.un)) (by rfl) T.m_repr (by decide +kernel) (pa_cons (pv 4) pa_nil))) (nomark _)) (pw_or1 (pt_cmpR op_ne (Ks.pe_callG hG GLasked (hr.mono (by decide)) (by rfl) DLasked.g DLasked.F.kp DLasked.b pass0 (pa_cons pe_int (pa_cons (pv 5) (pa_cons pe_int pa_nil)))) pe_str (nomark _))))) (pss_one (ps_ret pe_bl)) pss_nil)
  (pss_cons (ps_set (i := 6) scLareNumbers.nd rfl (Or.inl rfl) (pe_call GLoneOf (hr.mono (by decide)) (by rfl) DLoneOf.g DLoneOf.F.kp DLoneOf.b .nil pass0 (pa_cons (pv 0) (pa_cons (pe_lst (pa_cons (pv 1) (pa_cons pe_int (pa_cons pe_int (pa_cons pe_int pa_nil))))) pa_nil))))
  (pss_one (ps_ret (pe_cmpR op_eq (Ks.pe_callG hG GLasked (hr.mono (by decide)) (by rfl) DLasked.g DLasked.F.kp DLasked.b pass0 (pa_cons pe_int (pa_cons (pe_call GLtext (hr.mono (by decide)) (by rfl) DLtext.g DLtext.F.kp DLtext.b .nil pass0 (pa_cons (pv 0) (pa_cons pe_int (pa_cons (pv 3) pa_nil)))) (pa_cons (pv 6) pa_nil)))) (pe_op op_add_str pe_str (pe_callB (Ks.call_show hG ((show ∀ a b c : Nat, b + c + 200 < a → b + 100 < a from fun _ _ _ h => by omega) _ _ _ hr.un)) (by rfl) T.m_repr (by decide +kernel) (pa_cons (pv 6) pa_nil))) (nomark _)))))))))))), ?_⟩
    refine ⟨.ref b, rfl, b, rfl, hb, fun x d H1 g1 hx fx sx nx => ?_⟩
    refine ⟨.ref b, rfl, b, rfl, g1.1, fun x2 d2 H2 g2 hx2 fx2 sx2 nx2 => ?_⟩
    refine ⟨.ref b, rfl, b, 4, rfl, by decide, by decide, g2.1, fun r r4 H3 g3 => ?_⟩
    have vx : Vl b H3 x := Vl.up ⟨hx, fx⟩ (g2.trans g3)
    have vx2 : Vl b H3 x2 := Vl.up ⟨hx2, fx2⟩ g3
    have sx3 := shwUp sx (g2.trans g3)
    have G3 := (g1.trans g2).trans g3
    refine ⟨_, _, _, rfl, .ref b, rfl, x, rfl, (show 5 ≤ sizeLine by decide), fun p np => ?_⟩
    have G4 := G3.new (o := .lst [x, .int 0, .int 1, .int 3, .int 5]) np
    refine ⟨b, p, _, rfl, G4.1, upd_same, G3.1.ne np, (fun z => nomatch z), (show 5 ≤ 1000 by decide), fun sz hs H5 g5 => ?_⟩
    have g35 := ((Go.refl G3.1).new (o := .lst [x, .int 0, .int 1, .int 3, .int 5]) np).trans g5
    have G5 := G3.trans g35
    have hsz : ∃ ds, Vl b H5 sz ∧ Shw K (wo b H5) sz ds ∧ lettersOk sz = false := by
      simp only [List.mem_cons, List.not_mem_nil, or_false] at hs
      rcases hs with rfl | rfl | rfl | rfl | rfl
      · exact ⟨d, vx.up g35, shwUp sx3 g35, letters_no nx⟩
      · exact ⟨_, Vl.int _, shwInt 0, by decide⟩
      · exact ⟨_, Vl.int _, shwInt 1, by decide⟩
      · exact ⟨_, Vl.int _, shwInt 3, by decide⟩
      · exact ⟨_, Vl.int _, shwInt 5, by decide⟩
    obtain ⟨ds, vs5, ss5, ls⟩ := hsz
    refine ⟨sz, rfl, .ref b, rfl, .int r, rfl, x2, rfl, (show 2 ≤ sizeLine by decide), fun p6 np6 => ?_⟩
    have g56 := (Go.refl G5.1).new (o := .lst [.int r, x2]) np6
    refine ⟨b, p6, _, rfl, g56.1, upd_same, G5.1.ne np6, (fun z => nomatch z), (show 2 ≤ 1000 by decide), fun y hy H7 g7 => ?_⟩
    have g57 := g56.trans g7
    have vy : Vl b H7 y := by
      simp only [List.mem_cons, List.not_mem_nil, or_false] at hy
      rcases hy with rfl | rfl
      · exact Vl.int _
      · exact (vx2.up g35).up g57
    have vs7 := vs5.up g57
    have ss7 := shwUp ss5 g57
    refine ⟨1, sz, y, _, rfl, vs7.at, vs7.fit, vy.at, vy.fit, toldNum (shwAt ss7) (outc1_num ls), fun H8 s8 => ?_⟩
    have G7 := G5.trans g57
    have g78 := Go.same G7.1 s8
    obtain ⟨a1, a2, a3, a4⟩ := shwAt (shwUp ss7 g78)
    refine ⟨sz, rfl, sz, ds, rfl, a1, a2, a3, Nat.le_trans a4 (by decide), _, _, rfl, rfl, num_len a4, rfl, _, rfl, ite2 (fun e => eqs rfl e) (fun _ => ?_)⟩
    have vx8 := vx.up ((g35.trans g57).trans g78)
    have sx8 := shwUp sx3 ((g35.trans g57).trans g78)
    have vs8 := vs7.up g78
    have ss8 := shwUp ss7 g78
    have G8 := G7.trans g78
    -- widths
    refine ⟨x, rfl, 1, .int 2, x, _, rfl, .int _, (fun z e => nomatch e), vx8.at, vx8.fit, toldNum (shwAt sx8) (outc1_w (by decide) nx), fun H9 s9 => ?_⟩
    have g89 := Go.same G8.1 s9
    obtain ⟨a1, a2, a3, a4⟩ := shwAt (shwUp sx8 g89)
    refine ⟨x, rfl, x, d, rfl, a1, a2, a3, Nat.le_trans a4 (by decide), _, _, rfl, rfl, num_len a4, rfl, _, rfl, ite2 (fun e => eqs rfl e) (fun _ => ?_)⟩
    have vx9 := vx8.up g89
    have sx9 := shwUp sx8 g89
    have G9 := G8.trans g89
    refine ⟨x, rfl, 1, .int 4, x, _, rfl, .int _, (fun z e => nomatch e), vx9.at, vx9.fit, toldNum (shwAt sx9) (outc1_w (by decide) nx), fun Ha sa => ?_⟩
    have g9a := Go.same G9.1 sa
    obtain ⟨a1, a2, a3, a4⟩ := shwAt (shwUp sx9 g9a)
    refine ⟨x, rfl, x, d, rfl, a1, a2, a3, Nat.le_trans a4 (by decide), _, _, rfl, rfl, num_len a4, rfl, _, rfl, ite2 (fun e => eqs rfl e) (fun _ => ?_)⟩
    have vxa := vx9.up g9a
    have sxa := shwUp sx9 g9a
    have vsa := (vs8.up g89).up g9a
    have ssa := shwUp ss8 (g89.trans g9a)
    have Ga := G9.trans g9a
    -- a value and the letters
    refine ⟨.ref b, rfl, x, rfl, (show 5 ≤ sizeLine by decide), fun pb npb => ?_⟩
    have gab := (Go.refl Ga.1).new (o := .lst [.str "01", .non, x, .int 5, .str "9"]) npb
    refine ⟨b, pb, _, rfl, gab.1, upd_same, Ga.1.ne npb, (fun z => nomatch z), (show 5 ≤ 1000 by decide), fun v hv Hc gc => ?_⟩
    have gac := gab.trans gc
    have vv : Vl b Hc v := by
      simp only [List.mem_cons, List.not_mem_nil, or_false] at hv
      rcases hv with rfl | rfl | rfl | rfl | rfl
      · exact Vl.str _ (by decide)
      · exact Vl.non
      · exact vxa.up gac
      · exact Vl.int _
      · exact Vl.str _ (by decide)
    have vsc := vsa.up gac
    have ssc := shwUp ssa gac
    have Gc := Ga.trans gac
    refine ⟨v, rfl, sz, rfl, 0, v, sz, _, rfl, vv.at, vv.fit, vsc.at, vsc.fit, toldNum (shwAt ssc) (outc0_num ls), fun Hd sd => ?_⟩
    have gcd := Go.same Gc.1 sd
    obtain ⟨a1, a2, a3, a4⟩ := shwAt (shwUp ssc gcd)
    refine ⟨sz, rfl, sz, ds, rfl, a1, a2, a3, Nat.le_trans a4 (by decide), _, _, rfl, rfl, num_len a4, rfl, _, rfl, ite2 (fun e => eqs rfl e) (fun _ => ?_)⟩
    have vvd := vv.up gcd
    have Gd := Gc.trans gcd
    refine ⟨v, rfl, 0, v, .int 2, _, rfl, vvd.at, vvd.fit, .int _, (fun z e => nomatch e), toldTold (outc0_told (by decide)), fun He se => ?_⟩
    refine ⟨rfl, _, rfl, ite2 (fun e => eqs rfl e) (fun _ => ?_)⟩
    have gde := Go.same Gd.1 se
    have Ge := Gd.trans gde
    have vxe := vxa.up ((gac.trans gcd).trans gde)
    have sxe := shwUp sxa ((gac.trans gcd).trans gde)
    -- the line
    refine ⟨.ref b, rfl, x, rfl, (show 4 ≤ sizeLine by decide), fun pf npf => ?_⟩
    have gef := (Go.refl Ge.1).new (o := .lst [x, .int 2, .int 3, .int 4]) npf
    refine ⟨b, pf, _, rfl, gef.1, upd_same, Ge.1.ne npf, (fun z => nomatch z), (show 4 ≤ 1000 by decide), fun ln hln Hg gg => ?_⟩
    have geg := gef.trans gg
    have hl : ∃ dl, Vl b Hg ln ∧ Shw K (wo b Hg) ln dl ∧ isNum 0 1 ln = false := by
      simp only [List.mem_cons, List.not_mem_nil, or_false] at hln
      rcases hln with rfl | rfl | rfl | rfl
      · exact ⟨d, vxe.up geg, shwUp sxe geg, isNum_sub nx (by decide) (by decide)⟩
      · exact ⟨_, Vl.int _, shwInt 2, by decide⟩
      · exact ⟨_, Vl.int _, shwInt 3, by decide⟩
      · exact ⟨_, Vl.int _, shwInt 4, by decide⟩
    obtain ⟨dl, vl, sl, nl⟩ := hl
    have Gg := Ge.trans geg
    refine ⟨.ref b, rfl, .int r, rfl, b, 4, r, rfl, .inr rfl, (by omega), (by omega), Gg.1, fun z hz lz Hh gh => ?_⟩
    have Gh := Gg.trans gh
    have vlh := vl.up gh
    have slh := shwUp sl gh
    obtain ⟨z', ez, lz', _⟩ := isTxt_str hz
    cases ez
    refine ⟨ln, rfl, 3, .str z, ln, _, rfl, .str z, (fun u e => by cases e; exact line200 lz'), vlh.at, vlh.fit, toldNum (shwAt slh) (outc3_num hz nl), fun Hi si => ?_⟩
    have ghi := Go.same Gh.1 si
    obtain ⟨a1, a2, a3, a4⟩ := shwAt (shwUp slh ghi)
    refine ⟨ln, rfl, ln, dl, rfl, a1, a2, a3, Nat.le_trans a4 (by decide), _, _, rfl, rfl, num_len a4, rfl, ?_⟩
    have := q _ (Gh.trans ghi)
    rw [← decide_eq_true (rfl : V.str (("number " : Str) ++ dl.shown) = V.str (("number " : Str) ++ dl.shown))] at this
    exact this
end
end K03

namespace K03
open PySem PySem.Spec L2 Ks
open PyProof.Rows hiding St
theorem txt_24 {z : Str} (h : isTxt 2 (.str z) = true) : isTxt 4 (.str z) = true := by
  obtain ⟨z', e, l, ha⟩ := isTxt_str h
  cases e
  show (decide (z.length ≤ 200) && _) = true
  rw [decide_eq_true l, Bool.true_and, List.all_eq_true]
  rw [List.all_eq_true] at ha
  intro c hc
  have h1 := ha c hc
  rw [alpha2] at h1
  rw [alpha4]
  have h2 : c = 48 ∨ c = 49 := by simpa using h1
  rcases h2 with rfl | rfl <;> decide +kernel
section
variable {P : Program} {w : World} {K : PySem.W.Frag} {mg : Str → Option Value} {base : Heap}
variable {CN CT CO fI fN fC fL fT fX fW : Addr} {fdI dN dC dL dT dX dW : FuncData} {fO fA fJ fS : Addr} {dO dA dJ dS : FuncData}
variable {fa fb fc fd' fe ff fg : Addr} {da db dc dd de df dg : FuncData}
theorem okLareValues {f f2 : Addr} {fd fd2 : FuncData} (D : Dn K mg "_law_are_values" sLareValues ["_law_bag_here"] f fd) (DLlinesAsked : Dn K mg "_law_lines_asked" sLlinesAsked ["_law_lines"] f2 fd2) (L : Dl K mg fa fb fc fd' fe ff fg da db dc dd de df dg)
    (S : Ds K mg fN fC fL fT fX fW dN dC dL dT dX dW) (S2 : Dt K mg fO fA fJ fS dO dA dJ dS) (T : Bx mg) (R : Er K mg CN CT fI fdI) (OO : OwnE K mg "InvalidOperation" CO) (X : Ek K CN CT CO) :
    FnG P w K mg base CX0 11 f fd ["_law_bag_here"] spAre := by
  have DLdraw := L.draw
  have DLoneOf := L.one
  have DLtext := L.text
  have DLasked := L.asked
  have DLnoText := L.noT
  have GLdraw : FnOk P w K mg base CX0 1 _ _ _ _ := okLdraw L.draw T
  have GLoneOf : FnOk P w K mg base CX0 2 _ _ _ _ := okLoneOf L.one L.draw T
  have GLtext : FnOk P w K mg base CX0 2 _ _ _ _ := okLtext L.text L.draw T
  have GLnoText : FnOk P w K mg base CX0 3 _ _ _ _ := okLnoText L.noT L.one L.draw L.text T
  have GLlinesAsked : FnOk P w K mg base CX0 8 _ _ _ _ := okLinesAsked DLlinesAsked S S2 T R OO X
  have GLasked : FnG P w K mg base CX0 10 _ _ _ _ := okAsked L.asked L.call S S2 T R OO X
  refine fng_of D.F scLareValues (fun vs H Q E h => ?_) (fun cdv A outer s H vs Q E hr hG h => ?_)
  · obtain ⟨b, rfl, _⟩ := h
    rfl
  · obtain ⟨b, rfl, hb, q⟩ := h
    refine ⟨_, ((pss_cons (ps_par (i := 1) (j := 2) (by rfl) scLareValues.nd rfl rfl (by decide) rfl rfl (pa_cons (pe_call GLnoText (hr.mono (by decide)) (by rfl) DLnoText.g DLnoText.F.kp DLnoText.b .nil pass0 (pa_cons (pv 0) (pa_cons pe_int pa_nil))) (pa_cons (pe_call GLnoText (hr.mono (by decide)) (by rfl) DLnoText.g DLnoText.F.kp DLnoText.b .nil pass0 (pa_cons (pv 0) (pa_cons pe_int pa_nil))) pa_nil)) (by rfl))
  (pss_cons (ps_par3 (i := 3) (j := 4) (l := 5) rfl scLareValues.nd rfl rfl rfl (by decide) (by decide) (by decide) rfl rfl rfl (pa_cons (pe_call GLtext (hr.mono (by decide)) (by rfl) DLtext.g DLtext.F.kp DLtext.b .nil pass0 (pa_cons (pv 0) (pa_cons pe_int (pa_cons pe_int pa_nil)))) (pa_cons (pe_call GLtext (hr.mono (by decide)) (by rfl) DLtext.g DLtext.F.kp DLtext.b .nil pass0 (pa_cons (pv 0) (pa_cons pe_int (pa_cons pe_int pa_nil)))) (pa_cons (pe_call GLtext (hr.mono (by decide)) (by rfl) DLtext.g DLtext.F.kp DLtext.b .nil pass0 (pa_cons (pv 0) (pa_cons pe_int (pa_cons pe_int pa_nil)))) pa_nil))) (by rfl))
  (pss_cons (ps_if (pt_cmpR (op_neD hr.units) (pe_lst (pa_cons (Ks.pe_callG hG GLasked (hr.mono (by decide)) (by rfl) DLasked.g DLasked.F.kp DLasked.b pass0 (pa_cons pe_int (pa_cons (pv 1) (pa_cons (pv 3) pa_nil)))) (pa_cons (Ks.pe_callG hG GLasked (hr.mono (by decide)) (by rfl) DLasked.g DLasked.F.kp DLasked.b pass0 (pa_cons pe_int (pa_cons (pv 3) (pa_cons (pv 1) pa_nil)))) (pa_cons (Ks.pe_callG hG GLasked (hr.mono (by decide)) (by rfl) DLasked.g DLasked.F.kp DLasked.b pass0 (pa_cons pe_int (pa_cons (pv 1) (pa_cons (pv 2) pa_nil)))) pa_nil)))) (pe_op op_rep (pe_lst (pa_cons pe_str pa_nil)) pe_int) (nomark _)) (pss_one (ps_ret pe_bl)) pss_nil)
  (pss_cons (ps_if (PW.pt (pw_or (pt_cmpR op_ne (Ks.pe_callG hG GLasked (hr.mono (by decide)) (by rfl) DLasked.g DLasked.F.kp DLasked.b pass0 (pa_cons pe_int (pa_cons (pv 1) (pa_cons (pe_call GLoneOf (hr.mono (by decide)) (by rfl) DLoneOf.g DLoneOf.F.kp DLoneOf.b .nil pass0 (pa_cons (pv 0) (pa_cons (pe_lst (pa_cons pe_int (pa_cons pe_int (pa_cons pe_int (pa_cons pe_non pa_nil))))) pa_nil))) pa_nil)))) pe_str (nomark _)) (pw_or1 (pt_cmpR op_ne (Ks.pe_callG hG GLasked (hr.mono (by decide)) (by rfl) DLasked.g DLasked.F.kp DLasked.b pass0 (pa_cons pe_int (pa_cons (pv 3) (pa_cons (pv 4) pa_nil)))) pe_str (nomark _))))) (pss_one (ps_ret pe_bl)) pss_nil)
  (pss_cons (ps_if (pt_cmpR (op_neD hr.units) (pe_lst (pa_cons (Ks.pe_callG hG GLasked (hr.mono (by decide)) (by rfl) DLasked.g DLasked.F.kp DLasked.b pass0 (pa_cons pe_int (pa_cons (pv 2) (pa_cons (pv 4) pa_nil)))) (pa_cons (Ks.pe_callG hG GLasked (hr.mono (by decide)) (by rfl) DLasked.g DLasked.F.kp DLasked.b pass0 (pa_cons pe_int (pa_cons (pv 5) (pa_cons (pv 2) pa_nil)))) pa_nil))) (pe_op op_rep (pe_lst (pa_cons pe_str pa_nil)) pe_int) (nomark _)) (pss_one (ps_ret pe_bl)) pss_nil)
  (pss_cons (ps_if (PW.pt (pw_or (pt_cmpR op_ne (Ks.pe_callG hG GLasked (hr.mono (by decide)) (by rfl) DLasked.g DLasked.F.kp DLasked.b pass0 (pa_cons pe_int (pa_cons (pv 4) (pa_cons (pv 5) pa_nil)))) pe_str (nomark _)) (pw_or1 (pt_cmpR op_ne (Ks.pe_callG hG GLasked (hr.mono (by decide)) (by rfl) DLasked.g DLasked.F.kp DLasked.b pass0 (pa_cons pe_int (pa_cons (pv 5) (pa_cons (pv 5) pa_nil)))) pe_str (nomark _))))) (pss_one (ps_ret pe_bl)) pss_nil)
  (pss_cons (ps_set (i := 6) scLareValues.nd rfl (Or.inl rfl) (pe_lst (pa_cons (pv 4) (pa_cons (pe_call GLoneOf (hr.mono (by decide)) (by rfl) DLoneOf.g DLoneOf.F.kp DLoneOf.b .nil pass0 (pa_cons (pv 0) (pa_cons (pe_lst (pa_cons (pv 4) (pa_cons (pv 5) pa_nil))) pa_nil))) (pa_cons (pv 5) pa_nil)))))
  (pss_cons (ps_if (PW.pt (pw_or (pt_cmpR op_ne (pe_call GLlinesAsked (hr.mono (by decide)) (by rfl) DLlinesAsked.g DLlinesAsked.F.kp DLlinesAsked.b .nil pass0 (pa_cons (pe_lst pa_nil) pa_nil)) pe_str (nomark _)) (pw_or1 (pt_cmpR op_ne (pe_call GLlinesAsked (hr.mono (by decide)) (by rfl) DLlinesAsked.g DLlinesAsked.F.kp DLlinesAsked.b .nil pass0 (pa_cons (pv 6) pa_nil)) pe_str (nomark _))))) (pss_one (ps_ret pe_bl)) pss_nil)
  (pss_cons (ps_asg (pv 2) (pg_sub (pv 6) (pe_call GLdraw (hr.mono (by decide)) (by rfl) DLdraw.g DLdraw.F.kp DLdraw.b .nil pass0 (pa_cons (pv 0) (pa_cons pe_int pa_nil))) set_list))
  (pss_one (ps_ret (pe_and (pe_cmpR op_eq (pe_call GLlinesAsked (hr.mono (by decide)) (by rfl) DLlinesAsked.g DLlinesAsked.F.kp DLlinesAsked.b .nil pass0 (pa_cons (pv 6) pa_nil)) pe_str (nomark _)) (pe_one (pe_cmpR op_eq (pe_call GLlinesAsked (hr.mono (by decide)) (by rfl) DLlinesAsked.g DLlinesAsked.F.kp DLlinesAsked.b .nil pass0 (pa_cons (pe_lst (pa_cons (pv 2) pa_nil)) pa_nil)) pe_str (nomark _)))))))))))))))), ?_⟩
    refine ⟨.ref b, rfl, b, 4, rfl, .inr rfl, hb, fun x H1 g1 hx fx nx => ?_⟩
    refine ⟨.ref b, rfl, b, 2, rfl, .inl rfl, g1.1, fun y H2 g2 hy fy ny => ⟨_, _, rfl, ?_⟩⟩
    refine ⟨.ref b, rfl, b, 4, 3, rfl, .inr rfl, by decide, by decide, g2.1, fun tt ht lt H3 g3 => ?_⟩
    refine ⟨.ref b, rfl, b, 2, 2, rfl, .inl rfl, by decide, by decide, g3.1, fun oo ho lo H4 g4 => ?_⟩
    refine ⟨.ref b, rfl, b, 2, 3, rfl, .inl rfl, by decide, by decide, g4.1, fun ww hw lw H5 g5 => ⟨_, _, _, rfl, ?_⟩⟩
    have fs : ∀ {n : Int} {z : Str}, isTxt n (.str z) = true → z.length ≤ sizeLine := fun h => by
      obtain ⟨z', e, l, _⟩ := isTxt_str h
      cases e
      exact line200 l
    have at_ : ∀ {z : Str} {H' : Hp}, AnyV H' (.str z) := .str _
    have ft : ∀ {n : Int} {z : Str}, isTxt n (.str z) = true → Fit (.str z) := fun h u e => by
      cases e
      exact fs h
    have G5 := (((g1.trans g2).trans g3).trans g4).trans g5
    have vx : Vl b H5 x := Vl.up ⟨hx, fx⟩ (((g2.trans g3).trans g4).trans g5)
    have vy : Vl b H5 y := Vl.up ⟨hy, fy⟩ ((g3.trans g4).trans g5)
    have toO := txt_24 ho
    have toW := txt_24 hw
    -- comes_ahead
    refine ⟨x, rfl, .str tt, rfl, 2, x, .str tt, _, rfl, vx.at, vx.fit, at_, ft ht, toldText (outc2_of (b := false) (by rw [nx, Bool.false_and])), fun H6 s6 => ?_⟩
    have g56 := Go.same G5.1 s6
    have vx6 := vx.up g56
    have vy6 := vy.up g56
    refine ⟨.str tt, rfl, x, rfl, 2, .str tt, x, _, rfl, at_, ft ht, vx6.at, vx6.fit, toldText (outc2_of (b := false) (by rw [nx, Bool.and_false])), fun H7 s7 => ?_⟩
    have g67 := Go.same g56.1 s7
    have vx7 := vx6.up g67
    have vy7 := vy6.up g67
    refine ⟨x, rfl, y, rfl, 2, x, y, _, rfl, vx7.at, vx7.fit, vy7.at, vy7.fit, toldText (outc2_of (b := false) (by rw [nx, Bool.false_and])), fun H8 s8 => ?_⟩
    have g78 := Go.same g67.1 s8
    refine ⟨(show 3 ≤ sizeLine by decide), fun p np => ⟨(show 1 ≤ sizeLine by decide), fun p2 np2 => ?_⟩⟩
    have t3 : ∀ {H' : Hp} {a : Addr}, H' a = some (.lst [.str "text", .str "text", .str "text"]) → Dp K H' (.ref a) (.list [.str "text", .str "text", .str "text"]) := fun e => .lst (.inl (.inl e)) (.cons (.str _) (.cons (.str _) (.cons (.str _) .nil)))
    have t2 : ∀ {H' : Hp} {a : Addr}, H' a = some (.lst [.str "text", .str "text"]) → Dp K H' (.ref a) (.list [.str "text", .str "text"]) := fun e => .lst (.inl (.inl e)) (.cons (.str _) (.cons (.str _) .nil))
    refine ⟨p2, 3, [.str "text"], rfl, rfl, upd_same, by decide, by decide, (show 1 * 3 ≤ sizeLine by decide), fun p3 np3 => ?_⟩
    have g89 := (((Go.refl g78.1).new (o := .lst [.str "text", .str "text", .str "text"]) np).new (o := .lst [.str "text"]) np2).new (o := .lst [.str "text", .str "text", .str "text"]) np3
    have pp2 : p ≠ p2 := fun z => by rw [← z, upd_same] at np2; cases np2
    have pp3 : p ≠ p3 := fun z => by rw [← z, upd_ne pp2, upd_same] at np3; cases np3
    refine ⟨.list [.str "text", .str "text", .str "text"], .list [.str "text", .str "text", .str "text"], t3 (by rw [upd_ne pp3, upd_ne pp2, upd_same]), t3 upd_same, by decide +kernel, by decide +kernel, _, rfl, ite2 (fun e => absurd e (by decide +kernel)) (fun _ => ?_)⟩
    have vx9 := (vx7.up g78).up g89
    have vy9 := (vy7.up g78).up g89
    have G9 := ((G5.trans g56).trans g67).trans (g78.trans g89)
    -- line_of, comes_ahead
    refine ⟨x, rfl, .ref b, rfl, (show 4 ≤ sizeLine by decide), fun pa npa => ?_⟩
    have g9a := (Go.refl G9.1).new (o := .lst [.int 0, .int 1, .int 2, .non]) npa
    refine ⟨b, pa, _, rfl, g9a.1, upd_same, G9.1.ne npa, (fun z => nomatch z), (show 4 ≤ 1000 by decide), fun v hv Hb gb => ?_⟩
    have vv : Vl b Hb v := by
      simp only [List.mem_cons, List.not_mem_nil, or_false] at hv
      rcases hv with rfl | rfl | rfl | rfl
      · exact Vl.int _
      · exact Vl.int _
      · exact Vl.int _
      · exact Vl.non
    have g9b := g9a.trans gb
    have vxb := vx9.up g9b
    refine ⟨3, x, v, _, rfl, vxb.at, vxb.fit, vv.at, vv.fit, toldText (outc3_text nx), fun Hc sc => ?_⟩
    refine ⟨rfl, _, rfl, ite2 (fun e => eqs rfl e) (fun _ => ?_)⟩
    have g9c := g9b.trans (Go.same gb.1 sc)
    refine ⟨.str tt, rfl, .str oo, rfl, 2, .str tt, .str oo, _, rfl, at_, ft ht, at_, ft ho, toldTold (outc2_of (b := true) (by rw [ht, toO]; rfl)), fun Hd sd => ?_⟩
    refine ⟨rfl, _, rfl, ite2 (fun e => eqs rfl e) (fun _ => ?_)⟩
    have g9d := g9c.trans (Go.same g9c.1 sd)
    have vyd := vy9.up g9d
    -- text_of_lines
    refine ⟨y, rfl, .str oo, rfl, 4, y, .str oo, _, rfl, vyd.at, vyd.fit, at_, ft ho, toldText (outc4_text (by rw [ny, Bool.false_and])), fun He se => ?_⟩
    have gde := Go.same g9d.1 se
    have vye := vyd.up gde
    refine ⟨.str ww, rfl, y, rfl, 4, .str ww, y, _, rfl, at_, ft hw, vye.at, vye.fit, toldText (outc4_text (by rw [ny, Bool.and_false])), fun Hf sf => ?_⟩
    have gef := Go.same gde.1 sf
    refine ⟨(show 2 ≤ sizeLine by decide), fun r nr => ⟨(show 1 ≤ sizeLine by decide), fun r2 nr2 => ?_⟩⟩
    refine ⟨r2, 2, [.str "text"], rfl, rfl, upd_same, by decide, by decide, (show 1 * 2 ≤ sizeLine by decide), fun r3 nr3 => ?_⟩
    have gfg := (((Go.refl gef.1).new (o := .lst [.str "text", .str "text"]) nr).new (o := .lst [.str "text"]) nr2).new (o := .lst [.str "text", .str "text"]) nr3
    have rr2 : r ≠ r2 := fun z => by rw [← z, upd_same] at nr2; cases nr2
    have rr3 : r ≠ r3 := fun z => by rw [← z, upd_ne rr2, upd_same] at nr3; cases nr3
    refine ⟨.list [.str "text", .str "text"], .list [.str "text", .str "text"], t2 (by rw [upd_ne rr3, upd_ne rr2, upd_same]), t2 upd_same, by decide +kernel, by decide +kernel, _, rfl, ite2 (fun e => absurd e (by decide +kernel)) (fun _ => ?_)⟩
    have Gg := ((G9.trans g9d).trans (gde.trans gef)).trans gfg
    have vyg := (vye.up gef).up gfg
    refine ⟨.str oo, rfl, .str ww, rfl, 4, .str oo, .str ww, _, rfl, at_, ft ho, at_, ft hw, toldOp ?_, fun Hh sh => ?_⟩
    · rw [outc4_of (by rw [ho, hw]; rfl), if_neg (by omega)]
    refine ⟨rfl, _, rfl, ite2 (fun e => eqs rfl e) (fun _ => ?_)⟩
    have ggh := Go.same Gg.1 sh
    refine ⟨.str ww, rfl, .str ww, rfl, 4, .str ww, .str ww, _, rfl, at_, ft hw, at_, ft hw, toldTold ?_, fun Hi si => ?_⟩
    · rw [outc4_of (by rw [hw]; rfl), if_pos rfl]
    refine ⟨rfl, _, rfl, ite2 (fun e => eqs rfl e) (fun _ => ?_)⟩
    have ghi := Go.same ggh.1 si
    have Gi := (Gg.trans ggh).trans ghi
    have vyi := (vyg.up ggh).up ghi
    -- some lines
    refine ⟨.str oo, rfl, .ref b, rfl, .str oo, rfl, .str ww, rfl, (show 2 ≤ sizeLine by decide), fun pj npj => ?_⟩
    have gij := (Go.refl Gi.1).new (o := .lst [.str oo, .str ww]) npj
    refine ⟨b, pj, _, rfl, gij.1, upd_same, Gi.1.ne npj, (fun z => nomatch z), (show 2 ≤ 1000 by decide), fun mm hm Hk gk => ?_⟩
    have hmm : ∃ z, mm = .str z ∧ isTxt 2 (.str z) = true := by
      simp only [List.mem_cons, List.not_mem_nil, or_false] at hm
      rcases hm with rfl | rfl
      · exact ⟨oo, rfl, ho⟩
      · exact ⟨ww, rfl, hw⟩
    obtain ⟨mz, rfl, hmz⟩ := hmm
    have gik := gij.trans gk
    have Gk := Gi.trans gik
    have vyk := vyi.up gik
    refine ⟨.str ww, rfl, (show 3 ≤ sizeLine by decide), fun ps nps => ?_⟩
    have psb := Gk.1.ne nps
    have gkl := (Go.refl Gk.1).new (o := .lst [.str oo, .str mz, .str ww]) nps
    have vyl := vyk.up gkl
    have Gl_ := Gk.trans gkl
    refine ⟨(show 0 ≤ sizeLine by decide), fun p0 np0 => ?_⟩
    refine ⟨p0, [], "operation", rfl, upd_same, (fun z hz => nomatch hz), .inl rfl, (fun _ => ⟨by decide, rfl⟩), (fun e => nomatch e), fun Hm sm => ?_⟩
    refine ⟨rfl, _, rfl, ite2 (fun e => eqs rfl e) (fun _ => ?_)⟩
    have glm := ((Go.refl Gl_.1).new (o := .lst []) np0).trans (Go.same ((Go.refl Gl_.1).new (o := .lst []) np0).1 sm)
    have ps1 := glm.at psb upd_same
    have tx3 : ∀ u ∈ [V.str oo, .str mz, .str ww], isTxt 2 u = true := fun u hu => by
      simp only [List.mem_cons, List.not_mem_nil, or_false] at hu
      rcases hu with rfl | rfl | rfl
      · exact ho
      · exact hmz
      · exact hw
    have all3 : ([V.str oo, .str mz, .str ww].all (isTxt 2)) = true := List.all_eq_true.mpr tx3
    have ok3 : ∀ {H' : Hp}, ∀ u ∈ [V.str oo, .str mz, .str ww], AnyV H' u ∧ Fit u := fun {H'} u hu => by
      have h1 := tx3 u hu
      obtain ⟨z', rfl, _⟩ := isTxt_str h1
      exact ⟨.str _, ft h1⟩
    refine ⟨.ref ps, rfl, ps, _, "operation", rfl, ps1, ok3, .inr (.inr rfl), (fun _ => ⟨by show 3 ≠ 1; decide, rfl⟩), (fun e => by rw [all3] at e; cases e), fun Hn sn => ?_⟩
    refine ⟨rfl, _, rfl, ite2 (fun e => eqs rfl e) (fun _ => ?_)⟩
    have gmn := Go.same glm.1 sn
    have gln := glm.trans gmn
    have vyn := vyl.up gln
    -- one of them is spoilt
    refine ⟨y, rfl, .ref ps, rfl, .ref b, rfl, b, 3, rfl, by decide, by decide, gmn.1, fun j j3 Ho go => ?_⟩
    have glo := gln.trans go
    have pso := glo.at psb upd_same
    have vyo := vyn.up go
    have j3' : j < 3 := by omega
    refine ⟨ps, _, (j : Int), j, rfl, rfl, pso, (by unfold ixN; rw [if_pos (by omega), if_pos (by show (j : Int) < 3; omega)]; rfl), ?_⟩
    have gpp : Go b Hk (upd Ho ps (.lst ([V.str oo, .str mz, .str ww].set j y))) := (gkl.trans glo).set nps Gk.1
    have Gp := Gk.trans gpp
    have vyp := vyk.up gpp
    have mem : y ∈ [V.str oo, .str mz, .str ww].set j y := List.mem_set (by show j < 3; exact j3') y
    have bad3 : (([V.str oo, .str mz, .str ww].set j y).all (isTxt 2)) = false := by
      rw [Bool.eq_false_iff]
      intro z
      rw [List.all_eq_true] at z
      have := z y mem
      rw [ny] at this
      cases this
    have ok3' : ∀ u ∈ [V.str oo, .str mz, .str ww].set j y, AnyV (upd Ho ps (.lst ([V.str oo, .str mz, .str ww].set j y))) u ∧ Fit u := fun u hu => by
      rcases List.mem_or_eq_of_mem_set hu with h | rfl
      · exact ok3 u h
      · exact ⟨vyp.at, vyp.fit⟩
    refine ⟨.ref ps, rfl, ps, _, "text", rfl, upd_same, ok3', .inr (.inr (by rw [List.length_set]; rfl)), (fun e => by rw [bad3] at e; cases e), (fun _ => rfl), fun Hq sq => ?_⟩
    refine ⟨rfl, _, rfl, ite2 (fun _ => ?_) (fun e => absurd (decide_eq_true rfl) e)⟩
    have gpq := Go.same gpp.1 sq
    have vyq := vyp.up gpq
    refine ⟨y, rfl, (show 1 ≤ sizeLine by decide), fun pz npz => ?_⟩
    have gqr := (Go.refl gpq.1).new (o := .lst [y]) npz
    have vyr := vyq.up gqr
    have bad1 : ([y].all (isTxt 2)) = false := by simp [ny]
    refine ⟨pz, [y], "text", rfl, upd_same, (fun u hu => by
      have e : u = y := by simpa using hu
      subst e
      exact ⟨vyr.at, vyr.fit⟩), .inr (.inl rfl), (fun e => by rw [bad1] at e; cases e), (fun _ => rfl), fun Hr sr => ?_⟩
    refine ⟨rfl, ?_⟩
    exact q _ ((Gp.trans gpq).trans (gqr.trans (Go.same gqr.1 sr)))
end
end K03

namespace K03
open PySem PySem.Spec L2 Ks
open PyProof.Rows hiding St
def spLaw (K : PySem.W.Frag) : Sp := fun vs H Q _ => ∃ (a : Addr) (ns : List Int), vs = [.ref a] ∧ SqL K H a (ns.map V.int) ∧ ∀ H', Q (.bl true) H'
section
variable {P : Program} {w : World} {K : PySem.W.Frag} {mg : Str → Option Value} {base : Heap}
variable {CN CT CO fI fN fC fL fT fX fW : Addr} {fdI dN dC dL dT dX dW : FuncData} {fO fA fJ fS : Addr} {dO dA dJ dS : FuncData}
variable {fa fb fc fd' fe ff fg : Addr} {da db dc dd de df dg : FuncData}
theorem okLaw {f f2 f3 f4 f5 : Addr} {fd fd2 fd3 fd4 fd5 : FuncData} (D : Dn K mg "law" sLaw ["_law_script"] f fd) (DLbag : Dn K mg "_law_bag" sLbag ["_law_script", "_law_at"] f3 fd3)
    (DLareNumbers : Dn K mg "_law_are_numbers" sLareNumbers ["_law_bag_here"] f4 fd4) (DLareValues : Dn K mg "_law_are_values" sLareValues ["_law_bag_here"] f5 fd5)
    (DLlinesAsked : Dn K mg "_law_lines_asked" sLlinesAsked ["_law_lines"] f2 fd2) (L : Dl K mg fa fb fc fd' fe ff fg da db dc dd de df dg)
    (S : Ds K mg fN fC fL fT fX fW dN dC dL dT dX dW) (S2 : Dt K mg fO fA fJ fS dO dA dJ dS) (T : Bx mg) (R : Er K mg CN CT fI fdI) (OO : OwnE K mg "InvalidOperation" CO) (X : Ek K CN CT CO) :
    FnG P w K mg base CX0 12 f fd ["_law_script"] (spLaw K) := by
  have GLbag : FnOk P w K mg base CX0 1 _ _ _ _ := okLbag DLbag T
  have GLareNumbers : FnG P w K mg base CX0 11 _ _ _ _ := okLareNumbers DLareNumbers L S S2 T R OO X
  have GLareValues : FnG P w K mg base CX0 11 _ _ _ _ := okLareValues DLareValues DLlinesAsked L S S2 T R OO X
  refine fng_of D.F scLaw (fun vs H Q E h => ?_) (fun cdv A outer s H vs Q E hr hG h => ?_)
  · obtain ⟨a, ns, rfl, _⟩ := h
    rfl
  · obtain ⟨a, ns, rfl, hS, q⟩ := h
    refine ⟨_, ((pss_cons (ps_for PassesOwn.leaving rfl (pi_range1 (by rfl) T.m_range (pa_cons (pe_callB (call_max2 rfl) (by rfl) T.m_max (by decide +kernel) (pa_cons pe_int (pa_cons (pe_callB (call_min2 rfl) (by rfl) T.m_min (by decide +kernel) (pa_cons pe_int (pa_cons (pe_callB call_len_seq (by rfl) T.m_len (by decide +kernel) (pa_cons (pv 0) pa_nil)) pa_nil))) pa_nil))) pa_nil)) (pg_name (i := 1) scLaw.nd rfl (Or.inl rfl)) (pss_cons (ps_set (i := 2) scLaw.nd rfl (Or.inl rfl) (pe_call GLbag (hr.mono (by decide)) (by rfl) DLbag.g DLbag.F.kp DLbag.b .nil pass0 (pa_cons (pv 0) (pa_cons (pv 1) pa_nil))))
  (pss_one (ps_if (PW.pt (pw_or (pt_not (pt_val (Ks.pe_callG hG GLareNumbers (hr.mono (by decide)) (by rfl) DLareNumbers.g DLareNumbers.F.kp DLareNumbers.b pass0 (pa_cons (pv 2) pa_nil)))) (pw_or1 (pt_not (pt_val (Ks.pe_callG hG GLareValues (hr.mono (by decide)) (by rfl) DLareValues.g DLareValues.F.kp DLareValues.b pass0 (pa_cons (pv 2) pa_nil))))))) (pss_one (ps_ret pe_bl)) pss_nil))))
  (pss_one (ps_ret pe_bl)))), ?_⟩
    refine ⟨.ref a, rfl, a, _, rfl, .inl hS, 3, _, rfl, 1, _, rfl, _, rfl, ?_, ?_, ?_⟩
    · split <;> split <;> omega
    · split <;> split <;> omega
    · refine for_it (walk_range (lo := 0)) (fun i σ H' => SqL K H' a (ns.map V.int) ∧ ∃ y1 y2, σ = [some (.ref a), y1, y2]) ⟨hS, none, none, rfl⟩ (fun _ _ _ _ _ => trivial) (fun i x σ H1 H2 hi h hy => ?_) (fun σ H1 h => q _)
      obtain ⟨h1, y1, y2, rfl⟩ := h
      obtain ⟨rfl, rfl⟩ := hy
      refine ⟨.ref a, rfl, .int (0 + (i : Int)), rfl, a, ns, 0 + (i : Int), rfl, h1, by omega, fun p H3 np sm bg => ?_⟩
      have sq : SqL K (wo p H3) a (ns.map V.int) := (wo_free np sm).seq h1
      refine ⟨.ref p, rfl, p, rfl, bg, fun H4 g4 => ⟨_, rfl, ite2 (fun e => nomatch e) (fun _ => ?_)⟩⟩
      refine ⟨.ref p, rfl, p, rfl, g4.1, fun H5 g5 => ⟨_, rfl, ite2 (fun e => nomatch e) (fun _ => ?_)⟩⟩
      exact ⟨(wo_same p H5).seq (g5.2.seq (g4.2.seq sq)), _, _, rfl⟩
end
end K03

namespace K03
open PySem PySem.Spec L2 Ks
open PyProof.Rows hiding St
theorem exm_of {K : PySem.W.Frag} {cls : Value} {C : Addr} {b : Bool} (e : PySem.W.subIn K (.ref C) (.type "BaseException") = some true) (i : PySem.W.isClsIn K C = true) (t : PySem.W.typeIn K (.ref C) = some (.type "type")) (s : PySem.W.subIn K cls (.ref C) = some b) :
    PySem.W.exmOne K cls (.ref C) = some b := by
  unfold PySem.W.exmOne PySem.W.kitCls
  rw [if_pos (by rw [e]; decide)]
  show (if _ then _ else _) = _
  rw [if_pos ?_]
  · exact s
  · have h : (PySem.W.clsIn K C).isSome = true := i
    rw [h, t]
    decide
theorem all_mk {P : Program} {w : World} {K : PySem.W.Frag} {h : Heap} {mg : Str → Option Value} {fa CN CT CO fI : Addr} {tW : Tok} (X : K.In h) (G : h.Ns mainGlobals mg) (hfa : mg "law" = some (.ref fa))
    {nm q : Str} {N : Addr} {bs bmm : List Value} {sn : List Str} {sub : List Value} {ab : Bool} {col : Option Bool} {dd : Option Addr} {m0 m1 m2 m3 m5 : Option Value}
    {f0 f1 f2 f3 f4 f5 f6 f7 f8 f9 f10 f11 f12 f13 f14 f15 f16 f17 f18 f19 f20 f21 : Addr}
    {odI anI od0 an0 od1 an1 od2 an2 od3 an3 od4 an4 od5 an5 od6 an6 od7 an7 od8 an8 od9 an9 od10 an10 od11 an11 od12 an12 od13 an13 od14 an14 od15 an15 od16 an16 od17 an17 od18 an18 od19 an19 od20 an20 od21 an21 : Option Addr}
    {slI sl0 sl1 sl2 sl3 sl4 sl5 sl6 sl7 sl8 sl9 sl10 sl11 sl12 sl13 sl14 sl15 sl16 sl17 sl18 sl19 sl20 sl21 : Array (Option Value)}
    {ocI kVI dcI pmI cdI ctI oc0 kV0 dc0 pm0 cd0 ct0 oc1 kV1 dc1 pm1 cd1 ct1 oc2 kV2 dc2 pm2 cd2 ct2 oc3 kV3 dc3 pm3 cd3 ct3 oc4 kV4 dc4 pm4 cd4 ct4 oc5 kV5 dc5 pm5 cd5 ct5 oc6 kV6 dc6 pm6 cd6 ct6 oc7 kV7 dc7 pm7 cd7 ct7 oc8 kV8 dc8 pm8 cd8 ct8 oc9 kV9 dc9 pm9 cd9 ct9 oc10 kV10 dc10 pm10 cd10 ct10 oc11 kV11 dc11 pm11 cd11 ct11 oc12 kV12 dc12 pm12 cd12 ct12 oc13 kV13 dc13 pm13 cd13 ct13 oc14 kV14 dc14 pm14 cd14 ct14 oc15 kV15 dc15 pm15 cd15 ct15 oc16 kV16 dc16 pm16 cd16 ct16 oc17 kV17 dc17 pm17 cd17 ct17 oc18 kV18 dc18 pm18 cd18 ct18 oc19 kV19 dc19 pm19 cd19 ct19 oc20 kV20 dc20 pm20 cd20 ct20 oc21 kV21 dc21 pm21 cd21 ct21 : Value}
    (aN : PySem.W.nsIn K mainGlobals "InvalidNumber" = some (some (.ref CN)))
    (xN : K.lookup CN = some (excClassObj nm q CN N bs bmm true sn sub ab col dd m0 m1 m2 m3 m5 "IndexError.__new__"))
    (xM : PySem.W.excTail ixB bmm = true)
    (saN : PySem.W.findIn K (.ref CN) "__setattr__" = some (some (.builtin "object.__setattr__")))
    (gaN : PySem.W.findIn K (.ref CN) "__getattribute__" = some (some (.builtin "BaseException.__getattribute__")))
    (ggN : PySem.W.findIn K (.ref CN) "__getattr__" = some none)
    (ngN : PySem.W.findIn K (.ref CN) "given" = some none)
    (iN : PySem.W.findIn K (.ref CN) "__init__" = some (some (.ref fI)))
    (tI : PySem.W.typeIn K (.ref fI) = some (.type "function"))
    (lI : K.lookup fI = some ⟨ocI, odI, .func (PySem.W.fnOf "__init__" "InvalidNumber.__init__" (defArgs sInvalidnumberInit) (defBody sInvalidnumberInit) (defScope sInvalidnumberInit) .none kVI dcI pmI anI cdI ctI), slI⟩)
    (cI : PySem.W.codeIn K cdI "InvalidNumber.__init__" = true)
    (kI : PySem.W.keepIn K (.ref fI) = true)
    (kN : PySem.W.keepIn K (.ref CN) = true)
    (eN : PySem.W.subIn K (.ref CN) (.type "BaseException") = some true)
    (tN : PySem.W.typeIn K (.ref CN) = some (.type "type"))
    (hN : PySem.W.hasDictIn K CN = true)
    (sN : PySem.W.subIn K (.ref CN) (.type "StopIteration") = some false)
    (aT : PySem.W.nsIn K mainGlobals "InvalidText" = some (some (.ref CT)))
    (xT : PySem.W.excIn K CT [.type "ValueError", .type "Exception", .type "BaseException", .type "object"] "ValueError.__new__" = true)
    (kT : PySem.W.keepIn K (.ref CT) = true)
    (eT : PySem.W.subIn K (.ref CT) (.type "BaseException") = some true)
    (tT : PySem.W.typeIn K (.ref CT) = some (.type "type"))
    (aO : PySem.W.nsIn K mainGlobals "InvalidOperation" = some (some (.ref CO)))
    (xO : PySem.W.excIn K CO [.type "ValueError", .type "Exception", .type "BaseException", .type "object"] "ValueError.__new__" = true)
    (kO : PySem.W.keepIn K (.ref CO) = true)
    (eO : PySem.W.subIn K (.ref CO) (.type "BaseException") = some true)
    (tO : PySem.W.typeIn K (.ref CO) = some (.type "type"))
    (qN : PySem.W.isClsIn K CN = true)
    (qT : PySem.W.isClsIn K CT = true)
    (qO : PySem.W.isClsIn K CO = true)
    (sNN : PySem.W.subIn K (.ref CN) (.ref CN) = some true)
    (sTN : PySem.W.subIn K (.ref CT) (.ref CN) = some false)
    (sTT : PySem.W.subIn K (.ref CT) (.ref CT) = some true)
    (sON : PySem.W.subIn K (.ref CO) (.ref CN) = some false)
    (sOT : PySem.W.subIn K (.ref CO) (.ref CT) = some false)
    (sOO : PySem.W.subIn K (.ref CO) (.ref CO) = some true)
    (aW : PySem.W.nsIn K mainGlobals "MAX_WIDTH" = some (some (.int 200 tW)))
    (a0 : PySem.W.nsIn K mainGlobals "is_number" = some (some (.ref f0)))
    (l0 : K.lookup f0 = some ⟨oc0, od0, .func (PySem.W.fnOf "is_number" "is_number" (defArgs sIsNumber) (defBody sIsNumber) (defScope sIsNumber) .none kV0 dc0 pm0 an0 cd0 ct0), sl0⟩)
    (c0 : PySem.W.codeIn K cd0 "is_number" = true)
    (k0 : PySem.W.keepIn K (.ref f0) = true)
    (a1 : PySem.W.nsIn K mainGlobals "check_number" = some (some (.ref f1)))
    (l1 : K.lookup f1 = some ⟨oc1, od1, .func (PySem.W.fnOf "check_number" "check_number" (defArgs sCheckNumber) (defBody sCheckNumber) (defScope sCheckNumber) .none kV1 dc1 pm1 an1 cd1 ct1), sl1⟩)
    (c1 : PySem.W.codeIn K cd1 "check_number" = true)
    (k1 : PySem.W.keepIn K (.ref f1) = true)
    (a2 : PySem.W.nsIn K mainGlobals "_check_letters" = some (some (.ref f2)))
    (l2 : K.lookup f2 = some ⟨oc2, od2, .func (PySem.W.fnOf "_check_letters" "_check_letters" (defArgs sCheckLetters) (defBody sCheckLetters) (defScope sCheckLetters) .none kV2 dc2 pm2 an2 cd2 ct2), sl2⟩)
    (c2 : PySem.W.codeIn K cd2 "_check_letters" = true)
    (k2 : PySem.W.keepIn K (.ref f2) = true)
    (a3 : PySem.W.nsIn K mainGlobals "is_text" = some (some (.ref f3)))
    (l3 : K.lookup f3 = some ⟨oc3, od3, .func (PySem.W.fnOf "is_text" "is_text" (defArgs sIsText) (defBody sIsText) (defScope sIsText) .none kV3 dc3 pm3 an3 cd3 ct3), sl3⟩)
    (c3 : PySem.W.codeIn K cd3 "is_text" = true)
    (k3 : PySem.W.keepIn K (.ref f3) = true)
    (a4 : PySem.W.nsIn K mainGlobals "check_text" = some (some (.ref f4)))
    (l4 : K.lookup f4 = some ⟨oc4, od4, .func (PySem.W.fnOf "check_text" "check_text" (defArgs sCheckText) (defBody sCheckText) (defScope sCheckText) .none kV4 dc4 pm4 an4 cd4 ct4), sl4⟩)
    (c4 : PySem.W.codeIn K cd4 "check_text" = true)
    (k4 : PySem.W.keepIn K (.ref f4) = true)
    (a5 : PySem.W.nsIn K mainGlobals "check_width" = some (some (.ref f5)))
    (l5 : K.lookup f5 = some ⟨oc5, od5, .func (PySem.W.fnOf "check_width" "check_width" (defArgs sCheckWidth) (defBody sCheckWidth) (defScope sCheckWidth) .none kV5 dc5 pm5 an5 cd5 ct5), sl5⟩)
    (c5 : PySem.W.codeIn K cd5 "check_width" = true)
    (k5 : PySem.W.keepIn K (.ref f5) = true)
    (a6 : PySem.W.nsIn K mainGlobals "texts_of" = some (some (.ref f6)))
    (l6 : K.lookup f6 = some ⟨oc6, od6, .func (PySem.W.fnOf "texts_of" "texts_of" (defArgs sTextsOf) (defBody sTextsOf) (defScope sTextsOf) .none kV6 dc6 pm6 an6 cd6 ct6), sl6⟩)
    (c6 : PySem.W.codeIn K cd6 "texts_of" = true)
    (k6 : PySem.W.keepIn K (.ref f6) = true)
    (a7 : PySem.W.nsIn K mainGlobals "comes_ahead" = some (some (.ref f7)))
    (l7 : K.lookup f7 = some ⟨oc7, od7, .func (PySem.W.fnOf "comes_ahead" "comes_ahead" (defArgs sComesAhead) (defBody sComesAhead) (defScope sComesAhead) .none kV7 dc7 pm7 an7 cd7 ct7), sl7⟩)
    (c7 : PySem.W.codeIn K cd7 "comes_ahead" = true)
    (k7 : PySem.W.keepIn K (.ref f7) = true)
    (a8 : PySem.W.nsIn K mainGlobals "line_of" = some (some (.ref f8)))
    (l8 : K.lookup f8 = some ⟨oc8, od8, .func (PySem.W.fnOf "line_of" "line_of" (defArgs sLineOf) (defBody sLineOf) (defScope sLineOf) .none kV8 dc8 pm8 an8 cd8 ct8), sl8⟩)
    (c8 : PySem.W.codeIn K cd8 "line_of" = true)
    (k8 : PySem.W.keepIn K (.ref f8) = true)
    (a9 : PySem.W.nsIn K mainGlobals "text_of_lines" = some (some (.ref f9)))
    (l9 : K.lookup f9 = some ⟨oc9, od9, .func (PySem.W.fnOf "text_of_lines" "text_of_lines" (defArgs sTextOfLines) (defBody sTextOfLines) (defScope sTextOfLines) .none kV9 dc9 pm9 an9 cd9 ct9), sl9⟩)
    (c9 : PySem.W.codeIn K cd9 "text_of_lines" = true)
    (k9 : PySem.W.keepIn K (.ref f9) = true)
    (a10 : PySem.W.nsIn K mainGlobals "_law_draw" = some (some (.ref f10)))
    (l10 : K.lookup f10 = some ⟨oc10, od10, .func (PySem.W.fnOf "_law_draw" "_law_draw" (defArgs sLdraw) (defBody sLdraw) (defScope sLdraw) .none kV10 dc10 pm10 an10 cd10 ct10), sl10⟩)
    (c10 : PySem.W.codeIn K cd10 "_law_draw" = true)
    (k10 : PySem.W.keepIn K (.ref f10) = true)
    (a11 : PySem.W.nsIn K mainGlobals "_law_one_of" = some (some (.ref f11)))
    (l11 : K.lookup f11 = some ⟨oc11, od11, .func (PySem.W.fnOf "_law_one_of" "_law_one_of" (defArgs sLoneOf) (defBody sLoneOf) (defScope sLoneOf) .none kV11 dc11 pm11 an11 cd11 ct11), sl11⟩)
    (c11 : PySem.W.codeIn K cd11 "_law_one_of" = true)
    (k11 : PySem.W.keepIn K (.ref f11) = true)
    (a12 : PySem.W.nsIn K mainGlobals "_law_text" = some (some (.ref f12)))
    (l12 : K.lookup f12 = some ⟨oc12, od12, .func (PySem.W.fnOf "_law_text" "_law_text" (defArgs sLtext) (defBody sLtext) (defScope sLtext) .none kV12 dc12 pm12 an12 cd12 ct12), sl12⟩)
    (c12 : PySem.W.codeIn K cd12 "_law_text" = true)
    (k12 : PySem.W.keepIn K (.ref f12) = true)
    (a13 : PySem.W.nsIn K mainGlobals "_law_call" = some (some (.ref f13)))
    (l13 : K.lookup f13 = some ⟨oc13, od13, .func (PySem.W.fnOf "_law_call" "_law_call" (defArgs sLcall) (defBody sLcall) (defScope sLcall) .none kV13 dc13 pm13 an13 cd13 ct13), sl13⟩)
    (c13 : PySem.W.codeIn K cd13 "_law_call" = true)
    (k13 : PySem.W.keepIn K (.ref f13) = true)
    (a14 : PySem.W.nsIn K mainGlobals "_law_asked" = some (some (.ref f14)))
    (l14 : K.lookup f14 = some ⟨oc14, od14, .func (PySem.W.fnOf "_law_asked" "_law_asked" (defArgs sLasked) (defBody sLasked) (defScope sLasked) .none kV14 dc14 pm14 an14 cd14 ct14), sl14⟩)
    (c14 : PySem.W.codeIn K cd14 "_law_asked" = true)
    (k14 : PySem.W.keepIn K (.ref f14) = true)
    (a15 : PySem.W.nsIn K mainGlobals "_law_no_number" = some (some (.ref f15)))
    (l15 : K.lookup f15 = some ⟨oc15, od15, .func (PySem.W.fnOf "_law_no_number" "_law_no_number" (defArgs sLnoNumber) (defBody sLnoNumber) (defScope sLnoNumber) .none kV15 dc15 pm15 an15 cd15 ct15), sl15⟩)
    (c15 : PySem.W.codeIn K cd15 "_law_no_number" = true)
    (k15 : PySem.W.keepIn K (.ref f15) = true)
    (a16 : PySem.W.nsIn K mainGlobals "_law_no_text" = some (some (.ref f16)))
    (l16 : K.lookup f16 = some ⟨oc16, od16, .func (PySem.W.fnOf "_law_no_text" "_law_no_text" (defArgs sLnoText) (defBody sLnoText) (defScope sLnoText) .none kV16 dc16 pm16 an16 cd16 ct16), sl16⟩)
    (c16 : PySem.W.codeIn K cd16 "_law_no_text" = true)
    (k16 : PySem.W.keepIn K (.ref f16) = true)
    (a17 : PySem.W.nsIn K mainGlobals "_law_lines_asked" = some (some (.ref f17)))
    (l17 : K.lookup f17 = some ⟨oc17, od17, .func (PySem.W.fnOf "_law_lines_asked" "_law_lines_asked" (defArgs sLlinesAsked) (defBody sLlinesAsked) (defScope sLlinesAsked) .none kV17 dc17 pm17 an17 cd17 ct17), sl17⟩)
    (c17 : PySem.W.codeIn K cd17 "_law_lines_asked" = true)
    (k17 : PySem.W.keepIn K (.ref f17) = true)
    (a18 : PySem.W.nsIn K mainGlobals "_law_bag" = some (some (.ref f18)))
    (l18 : K.lookup f18 = some ⟨oc18, od18, .func (PySem.W.fnOf "_law_bag" "_law_bag" (defArgs sLbag) (defBody sLbag) (defScope sLbag) .none kV18 dc18 pm18 an18 cd18 ct18), sl18⟩)
    (c18 : PySem.W.codeIn K cd18 "_law_bag" = true)
    (k18 : PySem.W.keepIn K (.ref f18) = true)
    (a19 : PySem.W.nsIn K mainGlobals "_law_are_numbers" = some (some (.ref f19)))
    (l19 : K.lookup f19 = some ⟨oc19, od19, .func (PySem.W.fnOf "_law_are_numbers" "_law_are_numbers" (defArgs sLareNumbers) (defBody sLareNumbers) (defScope sLareNumbers) .none kV19 dc19 pm19 an19 cd19 ct19), sl19⟩)
    (c19 : PySem.W.codeIn K cd19 "_law_are_numbers" = true)
    (k19 : PySem.W.keepIn K (.ref f19) = true)
    (a20 : PySem.W.nsIn K mainGlobals "_law_are_values" = some (some (.ref f20)))
    (l20 : K.lookup f20 = some ⟨oc20, od20, .func (PySem.W.fnOf "_law_are_values" "_law_are_values" (defArgs sLareValues) (defBody sLareValues) (defScope sLareValues) .none kV20 dc20 pm20 an20 cd20 ct20), sl20⟩)
    (c20 : PySem.W.codeIn K cd20 "_law_are_values" = true)
    (k20 : PySem.W.keepIn K (.ref f20) = true)
    (a21 : PySem.W.nsIn K mainGlobals "law" = some (some (.ref f21)))
    (l21 : K.lookup f21 = some ⟨oc21, od21, .func (PySem.W.fnOf "law" "law" (defArgs sLaw) (defBody sLaw) (defScope sLaw) .none kV21 dc21 pm21 an21 cd21 ct21), sl21⟩)
    (c21 : PySem.W.codeIn K cd21 "law" = true)
    (k21 : PySem.W.keepIn K (.ref f21) = true)
    (z0 : PySem.W.nsIn K mainGlobals "isinstance" = some none)
    (z1 : PySem.W.nsIn K mainGlobals "int" = some none)
    (z2 : PySem.W.nsIn K mainGlobals "bool" = some none)
    (z3 : PySem.W.nsIn K mainGlobals "str" = some none)
    (z4 : PySem.W.nsIn K mainGlobals "len" = some none)
    (z5 : PySem.W.nsIn K mainGlobals "list" = some none)
    (z6 : PySem.W.nsIn K mainGlobals "range" = some none)
    (z7 : PySem.W.nsIn K mainGlobals "sum" = some none)
    (z8 : PySem.W.nsIn K mainGlobals "abs" = some none)
    (z9 : PySem.W.nsIn K mainGlobals "max" = some none)
    (z10 : PySem.W.nsIn K mainGlobals "min" = some none)
    (z11 : PySem.W.nsIn K mainGlobals "repr" = some none)
    (z12 : PySem.W.nsIn K mainGlobals "zip" = some none)
    : ∃ fd : FuncData, (∀ (s : Shared) (v : Value), BindsTo s fd ⟨[v], []⟩ [("_law_script", v)]) ∧ ∀ base : Heap, K.In base → base.Ns mainGlobals mg → FnG P w K mg base CX0 12 fa fd ["_law_script"] (spLaw K) := by
  have e := hfa.symm.trans (PySem.W.mg_of X G a21)
  cases e
  have F0 := fun_mk (st := sIsNumber) l0 c0 k0
  have D0 : Dn K mg "is_number" sIsNumber ["value", "low", "high"] f0 _ := ⟨F0, PySem.W.mg_of X G a0, F0.binds (ps := ["value", "low", "high"]) fun _ _ _ _ _ _ us hl => match us, hl with | [_, _, _], _ => rfl⟩
  have F1 := fun_mk (st := sCheckNumber) l1 c1 k1
  have D1 : Dn K mg "check_number" sCheckNumber ["given", "low", "high"] f1 _ := ⟨F1, PySem.W.mg_of X G a1, F1.binds (ps := ["given", "low", "high"]) fun _ _ _ _ _ _ us hl => match us, hl with | [_, _, _], _ => rfl⟩
  have F2 := fun_mk (st := sCheckLetters) l2 c2 k2
  have D2 : Dn K mg "_check_letters" sCheckLetters ["letters"] f2 _ := ⟨F2, PySem.W.mg_of X G a2, F2.binds (ps := ["letters"]) fun _ _ _ _ _ _ us hl => match us, hl with | [_], _ => rfl⟩
  have F3 := fun_mk (st := sIsText) l3 c3 k3
  have D3 : Dn K mg "is_text" sIsText ["value", "letters"] f3 _ := ⟨F3, PySem.W.mg_of X G a3, F3.binds (ps := ["value", "letters"]) fun _ _ _ _ _ _ us hl => match us, hl with | [_, _], _ => rfl⟩
  have F4 := fun_mk (st := sCheckText) l4 c4 k4
  have D4 : Dn K mg "check_text" sCheckText ["text", "lines"] f4 _ := ⟨F4, PySem.W.mg_of X G a4, F4.binds (ps := ["text", "lines"]) fun _ _ _ _ _ _ us hl => match us, hl with | [_, _], _ => rfl⟩
  have F5 := fun_mk (st := sCheckWidth) l5 c5 k5
  have D5 : Dn K mg "check_width" sCheckWidth ["width"] f5 _ := ⟨F5, PySem.W.mg_of X G a5, F5.binds (ps := ["width"]) fun _ _ _ _ _ _ us hl => match us, hl with | [_], _ => rfl⟩
  have F6 := fun_mk (st := sTextsOf) l6 c6 k6
  have D6 : Dn K mg "texts_of" sTextsOf ["letters", "width"] f6 _ := ⟨F6, PySem.W.mg_of X G a6, F6.binds (ps := ["letters", "width"]) fun _ _ _ _ _ _ us hl => match us, hl with | [_, _], _ => rfl⟩
  have F7 := fun_mk (st := sComesAhead) l7 c7 k7
  have D7 : Dn K mg "comes_ahead" sComesAhead ["one", "other"] f7 _ := ⟨F7, PySem.W.mg_of X G a7, F7.binds (ps := ["one", "other"]) fun _ _ _ _ _ _ us hl => match us, hl with | [_, _], _ => rfl⟩
  have F8 := fun_mk (st := sLineOf) l8 c8 k8
  have D8 : Dn K mg "line_of" sLineOf ["text", "line"] f8 _ := ⟨F8, PySem.W.mg_of X G a8, F8.binds (ps := ["text", "line"]) fun _ _ _ _ _ _ us hl => match us, hl with | [_, _], _ => rfl⟩
  have F9 := fun_mk (st := sTextOfLines) l9 c9 k9
  have F10 := fun_mk (st := sLdraw) l10 c10 k10
  have D10 : Dn K mg "_law_draw" sLdraw ["_law_bag_here", "_law_total"] f10 _ := ⟨F10, PySem.W.mg_of X G a10, F10.binds (ps := ["_law_bag_here", "_law_total"]) fun _ _ _ _ _ _ us hl => match us, hl with | [_, _], _ => rfl⟩
  have F11 := fun_mk (st := sLoneOf) l11 c11 k11
  have D11 : Dn K mg "_law_one_of" sLoneOf ["_law_bag_here", "_law_items"] f11 _ := ⟨F11, PySem.W.mg_of X G a11, F11.binds (ps := ["_law_bag_here", "_law_items"]) fun _ _ _ _ _ _ us hl => match us, hl with | [_, _], _ => rfl⟩
  have F12 := fun_mk (st := sLtext) l12 c12 k12
  have D12 : Dn K mg "_law_text" sLtext ["_law_bag_here", "_law_letters", "_law_width"] f12 _ := ⟨F12, PySem.W.mg_of X G a12, F12.binds (ps := ["_law_bag_here", "_law_letters", "_law_width"]) fun _ _ _ _ _ _ us hl => match us, hl with | [_, _, _], _ => rfl⟩
  have F13 := fun_mk (st := sLcall) l13 c13 k13
  have D13 : Dn K mg "_law_call" sLcall ["_law_which", "_law_one", "_law_other"] f13 _ := ⟨F13, PySem.W.mg_of X G a13, F13.binds (ps := ["_law_which", "_law_one", "_law_other"]) fun _ _ _ _ _ _ us hl => match us, hl with | [_, _, _], _ => rfl⟩
  have F14 := fun_mk (st := sLasked) l14 c14 k14
  have D14 : Dn K mg "_law_asked" sLasked ["_law_which", "_law_one", "_law_other"] f14 _ := ⟨F14, PySem.W.mg_of X G a14, F14.binds (ps := ["_law_which", "_law_one", "_law_other"]) fun _ _ _ _ _ _ us hl => match us, hl with | [_, _, _], _ => rfl⟩
  have F15 := fun_mk (st := sLnoNumber) l15 c15 k15
  have D15 : Dn K mg "_law_no_number" sLnoNumber ["_law_bag_here"] f15 _ := ⟨F15, PySem.W.mg_of X G a15, F15.binds (ps := ["_law_bag_here"]) fun _ _ _ _ _ _ us hl => match us, hl with | [_], _ => rfl⟩
  have F16 := fun_mk (st := sLnoText) l16 c16 k16
  have D16 : Dn K mg "_law_no_text" sLnoText ["_law_bag_here", "_law_letters"] f16 _ := ⟨F16, PySem.W.mg_of X G a16, F16.binds (ps := ["_law_bag_here", "_law_letters"]) fun _ _ _ _ _ _ us hl => match us, hl with | [_, _], _ => rfl⟩
  have F17 := fun_mk (st := sLlinesAsked) l17 c17 k17
  have D17 : Dn K mg "_law_lines_asked" sLlinesAsked ["_law_lines"] f17 _ := ⟨F17, PySem.W.mg_of X G a17, F17.binds (ps := ["_law_lines"]) fun _ _ _ _ _ _ us hl => match us, hl with | [_], _ => rfl⟩
  have F18 := fun_mk (st := sLbag) l18 c18 k18
  have D18 : Dn K mg "_law_bag" sLbag ["_law_script", "_law_at"] f18 _ := ⟨F18, PySem.W.mg_of X G a18, F18.binds (ps := ["_law_script", "_law_at"]) fun _ _ _ _ _ _ us hl => match us, hl with | [_, _], _ => rfl⟩
  have F19 := fun_mk (st := sLareNumbers) l19 c19 k19
  have D19 : Dn K mg "_law_are_numbers" sLareNumbers ["_law_bag_here"] f19 _ := ⟨F19, PySem.W.mg_of X G a19, F19.binds (ps := ["_law_bag_here"]) fun _ _ _ _ _ _ us hl => match us, hl with | [_], _ => rfl⟩
  have F20 := fun_mk (st := sLareValues) l20 c20 k20
  have D20 : Dn K mg "_law_are_values" sLareValues ["_law_bag_here"] f20 _ := ⟨F20, PySem.W.mg_of X G a20, F20.binds (ps := ["_law_bag_here"]) fun _ _ _ _ _ _ us hl => match us, hl with | [_], _ => rfl⟩
  have F21 := fun_mk (st := sLaw) l21 c21 k21
  have D21 : Dn K mg "law" sLaw ["_law_script"] _ _ := ⟨F21, PySem.W.mg_of X G a21, F21.binds (ps := ["_law_script"]) fun _ _ _ _ _ _ us hl => match us, hl with | [_], _ => rfl⟩
  have FI := fun_mk (st := sInvalidnumberInit) lI cI kI
  have IN : INum K mg CN fI _ := { T := { made := ⟨_, _, _, _, _, _, _, _, _, _, _, _, _, _, _, xN, xM⟩, fc := PySem.F.excBase_IndexError, fs := PySem.F.store_IndexError, sa := saN, eb := eN, ty := tN, kp := kN, hd := hN }, g := PySem.W.mg_of X G aN, i := iN, t := tI, n := ngN, b := FI.binds (ps := ["self", "given"]) fun _ _ _ _ _ _ us hl => match us, hl with | [_, _], _ => rfl }
  have R : Er K mg CN CT fI _ := ⟨FI, IN, ⟨PySem.W.mg_of X G aT, xT, kT, eT, tT⟩⟩
  have OO : OwnE K mg "InvalidOperation" CO := ⟨PySem.W.mg_of X G aO, xO, kO, eO, tO⟩
  have EK : Ek K CN CT CO := ⟨⟨gaN, ggN, eN, hN⟩, exm_of eN qN tN sNN, exm_of eN qN tN sTN, exm_of eT qT tT sTT, exm_of eN qN tN sON, exm_of eT qT tT sOT, exm_of eO qO tO sOO, sN⟩
  have T : Bx mg := ⟨PySem.W.mg_none_of X G z0, PySem.W.mg_none_of X G z1, PySem.W.mg_none_of X G z2, PySem.W.mg_none_of X G z3, PySem.W.mg_none_of X G z4, PySem.W.mg_none_of X G z5, PySem.W.mg_none_of X G z6, PySem.W.mg_none_of X G z7, PySem.W.mg_none_of X G z8, PySem.W.mg_none_of X G z9, PySem.W.mg_none_of X G z10, PySem.W.mg_none_of X G z11, PySem.W.mg_none_of X G z12⟩
  have S : Ds K mg f0 f1 f2 f3 f4 f5 _ _ _ _ _ _ := ⟨D0, D1, D2, D3, D4, D5, ⟨tW, PySem.W.mg_of X G aW⟩⟩
  have S2 : Dt K mg f6 f7 f8 f9 _ _ _ _ := ⟨D6, D7, D8, F9, PySem.W.mg_of X G a9⟩
  have L : Dl K mg f10 f11 f12 f13 f14 f15 f16 _ _ _ _ _ _ _ := ⟨D10, D11, D12, D13, D14, D15, D16⟩
  exact ⟨PySem.W.fnOf "law" "law" (defArgs sLaw) (defBody sLaw) (defScope sLaw) .none kV21 dc21 pm21 an21 cd21 ct21, fun s v => .of_eq rfl, fun base _ _ => okLaw D21 D18 D19 D20 D17 L S S2 T R OO EK⟩
end K03

open PySem PySem.W PyProof.Rows
set_option maxRecDepth 100000 in
set_option maxHeartbeats 0 in
theorem PySem.Challenge.cw_mayrows_k03_errors_of_texts_holds : PySem.Challenge.rw_mayrows_k03_errors_of_texts.Holds := by
  w_on; o_law; k_head; (case hw => w_witness2)
  k_fill
  refine Ks.walk_ofG (l := PySem.Challenge.rw_mayrows_k03_errors_of_texts) (n := 63) (k := 12) (x := "_law_script") (CX := fun _ => L2.CX0) (sp := fun w => K03.spLaw _) rfl (by decide) rfl ⟨rfl, by decide, by decide⟩ (fun w h Y => PySem.W.kIn_of Y) ?F (fun _ _ a ns hl _ hS => ⟨a, ns, rfl, hS, fun _ => rfl⟩) (fun _ _ _ _ _ h => h)
  case F =>
    intro w mg fa h KX G hmg
    refine' K03.all_mk KX G hmg ?aN ?xN ?xM ?saN ?gaN ?ggN ?ngN ?iN ?tI ?lI ?cI ?kI ?kN ?eN ?tN ?hN ?sN ?aT ?xT ?kT ?eT ?tT ?aO ?xO ?kO ?eO ?tO ?qN ?qT ?qO ?sNN ?sTN ?sTT ?sON ?sOT ?sOO ?aW ?a0 ?l0 ?c0 ?k0 ?a1 ?l1 ?c1 ?k1 ?a2 ?l2 ?c2 ?k2 ?a3 ?l3 ?c3 ?k3 ?a4 ?l4 ?c4 ?k4 ?a5 ?l5 ?c5 ?k5 ?a6 ?l6 ?c6 ?k6 ?a7 ?l7 ?c7 ?k7 ?a8 ?l8 ?c8 ?k8 ?a9 ?l9 ?c9 ?k9 ?a10 ?l10 ?c10 ?k10 ?a11 ?l11 ?c11 ?k11 ?a12 ?l12 ?c12 ?k12 ?a13 ?l13 ?c13 ?k13 ?a14 ?l14 ?c14 ?k14 ?a15 ?l15 ?c15 ?k15 ?a16 ?l16 ?c16 ?k16 ?a17 ?l17 ?c17 ?k17 ?a18 ?l18 ?c18 ?k18 ?a19 ?l19 ?c19 ?k19 ?a20 ?l20 ?c20 ?k20 ?a21 ?l21 ?c21 ?k21 ?z0 ?z1 ?z2 ?z3 ?z4 ?z5 ?z6 ?z7 ?z8 ?z9 ?z10 ?z11 ?z12
    (case aN => k_is)
    (case xN => k_is)
    (case xM => decide +kernel)
    (case saN => k_is)
    (case gaN => k_is)
    (case ggN => k_is)
    (case ngN => k_is)
    (case iN => k_is)
    (case tI => k_is)
    (case lI => k_is)
    (case cI => k_is)
    (case kI => k_is)
    (case kN => k_is)
    (case eN => k_is)
    (case tN => k_is)
    (case hN => k_is)
    (case sN => k_is)
    (case aT => k_is)
    (case xT => k_exc)
    (case kT => k_is)
    (case eT => k_is)
    (case tT => k_is)
    (case aO => k_is)
    (case xO => k_exc)
    (case kO => k_is)
    (case eO => k_is)
    (case tO => k_is)
    (case qN => k_is)
    (case qT => k_is)
    (case qO => k_is)
    (case sNN => k_is)
    (case sTN => k_is)
    (case sTT => k_is)
    (case sON => k_is)
    (case sOT => k_is)
    (case sOO => k_is)
    (case aW => k_is)
    (case a0 => k_is)
    (case l0 => k_is)
    (case c0 => k_is)
    (case k0 => k_is)
    (case a1 => k_is)
    (case l1 => k_is)
    (case c1 => k_is)
    (case k1 => k_is)
    (case a2 => k_is)
    (case l2 => k_is)
    (case c2 => k_is)
    (case k2 => k_is)
    (case a3 => k_is)
    (case l3 => k_is)
    (case c3 => k_is)
    (case k3 => k_is)
    (case a4 => k_is)
    (case l4 => k_is)
    (case c4 => k_is)
    (case k4 => k_is)
    (case a5 => k_is)
    (case l5 => k_is)
    (case c5 => k_is)
    (case k5 => k_is)
    (case a6 => k_is)
    (case l6 => k_is)
    (case c6 => k_is)
    (case k6 => k_is)
    (case a7 => k_is)
    (case l7 => k_is)
    (case c7 => k_is)
    (case k7 => k_is)
    (case a8 => k_is)
    (case l8 => k_is)
    (case c8 => k_is)
    (case k8 => k_is)
    (case a9 => k_is)
    (case l9 => k_is)
    (case c9 => k_is)
    (case k9 => k_is)
    (case a10 => k_is)
    (case l10 => k_is)
    (case c10 => k_is)
    (case k10 => k_is)
    (case a11 => k_is)
    (case l11 => k_is)
    (case c11 => k_is)
    (case k11 => k_is)
    (case a12 => k_is)
    (case l12 => k_is)
    (case c12 => k_is)
    (case k12 => k_is)
    (case a13 => k_is)
    (case l13 => k_is)
    (case c13 => k_is)
    (case k13 => k_is)
    (case a14 => k_is)
    (case l14 => k_is)
    (case c14 => k_is)
    (case k14 => k_is)
    (case a15 => k_is)
    (case l15 => k_is)
    (case c15 => k_is)
    (case k15 => k_is)
    (case a16 => k_is)
    (case l16 => k_is)
    (case c16 => k_is)
    (case k16 => k_is)
    (case a17 => k_is)
    (case l17 => k_is)
    (case c17 => k_is)
    (case k17 => k_is)
    (case a18 => k_is)
    (case l18 => k_is)
    (case c18 => k_is)
    (case k18 => k_is)
    (case a19 => k_is)
    (case l19 => k_is)
    (case c19 => k_is)
    (case k19 => k_is)
    (case a20 => k_is)
    (case l20 => k_is)
    (case c20 => k_is)
    (case k20 => k_is)
    (case a21 => k_is)
    (case l21 => k_is)
    (case c21 => k_is)
    (case k21 => k_is)
    (case z0 => k_is)
    (case z1 => k_is)
    (case z2 => k_is)
    (case z3 => k_is)
    (case z4 => k_is)
    (case z5 => k_is)
    (case z6 => k_is)
    (case z7 => k_is)
    (case z8 => k_is)
    (case z9 => k_is)
    (case z10 => k_is)
    (case z11 => k_is)
    (case z12 => k_is)
