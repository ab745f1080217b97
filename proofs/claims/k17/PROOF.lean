import PyProof.Rows.All
import Wide.All
import OpenK.AllK
import Wide.FinOn
import HandS.ForMost
import HandS.ForExc
import HandS.ExcInit
import HandS.ExcField
import KE.KExcInit
import HandS.Walk
import KE.GoesMore
import HandS.ExcIs
import HandS.SetFor
import HandS.IsInst
import PyProof.StrLawsRepr
import HandS.Words
import HandS.ReplaceLit
import HandS.ReplaceList
import PyProof.StrBlock2
import HandS.Steps
import HandS.Style
import HandS.Flow
import PySem.Challenge.RW_loomhold_k17_scripts_of_any_value
set_option Elab.async false
set_option linter.all false
set_option maxRecDepth 100000
set_option maxHeartbeats 4000000
/-! own exceptions over Exception (with own classes between), with one field stored by __init__ -/
namespace PySem
namespace Lw
open PySem.W PySem.Calls PyProof.Rows PySem.HandSPX Builtin Builtin.ObjectAttr
abbrev exTail : List Value := [.type "Exception", .type "BaseException", .type "object"]
section
variable {prog : Program} {w : World} {A : Around} {R : Result → Shared → Prop}
/-- the first store into such an exception: its dict is made -/
theorem store_first {K : Frag} {hp : Heap} {g : Array GenState} {dr : Drawn} {t : Nat} {os : OsState} {fld : Str} {tk : Tok} {v : Value} {x C : Addr} {t0 : Addr}
    (X : K.In hp) (ho : excOver K C exTail = true) (hh : hasDictIn K C = true) (ht : takerIn K C fld = some none)
    (hx : hp.get? x = some (excO C t0))
    (hq : ∀ h' tk' dx, (∀ b o, b ≠ x → hp.get? b = some o → h'.get? b = some o) → hp.objs.size ≤ dx → dx ≠ x →
      h'.get? x = some { cls := .ref C, dict := some dx, data := .fields #[.ref t0, .none, .none, .none, .bool false, .none] } →
      h'.Ns1 dx (fun y => if y = fld then some v else none) → R (.ok (.ret .none)) ⟨h', g, dr, tk', os⟩) :
    codeAny (model prog w) A (.call (.builtin "object.__setattr__") ⟨[.ref x, .str fld tk, v], []⟩) R ⟨hp, g, dr, t, os⟩ := by
  have hxs : x ≠ hp.objs.size := Nat.ne_of_lt (Heap.lt_size hx)
  refine osa_openX (s := ⟨hp, g, dr, t, os⟩) (od := none) PySem.F.store_Exception X ⟨hx, rfl, rfl, trivial⟩ ho ht fun b => ?_
  obtain ⟨cd, hc, hd'⟩ := any_some hh
  refine wpAny_bind (wpAny_pure (wpAny_bind (instanceDict_exc hx (looks_clsIn X hc) hd' ?_)))
  show wpAny _ _ (storeInDict hp.objs.size (.str fld tk) fld v) _ _ _
  refine store_in_new ?_ ?_
  · exact ⟨_, #[], _, (Heap.get?_update_ne _ _ _ _ hxs.symm).trans (Heap.get?_push_at rfl rfl), rfl, fun e he => absurd he (by simp), fun _ => rfl⟩
  · intro h' tk' hn' hs
    have hx1 : (hp.push (dictOf [] 0)).get? x = some (excO C t0) := Heap.get?_push_of_some _ hx
    refine hq h' tk' hp.objs.size (fun b o hb hob => ?_) (Nat.le_refl _) hxs.symm ?_ hn'
    · exact (hs.2 b (Nat.ne_of_lt (Heap.lt_size hob))).trans ((Heap.get?_update_ne _ _ _ _ hb).trans (Heap.get?_push_of_some _ hob))
    · exact (hs.2 x hxs).trans (Heap.get?_update_self _ hx1 rfl)
end

theorem one_size (v : Value) : [v].length ≤ sizeLine := by
  rw [sizeLine_eq]
  exact (by decide : 1 ≤ 16777216)
theorem ldC {M : Model} {A : Around} {E : Value → Shared → Prop} {s : Shared} {name : Str} {scope : Scope} {L a : Addr} {cd : Value} {m : Str → Option Value} {x : Str} {pos : Pos} {v : Value} {Q : Value → Shared → Prop} (hn : s.heap.Ns L m) (hv : m x = some v) (h : Q v s)
    (hk : scope.kind = .function := by rfl) (hl : (envOfC name scope L a cd).kindOf x = some .local := by rfl) (hd : (x == ("__debug__" : Str)) = false := by decide) :
    wpAny M A (eval (.Name x pos) (envOfC name scope L a cd)) Q E s := wpAny_Name (wpAny_loadName_local hk hl hn hv h) hd
/-- what __init__ leaves of a fresh exception at x -/
structure InitEnd (fld : Str) (h h' : Heap) (x C dx t1 : Addr) (v : Value) : Prop where
  keep : ∀ b o, b ≠ x → h.get? b = some o → h'.get? b = some o
  obj : h'.get? x = some { cls := .ref C, dict := some dx, data := .fields #[.ref t1, .none, .none, .none, .bool false, .none] }
  dbig : h.objs.size ≤ dx
  dne : dx ≠ x
  ns : h'.Ns1 dx (fun y => if y = fld then some v else none)
/-- a made one -/
structure OwnMade (fld : Str) (h h' : Heap) (e C d : Addr) (v : Value) : Prop where
  keep : ∀ b o, h.get? b = some o → h'.get? b = some o
  new : h.objs.size ≤ e
  obj : ∃ t1 : Addr, h'.get? e = some { cls := .ref C, dict := some d, data := .fields #[.ref t1, .none, .none, .none, .bool false, .none] }
  dbig : h.objs.size ≤ d
  dne : d ≠ e
  ns : h'.Ns1 d (fun y => if y = fld then some v else none)
theorem OwnMade.of {fld : Str} {hp h' : Heap} {C dx t1 : Addr} {v : Value} {o1 o2 : Obj} (I : InitEnd fld ((hp.push o1).push o2) h' (hp.objs.size + 1) C dx t1 v)
    (k : ∀ b o, hp.get? b = some o → ((hp.push o1).push o2).get? b = some o) : OwnMade fld hp h' (hp.objs.size + 1) C dx v := by
  obtain ⟨k', hx, dn, dne, hns⟩ := I
  have old : ∀ b o, hp.get? b = some o → h'.get? b = some o := fun b o e => k' b o (Nat.ne_of_lt (Nat.lt_succ_of_lt (Heap.lt_size e))) (k b o e)
  have z : hp.objs.size + 1 + 1 ≤ dx := by
    have q := dn
    rw [Heap.size_push, Heap.size_push] at q
    exact q
  exact ⟨old, Nat.le_succ _, ⟨_, hx⟩, Nat.le_trans (Nat.le_trans (Nat.le_succ _) (Nat.le_succ _)) z, dne, hns⟩
end Lw
end PySem
namespace L2
open PySem PySem.Spec PyProof.Rows
theorem relO_one {fld : Str} {v : V} {v' : Value} (r : RelV v v') (f : Str) : RelO (List.lookup f [(fld, v)]) (if f = fld then some v' else none) := by
  by_cases hw : f = fld
  · subst hw
    rw [if_pos rfl]
    have q : List.lookup f [(f, v)] = some v := by simp [List.lookup]
    rw [q]
    exact r
  · rw [if_neg hw]
    have qw : (f == fld) = false := by simpa using hw
    have q2 : List.lookup f [(fld, v)] = none := by simp [List.lookup, qw]
    rw [q2]
    trivial
/-- C(e), e one argument kept as fld -/
def tMk1 (fld : Str) (C : Addr) (ta : TA) : St → Hp → XK → Prop := fun σ H Q => ta σ H fun vs H1 => ∃ v, vs = [v] ∧ ∀ d, H1 d = none → Q (.ref C) (some d) (upd H1 d (.xd [(fld, v)]))
def tRaise1 (fld : Str) (C : Addr) (W : WX) (ta : TA) : TS := fun _ σ H => tMk1 fld C ta σ H fun cls d H' => W cls d σ H'
theorem mk1_of {X : Cx} {C : Addr} {fld : Str} {pins : List (Addr × Obj)} {σ : St} {H1 : Hp} {Q : XK} {hp h' : Heap} {g : Array GenState} {dr : Drawn} {tk tk' : Nat} {os : OsState} {e d : Addr} {v : V} {v' : Value}
    (I1 : Inv X pins σ H1 ⟨hp, g, dr, tk, os⟩) (hR : Raises X (.ref C)) (rv : RelV v v') (M : PySem.Lw.OwnMade fld hp h' e C d v') (q1 : ∀ d, H1 d = none → Q (.ref C) (some d) (upd H1 d (.xd [(fld, v)]))) :
    MkP X pins σ Q (.ref e) ⟨h', g, dr, tk', os⟩ := by
  obtain ⟨t1, hoe⟩ := M.obj
  have hns := M.ns
  obtain ⟨G', g1, g2⟩ := restrict h' fun b => decide (b ≠ e)
  have gk : ∀ b, b ≠ e → G'.get? b = h'.get? b := fun b hb => g1 b (decide_eq_true hb)
  have ge : G'.get? e = none := g2 e (by simp)
  have old : ∀ b o, hp.get? b = some o → G'.get? b = some o := fun b o q => (gk b (Nat.ne_of_lt (Nat.lt_of_lt_of_le (Heap.lt_size q) M.new))).trans (M.keep b o q)
  have ob : ObjOk X.prog X.w (upd H1 d (.xd [(fld, v)])) G' d (.xd [(fld, v)]) :=
    ⟨_, hns.at (fun o q => (gk d M.dne).trans q), fun f => relO_one rv f⟩
  have J : Inv X pins σ (upd H1 d (.xd [(fld, v)])) ⟨G', g, dr, tk', os⟩ := I1.laid (t' := tk') old M.dbig ob
  refine ⟨e, _, _, ⟨G', g, dr, tk', os⟩, _, .ref C, some d, rfl, J, fun b o q => ?_, ge, hoe, ⟨rfl, rfl⟩, rfl, rfl, ?_, rfl, I1.bare, hR, q1 d (I1.hok.fresh M.dbig)⟩
  · by_cases hb : b = e
    · have q' : G'.get? b = some o := q
      rw [hb, ge] at q'; cases q'
    · exact (gk b hb).symm.trans q
  · rw [upd_ne (Ne.symm M.dne)]
    exact I1.hok.fresh M.new
end L2
set_option Elab.async false
set_option linter.all false
set_option maxRecDepth 100000
set_option maxHeartbeats 4000000
namespace PySem
namespace XBadScript
open PySem.W PySem.Calls PyProof.Rows PySem.HandSPX PySem.Lw
def iA (p1 p2 : Pos) : Arguments := { posonlyargs := [], args := [{ arg := "self", annotation := none, pos := p1 }, { arg := "place", annotation := none, pos := p2 }], vararg := none, kwonlyargs := [], kw_defaults := [], kwarg := none, defaults := [] }
def iB (q1 q2 q3 q4 : Pos) : List Stmt := [.Assign [.Attribute (.Name "self" q1) "place" q2] (.Name "place" q3) q4]
def iS : Scope := { kind := .function, names := [(PySem.Str.ofString "self", .local), (PySem.Str.ofString "place", .local)], isGenerator := false, isCoroutine := false, more := [] }
/-- what the written part says of the class at C and of its __init__ at fI -/
structure Txt (K : Frag) (mg : Str → Option Value) (C fI : Addr) : Prop where
  gC : mg "BadScript" = some (.ref C)
  ini : excInitIn K C exTail "Exception.__new__" = true
  ovr : excOver K C exTail = true
  sa : findIn K (.ref C) "__setattr__" = some (some (.builtin "object.__setattr__"))
  ga : findIn K (.ref C) "__getattribute__" = some (some (.builtin "BaseException.__getattribute__"))
  gg : findIn K (.ref C) "__getattr__" = some none
  noN : findIn K (.ref C) "place" = some none
  tkr : takerIn K C "place" = some none
  iC : findIn K (.ref C) "__init__" = some (some (.ref fI))
  tI : typeIn K (.ref fI) = some (.type "function")
  kC : keepIn K (.ref C) = true
  exC : subIn K (.ref C) (.type "BaseException") = some true
  tyC : typeIn K (.ref C) = some (.type "type")
  hdC : hasDictIn K C = true
  fn : ∃ (oc : Value) (od : Option Addr) (doc pm : Value) (an : Option Addr) (cdv ct : Value) (osl : Array (Option Value)) (p1 p2 q1 q2 q3 q4 : Pos),
    K.lookup fI = some ⟨oc, od, .func (fnOf "__init__" "BadScript.__init__" (iA p1 p2) (iB q1 q2 q3 q4) iS .none .none doc pm an cdv ct), osl⟩ ∧ codeIn K cdv "BadScript.__init__" = true
section
variable {prog : Program} {w : World} {A : Around} {E : Value → Shared → Prop} {R : Result → Shared → Prop} {s : Shared} {K : Frag} {mg : Str → Option Value} {C fI : Addr}
theorem init_ok (T : Txt K mg C fI) {x t0 : Addr} {v : Value} (X : K.In s.heap) (hlim : s.heap.NoLimit) (hx : s.heap.get? x = some (excO C t0)) (hroom : A.depth < recursionLimit)
    (hq : ∀ h' tk dx, InitEnd "place" s.heap h' x C dx t0 v → R (.ok (.ret .none)) { s with heap := h', toks := tk }) :
    codeAny (model prog w) A (.call (.ref fI) ⟨[.ref x, v], []⟩) R s := by
  obtain ⟨oc, od, doc, pm, an, cdv, ct, osl, p1, p2, q1, q2, q3, q4, ho, hcd⟩ := T.fn
  refine Att.call_fn (binds := [("self", .ref x), ("place", v)]) X hlim ho hcd hroom (BindsTo.of_eq (by first | rfl | with_unfolding_all rfl)) (by first | rfl | decide | with_unfolding_all rfl) (fun s1 IC => ?_) rfl rfl rfl
  obtain ⟨h1, tk1, rfl⟩ := IC.toInCall.same
  have k : ∀ b o, s.heap.get? b = some o → h1.get? b = some o := IC.toInCall.keep
  have hn := IC.toInCall.ns
  have X1 : K.In h1 := X.keeps k
  have hx1 := k _ _ hx
  show wpAny _ _ (execs _ _) _ _ _
  refine wpAny_execs_cons (plainObj_wpAny_Assign_Attribute ?_)
  refine ldC (v := v) hn (by first | rfl | with_unfolding_all rfl | kernel_rfl) (ldC (v := .ref x) hn (by first | rfl | with_unfolding_all rfl | kernel_rfl) ?_)
  refine set_plain X1 (ox := excO C t0) (od := none) ⟨hx1, rfl, rfl, trivial⟩ T.sa ?_
  refine store_first X1 T.ovr T.hdC T.tkr hx1 (fun h3 tk3 dx k3 dn dne hx3 hn3 => ?_)
  show wpAny _ _ (execs _ _) _ _ _
  have z : s.heap.objs.size < h1.objs.size := hn.lt
  exact wpAny_execs_nil (hq h3 tk3 dx ⟨fun b o hb e => k3 b o hb (k b o e), hx3, Nat.le_of_lt (Nat.lt_of_lt_of_le z dn), dne, hn3⟩)
theorem made_ok (T : Txt K mg C fI) {v : Value} (X : K.In s.heap) (hlim : s.heap.NoLimit) (hroom : A.depth + 1 < recursionLimit)
    (hq : ∀ h' tk e d, OwnMade "place" s.heap h' e C d v → R (.ok (.ret (.ref e))) { s with heap := h', toks := tk }) :
    codeAny (model prog w) A (.call (.ref C) ⟨[v], []⟩) R s := by
  obtain ⟨nm, N, qn, bs, bm, hdct, sn, sub, ab, col, dd, k0, k1, k2, k3, k5, hC, hbm⟩ := excInit_of X T.ini
  obtain ⟨hp, g, dr, tk, os⟩ := s
  refine call_own PySem.F.excBase_Exception hbm hC (looks_findIn X T.iC) (fun self => bind_fn X self T.tI) (one_size v) ?_
  have k : ∀ b o, hp.get? b = some o → ((hp.push (kdv_tup [v])).push (excO C hp.objs.size)).get? b = some o := fun b o e => Heap.get?_push_of_some _ (Heap.get?_push_of_some _ e)
  have hget : ((hp.push (kdv_tup [v])).push (excO C hp.objs.size)).get? (hp.objs.size + 1) = some (excO C hp.objs.size) := by heap_get
  refine init_ok (s := ⟨(hp.push (kdv_tup [v])).push (excO C hp.objs.size), g, dr, tk, os⟩) T (X.keeps k) (hlim.keeps k) hget ?_ fun h' tk' dx I => ?_
  · show A.depth + 1 < recursionLimit
    exact hroom
  · exact ⟨rfl, hq h' tk' (hp.objs.size + 1) dx (OwnMade.of I k)⟩
end
end XBadScript
end PySem
namespace L2
open PySem PySem.Spec PyProof.Rows
section
variable {X : Cx} {C fI : Addr}
theorem pmk_BadScript {a : Expr} {ta : TA} {p pos : Pos} {k : Nat} (T : PySem.XBadScript.Txt X.K X.mg C fI) (hr : Room k X.A) (ha : PA X [a] ta) (hg : Gl X "BadScript" := by rfl)
    (he : starEach (a :: []) X.env = (false, eval a X.env) :: starEach [] X.env := by rfl) (hpl : (backTo pos (starEach [] X.env)).any (·.1) = false := by rfl) :
    PMk X (.Call (.Name "BadScript" p) [a] [] pos) (tMk1 "place" C ta) := by
  intro pins s σ H Q I h
  refine wpAny_Call_Name_kw (ld_glob I hg T.gC ?_)
  refine PySem.W.callWith_K (h₀ := X.base) I.ok.mod.kin T.kC (thn (ha.run pos pins s σ H _ I h) fun us s1 hh => ?_) he hpl
  obtain ⟨vs, H1, I1, r1, v, ev, q1⟩ := hh
  subst ev
  refine ⟨I1.kIn, ?_⟩
  cases r1 with
  | cons rv rn =>
    rename_i v' us'
    cases rn
    show wpAny _ _ (call (.ref C) [v']) _ _ _
    have hlim := I1.nolimit
    obtain ⟨hp, g, dr, tk, os⟩ := s1
    refine wpAny_call (PySem.XBadScript.made_ok T I1.kIn hlim (by have := hr.dp; omega) fun h' tk' e d M => ?_)
    exact mk1_of I1 (raises_own T.exC T.tyC) rv M q1
theorem ps_raiseBadScript {a : Expr} {ta : TA} {W : WX} {p pos pos2 : Pos} {k : Nat} (hc : X.calm = true) (T : PySem.XBadScript.Txt X.K X.mg C fI) (hr : Room k X.A) (tk : Takes X W) (ha : PA X [a] ta) (hg : Gl X "BadScript" := by rfl)
    (he : starEach (a :: []) X.env = (false, eval a X.env) :: starEach [] X.env := by rfl) (hpl : (backTo pos (starEach [] X.env)).any (·.1) = false := by rfl) :
    PS X (.Raise (some (.Call (.Name "BadScript" p) [a] [] pos)) none pos2) (tRaise1 "place" C W ta) := ps_raise hc tk (pmk_BadScript T hr ha hg he hpl)
theorem xfc_BadScript {K : PySem.W.Frag} {mg : Str → Option Value} (T : PySem.XBadScript.Txt K mg C fI) : XfC K C := ⟨T.ga, T.gg, T.exC, T.hdC⟩
end
end L2
set_option Elab.async false
set_option linter.all false
set_option maxRecDepth 100000
set_option maxHeartbeats 4000000
/-! promises of defs that are called where no repr is under way (guards = some []) -/
namespace L2
open PySem PySem.Spec PyProof.Rows

/-- a promise: as the layer's, but told of calls within no guard; an exception lies as L2.CX says -/
structure FnG (P : Program) (w : World) (K : PySem.W.Frag) (mg : Str → Option Value) (base : Heap) (k : Nat) (f : Addr) (fd : FuncData) (ps : List Str) (sp : Sp) : Prop where
  arity : ∀ vs H Q E, sp vs H Q E → vs.length = ps.length
  runs : ∀ (A : Around) (outer : List Env) (s : Shared) (H : Hp) (args : Args) (us : List Value) (vs : List V) (Q : VK) (E : XK), Room k A → A.guards = some [] → Env0 P w K mg base A outer s H →
    BindsTo s fd args (ps.zip us) → Vals vs us → sp vs H Q E → codeAny (model P w) A (.call (.ref f) args) (CR (L2.CX P w) outer P w H s Q E) s
theorem FnG.up {P : Program} {w : World} {K : PySem.W.Frag} {mg : Str → Option Value} {base : Heap} {j k : Nat} {f : Addr} {fd : FuncData} {ps : List Str} {sp : Sp} (F : FnG P w K mg base j f fd ps sp) (h : j ≤ k) :
    FnG P w K mg base k f fd ps sp := ⟨F.arity, fun A o s H a us vs Q E r => F.runs A o s H a us vs Q E (r.mono h)⟩
theorem FnG.imp {P : Program} {w : World} {K : PySem.W.Frag} {mg : Str → Option Value} {base : Heap} {k : Nat} {f : Addr} {fd : FuncData} {ps : List Str} {sp sp' : Sp} (F : FnG P w K mg base k f fd ps sp)
    (h : ∀ vs H Q E, sp' vs H Q E → sp vs H Q E) : FnG P w K mg base k f fd ps sp' :=
  ⟨fun vs H Q E q => F.arity vs H Q E (h _ _ _ _ q), fun A o s H a us vs Q E r g e b v q => F.runs A o s H a us vs Q E r g e b v (h _ _ _ _ q)⟩

section
variable {X : Cx} {k : Nat} {f C : Addr} {fd : FuncData} {ps ks : List Str} {sp : Sp} {dvs : List V} {ds : List Value} {E : St → XK} {x m : Str} {p pos apos : Pos} {e o : Expr} {es : List Expr} {kws : List Keyword} {ta : TE} {t tk : TA}

/-- the callee runs, by any arguments that bind -/
theorem runG {pins : List (Addr × Obj)} {σ : St} {H : Hp} {s : Shared} {Q : VK} {args : Args} {us : List Value} {vs : List V} (F : FnG X.prog X.w X.K X.mg X.base k f fd ps sp) (hr : Room k X.A) (hgd : X.A.guards = some [])
    (hx : PassesAt (L2.CX X.prog X.w) X σ (E σ)) (I : Inv X pins σ H s) (hb : BindsTo s fd args (ps.zip us)) (r : Vals vs us) (h : sp vs H Q (E σ)) :
    codeAny (model X.prog X.w) X.A (.call (.ref f) args) (fun r s' => match r with | .ok (.ret v) => EP X pins σ Q v s' | .ok _ => False | .error e => X.xe e s') s := by
  refine codeAny_mono (F.runs X.A X.stack s H args us vs Q (E σ) hr hgd I.env0 hb r h) fun r s' q => ?_
  rcases r with e | (_ | _ | _ | u)
  · exact hx pins H s e s' I q
  · exact False.elim q
  · exact False.elim q
  · exact False.elim q
  · exact I.after q

/-- f(..), what is raised wished for at the slots -/
def tCallG (sp : Sp) (dvs : List V) (E : St → XK) (t : TA) : TE := fun σ H Q => t σ H fun vs H1 => sp (vs ++ dvs) H1 Q (E σ)
def tCallKG (sp : Sp) (gV : List V → List V → List V) (E : St → XK) (t tk : TA) : TE := fun σ H Q => t σ H fun vs H1 => tk σ H1 fun zs H2 => sp (gV vs zs) H2 Q (E σ)
def tMethG (C : Addr) (m : Str) (sp : Sp) (dvs : List V) (E : St → XK) (ta : TE) (t : TA) : TE := fun σ H Q => ta σ H fun x H1 => ∃ a dx fs, x = .ref a ∧ H1 a = some (.ins C dx fs) ∧ fs.lookup m = none ∧
  t σ H1 fun vs H2 => sp (x :: (vs ++ dvs)) H2 Q (E σ)

theorem callG_at {pins : List (Addr × Obj)} {σ : St} {H : Hp} {s : Shared} {Q : VK} {us : List Value} {vs : List V} (F : FnG X.prog X.w X.K X.mg X.base k f fd ps sp) (hr : Room k X.A) (hgd : X.A.guards = some [])
    (hb : Binds X.K fd ps ds) (hd : Vals dvs ds) (hx : PassesAt (L2.CX X.prog X.w) X σ (E σ)) (I : Inv X pins σ H s) (r : Vals vs us) (h : sp (vs ++ dvs) H Q (E σ)) : wpAny (model X.prog X.w) X.A (call (.ref f) us) (EP X pins σ Q) X.xe s := by
  have r2 : Vals (vs ++ dvs) (us ++ ds) := r.append hd
  refine wpAny_call (codeAny_mono (runG F hr hgd hx I (hb s us I.kIn (r2.length.symm.trans (F.arity _ _ _ _ h))) r2 h) fun r s' q => ?_)
  rcases r with e | (_ | _ | _ | u) <;> exact q
theorem pe_callG (F : FnG X.prog X.w X.K X.mg X.base k f fd ps sp) (hr : Room k X.A) (hgd : X.A.guards = some []) (hg : Gl X x) (hm : X.mg x = some (.ref f)) (hk : PySem.W.keepIn X.K (.ref f) = true) (hb : Binds X.K fd ps ds) (hd : Vals dvs ds)
    (hx : ∀ σ, PassesAt (L2.CX X.prog X.w) X σ (E σ)) (ha : PA X (e :: es) t) (hdb : (x == ("__debug__" : Str)) = false := by decide) (he : starEach (e :: es) X.env = (false, eval e X.env) :: starEach es X.env := by rfl)
    (hpl : (backTo pos (starEach es X.env)).any (·.1) = false := by rfl) : PE X (.Call (.Name x p) (e :: es) [] pos) (tCallG sp dvs E t) :=
  ⟨fun pins s σ H Q I h => wpAny_Call_Name_kw (ld_glob I hg hm (PySem.W.callWith_K (h₀ := X.base) I.ok.mod.kin hk (thn (ha.run pos pins s σ H _ I h) fun us s1 ⟨vs, H1, I1, r, q⟩ => ⟨I1.kIn, callG_at F hr hgd hb hd (hx σ) I1 r q⟩) he hpl) hdb)⟩
theorem pe_call0G (F : FnG X.prog X.w X.K X.mg X.base k f fd ps sp) (hr : Room k X.A) (hgd : X.A.guards = some []) (hg : Gl X x) (hm : X.mg x = some (.ref f)) (hk : PySem.W.keepIn X.K (.ref f) = true) (hb : Binds X.K fd ps ds) (hd : Vals dvs ds)
    (hx : ∀ σ, PassesAt (L2.CX X.prog X.w) X σ (E σ)) (hdb : (x == ("__debug__" : Str)) = false := by decide) : PE X (.Call (.Name x p) [] [] pos) (tCallG sp dvs E tNil) :=
  ⟨fun pins s σ H Q I h => wpAny_Call_Name_kw (ld_glob I hg hm (PySem.W.callWith_K0 I.kIn hk (callG_at (us := []) (vs := []) F hr hgd hb hd (hx σ) I .nil h)) hdb)⟩
variable {g : List Value → List Value → List Value} {gV : List V → List V → List V}
theorem callKG_at {pins : List (Addr × Obj)} {σ : St} {H : Hp} {s : Shared} {Q : VK} {us ws : List Value} {vs zs : List V} (F : FnG X.prog X.w X.K X.mg X.base k f fd ps sp) (hr : Room k X.A) (hgd : X.A.guards = some [])
    (hb : KBinds X.K fd ps ks g gV) (hx : PassesAt (L2.CX X.prog X.w) X σ (E σ)) (I : Inv X pins σ H s) (r : Vals vs us) (rz : Vals zs ws) (h : sp (gV vs zs) H Q (E σ)) :
    wpAny (model X.prog X.w) X.A (call (.ref f) us (ks.zip ws)) (EP X pins σ Q) X.xe s := by
  have r2 := hb.rel r rz
  refine wpAny_call (codeAny_mono (runG F hr hgd hx I (hb.to s us ws I.kIn (r2.length.symm.trans (F.arity _ _ _ _ h))) r2 h) fun r s' q => ?_)
  rcases r with e | (_ | _ | _ | u) <;> exact q
theorem pe_callKG (F : FnG X.prog X.w X.K X.mg X.base k f fd ps sp) (hr : Room k X.A) (hgd : X.A.guards = some []) (hg : Gl X x) (hm : X.mg x = some (.ref f)) (hk : PySem.W.keepIn X.K (.ref f) = true) (hb : KBinds X.K fd ps ks g gV)
    (hx : ∀ σ, PassesAt (L2.CX X.prog X.w) X σ (E σ)) (ha : PA X (e :: es) t) (hkw : PK X kws tk) (hall : (backToKw pos (keywordEach kws X.env)).all (·.1.isSome) = true := by rfl) (hks : (backToKw pos (keywordEach kws X.env)).filterMap (·.1) = ks := by rfl)
    (hdb : (x == ("__debug__" : Str)) = false := by decide) (he : starEach (e :: es) X.env = (false, eval e X.env) :: starEach es X.env := by rfl)
    (hpl : ((backTo pos (starEach (e :: es) X.env)).any (·.1) || (backToKw pos (keywordEach kws X.env)).any (·.1.isNone)) = false := by rfl) :
    PE X (.Call (.Name x p) (e :: es) kws pos) (tCallKG sp gV E t tk) := by
  refine ⟨fun pins s σ H Q I h => wpAny_Call_Name_kw (ld_glob I hg hm ?_ hdb)⟩
  refine PySem.W.callWith_KW (h₀ := X.base) I.ok.mod.kin hk hall (thn (ha.run pos pins s σ H _ I h) fun us s1 ⟨vs, H1, I1, r, q⟩ => ?_) hpl he
  refine thn (hkw.run pos pins s1 σ H1 _ I1 q) fun ws s2 ⟨zs, H2, I2, rz, q2⟩ => ⟨I2.kIn, ?_⟩
  rw [hks]
  exact callKG_at F hr hgd hb (hx σ) I2 r rz q2
theorem pe_callK0G (F : FnG X.prog X.w X.K X.mg X.base k f fd ps sp) (hr : Room k X.A) (hgd : X.A.guards = some []) (hg : Gl X x) (hm : X.mg x = some (.ref f)) (hk : PySem.W.keepIn X.K (.ref f) = true) (hb : KBinds X.K fd ps ks g gV)
    (hx : ∀ σ, PassesAt (L2.CX X.prog X.w) X σ (E σ)) (hkw : PK X kws tk) (hall : (backToKw pos (keywordEach kws X.env)).all (·.1.isSome) = true := by rfl) (hks : (backToKw pos (keywordEach kws X.env)).filterMap (·.1) = ks := by rfl)
    (hdb : (x == ("__debug__" : Str)) = false := by decide)
    (hpl : ((backTo pos (starEach [] X.env)).any (·.1) || (backToKw pos (keywordEach kws X.env)).any (·.1.isNone)) = false := by rfl) :
    PE X (.Call (.Name x p) [] kws pos) (tCallKG sp gV E tNil tk) := by
  refine ⟨fun pins s σ H Q I h => wpAny_Call_Name_kw (ld_glob I hg hm ?_ hdb)⟩
  refine PySem.W.callWith_KW0 (h₀ := X.base) I.ok.mod.kin hk hall (thn (hkw.run pos pins s σ H _ I h) fun ws s2 ⟨zs, H2, I2, rz, q2⟩ => ⟨I2.kIn, ?_⟩) hpl
  rw [hks]
  exact callKG_at (us := []) (vs := []) F hr hgd hb (hx σ) I2 .nil rz q2
/-- o.m(..) of an own instance -/
theorem methG_at {pins : List (Addr × Obj)} {σ : St} {H : Hp} {s : Shared} {Q : VK} {a : Addr} {us : List Value} {vs : List V} (F : FnG X.prog X.w X.K X.mg X.base k f fd ps sp) (hr : Room k X.A) (hgd : X.A.guards = some [])
    (hb : Binds X.K fd ps ds) (hd : Vals dvs ds) (hx : PassesAt (L2.CX X.prog X.w) X σ (E σ)) (I : Inv X pins σ H s) (r : Vals vs us) (h : sp (.ref a :: (vs ++ dvs)) H Q (E σ)) :
    wpAny (model X.prog X.w) X.A (call (.ref f) (Value.ref a :: us)) (EP X pins σ Q) X.xe s :=
  callG_at (us := .ref a :: us) (vs := .ref a :: vs) F hr hgd hb hd hx I (.cons rfl r) h
theorem pe_methG {pl : Sem Bool} (he : PE X o ta) (c : Cls X.K C) (hm : Meth X.K C m f) (F : FnG X.prog X.w X.K X.mg X.base k f fd ps sp) (hr : Room k X.A) (hgd : X.A.guards = some []) (hb : Binds X.K fd ps ds) (hd : Vals dvs ds)
    (hx : ∀ σ, PassesAt (L2.CX X.prog X.w) X σ (E σ)) (ha : PA X (e :: es) t)
    (hst : starEach (e :: es) X.env = (false, eval e X.env) :: starEach es X.env := by rfl) (hpl : (backTo pos (starEach es X.env)).any (·.1) = false := by rfl)
    (ht : eval (.Call (.Attribute o m apos) (e :: es) [] pos) X.env = (do
      let ov ← eval o X.env
      standAt apos.atName
      let (f, first) ← holding [ov] (getMethod ov m pl)
      callWith pos f first (backTo pos (starEach (e :: es) X.env)) (backToKw pos (keywordEach [] X.env))) := by rfl) :
    PE X (.Call (.Attribute o m apos) (e :: es) [] pos) (tMethG C m sp dvs E ta t) := by
  refine ⟨fun pins s σ H Q I h => PySem.W.methodCall_KW (pl := pl) (thn (he.run pins s σ H _ I h) fun u s1 ⟨x, H1, I1, rx, a, dx, fs, ex, ea, l, q⟩ => ?_) ht⟩
  subst ex
  obtain rfl : u = Value.ref a := rx
  refine getmeth_ok I1 ea c hm l ?_
  exact PySem.W.callWith_K (h₀ := X.base) (first := [.ref a]) I1.ok.mod.kin hm.kp (thn (ha.run pos pins _ σ H1 _ (I1.tok _) q) fun us s2 ⟨vs, H2, I2, r, q2⟩ => ⟨I2.kIn, methG_at F hr hgd hb hd (hx σ) I2 r q2⟩) hst hpl
end
/-- nothing is raised -/
theorem noX {X : Cx} : ∀ σ : St, PassesAt (L2.CX X.prog X.w) X σ E0 := fun σ pins H s e s' I c => passL pins σ H s e s' I c

/-! ### a body keeps the promise -/
section
variable {P : Program} {w : World} {K : PySem.W.Frag} {mg : Str → Option Value} {base : Heap}
theorem fnG_of {k : Nat} {f : Addr} {name qual : Str} {params : Arguments} {body : List Stmt} {scope : Scope} {dV kV doc pm cdv ct oc : Value} {an od : Option Addr} {osl : Array (Option Value)} {N ps : List Str} {sp : Sp}
    (lk : K.lookup f = some ⟨oc, od, .func (PySem.W.fnOf name qual params body scope dV kV doc pm an cdv ct), osl⟩) (hcd : PySem.W.codeIn K cdv qual = true) (S : FnScope N ps scope) (len : ∀ vs H Q E, sp vs H Q E → vs.length = ps.length)
    (hbody : ∀ (A : Around) (outer : List Env) (s : Shared) (H : Hp) (vs : List V) (Q : VK) (E : XK), Room k (A.deeper (envOfC qual scope s.heap.objs.size f cdv)) → A.guards = some [] → sp vs H Q E →
      ∃ t, PSs (cxOf (L2.CX P w) P w K mg base N qual scope f cdv A outer s H E) body t ∧ t { nx := fun _ H' => Q .non H', rt := Q } (start N vs) H) :
    FnG P w K mg base (k + 1) f (PySem.W.fnOf name qual params body scope dV kV doc pm an cdv ct) ps sp := by
  refine ⟨len, fun A outer s H args us vs Q E hr hgd e0 hb r hsp => ?_⟩
  have old : ∀ b o, base.get? b = some o → s.heap.get? b = some o := fun b o e => (e0.bs b o e).1
  have KX : K.In s.heap := e0.mod.kin.keeps old
  have kinds : ∀ y ∈ ps.zip us, scope.names.lookup y.1 = some .local ∨ (scope.names.lookup y.1 = some .cell ∧ ((cellsFrom (s.heap.objs.size + 1) scope.names []).lookup y.1).isSome = true) := by
    intro y hy
    have hp := S.par y.1 (List.of_mem_zip hy).1
    exact hp.imp id fun q => ⟨q, PySem.W.cellsFrom_some _ _ _ (.inl q)⟩
  refine codeAny_call_function hr.depth (KX _ _ lk) rfl S.co S.gen rfl (PySem.W.codeRec_of KX hcd) (hb _ _ _ _ (wpAny_newFunctionEnv_cells S.kind kinds fun env he s1 x => ?_))
  subst he
  refine ⟨(e0.mod.nolimit.keeps old).keeps x.toInCall.keep, codeAny_func ?_⟩
  obtain ⟨t, ht, hq⟩ := hbody A outer s H vs Q E (hr.deeper _) hgd hsp
  have I : Inv (cxOf (L2.CX P w) P w K mg base N qual scope f cdv A outer s H E) [] (start N vs) H s1 := inv_start S hr.hd e0 (len _ _ _ _ hsp) r x
  refine wpAny_mono (ht.run [] s1 (start N vs) H _ I hq) (fun fl s' hs => ?_) fun e s' hs => hs
  rcases fl with _ | _ | _ | u
  · obtain ⟨_, H', J, q⟩ := hs
    exact ⟨.non, H', J.os, J.bare, J.base, J.hok, rfl, q⟩
  · exact hs.choose_spec.choose_spec.2.elim
  · exact hs.choose_spec.choose_spec.2.elim
  · obtain ⟨v, _, H', J, rv, q⟩ := hs
    exact ⟨v, H', J.os, J.bare, J.base, J.hok, rv, q⟩
/-- a def that lets nothing out -/
theorem Fun.okG {x qual : Str} {st : Stmt} {f : Addr} {fd : FuncData} {N ps : List Str} {k : Nat} {sp : Sp} (F : Fun K x qual st f fd) (S : FnScope N ps (defScope st)) (len : ∀ vs H Q E, sp vs H Q E → vs.length = ps.length)
    (hbody : ∀ (cdv : Value) (A : Around) (outer : List Env) (s : Shared) (H : Hp) (vs : List V) (Q : VK) (E : XK), Room k (A.deeper (envOfC qual (defScope st) s.heap.objs.size f cdv)) → A.guards = some [] → sp vs H Q E →
      ∃ t, PSs (cxOf (L2.CX P w) P w K mg base N qual (defScope st) f cdv A outer s H E).nox (defBody st) t ∧ t { nx := fun _ H' => Q .non H', rt := Q } (start N vs) H) : FnG P w K mg base (k + 1) f fd ps sp := by
  obtain ⟨oc, od, kV, doc, pm, an, cdv, ct, osl, rfl, lk, hcd⟩ := F.ex
  refine fnG_of lk hcd S len fun A outer s H vs Q E hr hgd hsp => ?_
  obtain ⟨t, h, q⟩ := hbody cdv A outer s H vs Q E hr hgd hsp
  exact ⟨t, h.nox, q⟩
/-- a def that may raise -/
theorem Fun.okXG {x qual : Str} {st : Stmt} {f : Addr} {fd : FuncData} {N ps : List Str} {k : Nat} {sp : Sp} (F : Fun K x qual st f fd) (S : FnScope N ps (defScope st)) (len : ∀ vs H Q E, sp vs H Q E → vs.length = ps.length)
    (hbody : ∀ (cdv : Value) (A : Around) (outer : List Env) (s : Shared) (H : Hp) (vs : List V) (Q : VK) (E : XK), Room k (A.deeper (envOfC qual (defScope st) s.heap.objs.size f cdv)) → A.guards = some [] → sp vs H Q E →
      ∃ t, PSs (cxOf (L2.CX P w) P w K mg base N qual (defScope st) f cdv A outer s H E) (defBody st) t ∧ t { nx := fun _ H' => Q .non H', rt := Q } (start N vs) H) : FnG P w K mg base (k + 1) f fd ps sp := by
  obtain ⟨oc, od, kV, doc, pm, an, cdv, ct, osl, rfl, lk, hcd⟩ := F.ex
  exact fnG_of lk hcd S len fun A outer s H vs Q E hr hgd hsp => hbody cdv A outer s H vs Q E hr hgd hsp
end

/-! ### the end: the law called -/
theorem lawG_call {P : Program} {w : World} {K : PySem.W.Frag} {mg mb : Str → Option Value} {k : Nat} {fa a : Addr} {fd : FuncData} {x : Str} {sp : Sp} {s1 : Shared} {vs : List Value} {ns : List Int}
    (KX : K.In s1.heap) (hns : s1.heap.Ns mainGlobals mg) (hb : s1.heap.Ns builtinsNs mb) (hbb : ∀ x : Str, x ≠ "__name__" → mb x = bootBuiltins x) (hlim : s1.heap.NoLimit) (hg : s1.gens = #[])
    (ha : s1.heap.get? a = some { cls := .type "list", data := .seq vs.toArray }) (hi : IntsAre vs ns) (hl : ns.length ≤ sizeLine) (hr : Room k callerA)
    (F : ∀ base : Heap, K.In base → base.Ns mainGlobals mg → FnG P w K mg base k fa fd [x] sp) (hbind : ∀ (s : Shared) (u : Value), BindsTo s fd ⟨[u], []⟩ [(x, u)])
    (hsp : ∀ H : Hp, Only H → SqL K H a (ns.map V.int) → sp [.ref a] H (fun v _ => v = .bl true) fun _ _ _ => False) :
    codeAny (model P w) callerA (.call (.ref fa) ⟨[.ref a], []⟩) (fun r s' => r = .ok (.ret (.bool true)) ∧ OldK s1.heap s'.heap ∧ s'.os = s1.os ∧ AllBare s'.gens) s1 := by
  have zs : ns.length = vs.length := hi.length.symm
  have rel := vals_ints hi
  suffices from_ : ∀ H : Hp, Only H → SqL K H a (ns.map V.int) → HOk P w H s1.heap → (∀ b o, H b = some o → b = a ∧ K.lookup a = none) →
      codeAny (model P w) callerA (.call (.ref fa) ⟨[.ref a], []⟩) (fun r s' => r = .ok (.ret (.bool true)) ∧ OldK s1.heap s'.heap ∧ s'.os = s1.os ∧ AllBare s'.gens) s1 by
    cases hk : K.lookup a with
    | none =>
      have at_a : ∀ {b : Addr} {o : HO}, (if b = a then some (HO.frz { cls := .type "list", data := .seq vs.toArray } (.lst (ns.map V.int))) else none) = some o → b = a ∧ o = HO.frz { cls := .type "list", data := .seq vs.toArray } (.lst (ns.map V.int)) := fun {b o} e => by
        by_cases q : b = a
        · rw [if_pos q] at e
          exact ⟨q, (Option.some.inj e).symm⟩
        · rw [if_neg q] at e
          cases e
      refine from_ (fun b => if b = a then some (.frz { cls := .type "list", data := .seq vs.toArray } (.lst (ns.map V.int))) else none) (fun b => ?_) (.inl (.inr ⟨_, if_pos rfl⟩)) (fun b u e => ?_) fun b o e => ⟨(at_a e).1, hk⟩
      · rcases Decidable.em (b = a) with q | q
        · exact .inr ⟨_, _, if_pos q⟩
        · exact .inl (if_neg q)
      · obtain ⟨q1, q2⟩ := at_a e
        subst q1 q2
        exact ⟨ha, by rw [List.length_map]; exact hl, vs, _, rel, ha⟩
    | some o =>
      obtain rfl : o = { cls := .type "list", data := .seq vs.toArray } := Option.some.inj ((KX a o hk).symm.trans ha)
      exact from_ (fun _ => none) (fun _ => .inl rfl) (.inr ⟨_, vs.toArray, _, hk, rfl, rfl, rfl, by rw [List.size_toArray, ← zs]; exact hl, by simpa using rel⟩) (fun b u z => by cases (show (none : Option HO) = some u from z)) (fun b o z => by cases (show (none : Option HO) = some o from z))
  intro H hO hS hok hA
  have free : ∀ {b : Addr} {o : Obj}, s1.heap.get? b = some o → (∀ q, o ≠ { cls := .type "list", data := .seq q } ) → H b = none := fun {b o} e ne => by
    cases q : H b with
    | none => rfl
    | some u =>
      obtain rfl := (hA b u q).1
      exact absurd (Option.some.inj (e.symm.trans ha)) (ne _)
  have nsK : ∀ {b : Addr} {m : Str → Option Value}, s1.heap.Ns b m → (hidT s1.heap H).Ns b m := fun {b m} n => by
    obtain ⟨o, es, ep, e, d, r⟩ := n
    refine ⟨o, es, ep, hidT_get e (free e fun q z => ?_), d, r⟩
    rw [z] at d
    cases d
  have hKb : K.In (hidT s1.heap H) := fun b o e => hidT_get (KX b o e) (by
    cases q : H b with
    | none => rfl
    | some u =>
      obtain ⟨q1, q2⟩ := hA b u q
      subst q1
      rw [q2] at e
      cases e)
  have hM : Mod K mg (hidT s1.heap H) := ⟨hKb, nsK hns, ⟨mb, nsK hb, hbb⟩, let ⟨mc, h1, h2⟩ := hlim; ⟨mc, nsK h1, h2⟩⟩
  have e0 : Env0 P w K mg (hidT s1.heap H) callerA [] s1 H := ⟨rfl, hM, fun b o e => of_hidT e, Nat.le_of_eq (hidT_size _ _), trivial, (fun b hb => absurd (show b ∈ ([] : List Addr) from hb) (by simp)), hok, .of_eq hg⟩
  refine codeAny_mono ((F _ hKb (nsK hns)).runs callerA [] s1 H ⟨[.ref a], []⟩ [.ref a] [.ref a] _ _ hr rfl e0 (hbind s1 (.ref a)) (.cons rfl .nil) (hsp H hO hS)) fun r s' h => ?_
  rcases r with e | (_ | _ | _ | u)
  · obtain ⟨_, _, _, _, _, _, _, _, _, _, _, _, z⟩ := h
    exact z.elim
  · exact False.elim h
  · exact False.elim h
  · exact False.elim h
  · obtain ⟨v, H', os, bare, un, hok', r', q⟩ := h
    obtain rfl : v = .bl true := q
    obtain rfl : u = Value.bool true := r'
    refine ⟨rfl, OldK.of_keep fun b o e => ?_, os, bare⟩
    rcases hO b with z | ⟨ob, xs, z⟩
    · exact un.keep b o e z (fun m => absurd (show b ∈ ([] : List Addr) from m) (by simp)) (by simp)
    · have e1 := (hok b _ z).1
      have e2 := (hok' b _ (un.frzs b ob _ z)).1
      rw [e] at e1
      cases e1
      exact e2
theorem walkG_of {l : PySem.W.OpenLaw} {n k : Nat} {q : Program} {loose : List Str} {XP : (Str → Option Value) → Heap → Prop} {YP : World → Heap → Prop} {d : DefRec} {K : Params → PySem.W.Frag} {sp : PySem.W.Frag → Sp} {x : Str}
    (hn : l.most = some n) (hn2 : n ≤ sizeLine) (hdf : d.params.defaults = []) (hr : Room k callerA) (hY : ∀ (w : World) (h : Heap), YP w h → (K w.params).In h)
    (F : ∀ (w : World) (mg : Str → Option Value) (fa : Addr) (h : Heap), (K w.params).In h → h.Ns mainGlobals mg → mg d.name = some (.ref fa) →
      ∃ fd : FuncData, (∀ (s : Shared) (u : Value), BindsTo s fd ⟨[u], []⟩ [(x, u)]) ∧
        ∀ base : Heap, (K w.params).In base → base.Ns mainGlobals mg → FnG l.prog w (K w.params) mg base k fa fd [x] (sp (K w.params)))
    (hsp : ∀ (K : PySem.W.Frag) (H : Hp) (a : Addr) (ns : List Int), ns.length ≤ n → Only H → SqL K H a (ns.map V.int) → sp K [.ref a] H (fun v _ => v = .bl true) fun _ _ _ => False) :
    PySem.W.WalkO q loose XP YP l.row.toRowW d [] (fun f vs => PySem.call f vs) := by
  refine Att.attach_call hn hdf fun w s₀ s₁ mg mb fa o pm cd doc a vs ns G Y ho hd hcd hmg hobj hints hlen hg => ?_
  obtain ⟨fd, hb, hF⟩ := F w mg fa _ (hY w _ Y) G.T.g hmg
  exact lawG_call (hY w _ Y) G.T.g G.T.b G.T.builtins G.T.nolimit hg hobj hints (Nat.le_trans hlen hn2) hr hF hb fun H hO hS => hsp _ H a ns hlen hO hS
end L2
set_option Elab.async false
set_option linter.all false
set_option maxRecDepth 100000
set_option maxHeartbeats 4000000
/-! repr of data; enumerate of a text -/
namespace L2
open PySem PySem.Spec PyProof.Rows

/-- data without dicts, or an empty dict -/
def Rp (K : PySem.W.Frag) (H : Hp) (v : V) (d : PyData) : Prop := (Dp K H v d ∧ d.hasDict = false) ∨ ∃ a, v = .ref a ∧ H a = some (.dK []) ∧ d = .dict []
def rRepr (K : PySem.W.Frag) : List V → Hp → VK → Prop := fun xs H Q => ∃ v d, xs = [v] ∧ Rp K H v d ∧ d.showable = true ∧ d.depth ≤ 60 ∧ d.shown.length ≤ sizeLine ∧ Q (.str d.shown) H
section
variable {X : Cx}
theorem Rp.reads {pins : List (Addr × Obj)} {σ : St} {H : Hp} {s : Shared} {v : V} {u : Value} {d : PyData} (I : Inv X pins σ H s) (h : Rp X.K H v d) (r : RelV v u) : ∃ as, Reads s.heap u d as ∧ (d.hasDict = true → sysModules ∉ as) := by
  rcases h with ⟨h, hd⟩ | ⟨a, rfl, ha, rfl⟩
  · obtain ⟨as, q⟩ := Dp.reads I d v u h r
    exact ⟨as, q, fun z => by rw [hd] at z; cases z⟩
  · obtain rfl : u = Value.ref a := r
    obtain ⟨_, hs, vs, kv, m⟩ : ([] : List (Key × V)).length ≤ sizeLine ∧ (a == sysModules) = false ∧ ∃ vs, KV ([] : List (Key × V)) vs ∧ s.heap.DictOf (mixKind X.prog X.w) a vs := I.hok a _ ha
    cases kv
    obtain ⟨o, es, n, e1, e2, e3, e4⟩ := m
    have e5 : es.toList = [] := by
      have q := e4.2.1
      generalize es.toList = l at q
      cases q
      rfl
    refine ⟨[a], ?_, fun _ z => ?_⟩
    · have z := Reads.dict (h := s.heap) (kvs := []) (as := []) (bs := []) e1 e2.1 e3 (by rw [e5]; exact ReadsAll.nil) (by rw [e5]; exact ReadsAll.nil)
      simpa using z
    · rw [List.mem_singleton.mp z] at hs
      simp at hs
theorem call_reprD (hgd : X.A.guards = some []) (hu : X.A.units + 64 < cLine) : CallR X (.builtin "repr") (rRepr X.K) := by
  intro pins s σ H xs us Q I r h
  obtain ⟨v, d, rfl, hv, hs, hdp, hz, q⟩ := h
  obtain ⟨u, rfl, ru⟩ := vals1 r
  obtain ⟨as, rd, hsm⟩ := Rp.reads I hv ru
  cases rd with
  | none => exact PySem.P.repr_of_none ⟨.str _, H, I.tok _, ⟨_, rfl⟩, q⟩
  | bool b => exact PySem.P.repr_of_bool ⟨.str _, H, I.tok _, ⟨_, rfl⟩, q⟩
  | int i t => exact PySem.P.repr_of_int (by simpa [PyData.showable] using hs) ⟨.str _, H, I.tok _, ⟨_, rfl⟩, q⟩
  | str x t => exact PySem.P.repr_of_str ⟨.str _, H, I.tok _, ⟨_, rfl⟩, q⟩ (by simpa only [PyData.shown] using hz)
  | list h1 h2 h3 h4 =>
    exact repr_of_reads' (Reads.list h1 h2 h3 h4) hs hsm hgd (by omega) (fun _ _ e => e) (fun h' u tk hk => ⟨.str _, H, I.kept hk, ⟨_, rfl⟩, q⟩) hz
  | tuple h1 h2 h3 h4 =>
    exact repr_of_reads' (Reads.tuple h1 h2 h3 h4) hs hsm hgd (by omega) (fun _ _ e => e) (fun h' u tk hk => ⟨.str _, H, I.kept hk, ⟨_, rfl⟩, q⟩) hz
  | dict h1 h2 h3 h4 h5 =>
    exact repr_of_reads' (Reads.dict h1 h2 h3 h4 h5) hs hsm hgd (by omega) (fun _ _ e => e) (fun h' u tk hk => ⟨.str _, H, I.kept hk, ⟨_, rfl⟩, q⟩) hz
end

/-! ### enumerate of a text -/
/-- each sign in a new pair behind its place -/
def Ites (x : Str) : It := ⟨fun i _ => i < x.cps.size, fun i H v H' => ∃ T c, v = .ref T ∧ H T = none ∧ x.cps[i]? = some c ∧ H' = upd H T (.tup [.int (i : Nat), .str ⟨#[c]⟩]), fun i _ => i = x.cps.size⟩
theorem turn_enumS {P : Program} {w : World} {K : PySem.W.Frag} {elts : List Expr} {kk : Nat} {tpos : Pos} (x : Str) (t : Tok) (e it : Addr) (hne : e ≠ it) :
    Turn P w K (.Tuple elts kk tpos) (Ites x) [e, it] e (fun i h => (∃ old, IsEnum h e it ((i : Nat) : Int) old) ∧ h.IsStrIter it (strIterType x) x t i) where
  mem := List.mem_cons_self ..
  obj := fun i h st b hb => by
    obtain ⟨⟨old, he⟩, o, ho, _, hd⟩ := st
    rcases List.mem_cons.mp hb with rfl | hb
    · exact ⟨_, he, fun v q => nomatch q⟩
    · rw [List.mem_singleton.mp hb]
      exact ⟨o, ho, fun v q => by rw [hd] at q; cases q⟩
  keep := fun i h h' st k => by
    obtain ⟨⟨old, he⟩, o, ho, r⟩ := st
    exact ⟨⟨old, k e (by simp) _ he⟩, o, k it (by simp) o ho, r⟩
  item := by
    intro X hP hw hK hc i pins s σ H E I hfree st hgo
    subst hP hw hK
    obtain ⟨⟨old, he⟩, hit⟩ := st
    have hel : e < s.heap.objs.size := Heap.lt_size he
    have hil : it < s.heap.objs.size := by obtain ⟨_, q, _⟩ := hit; exact Heap.lt_size q
    refine wpAny_pyNext_enum_itemD (Draws.text (A := X.A.in1) (I.ok.hd hc) it x t) he hit hgo hne (by simpa using hne) fun u h' tk hu ho hit' hT hsz hk => ?_
    obtain ⟨c, t', hcx, rfl⟩ := hu
    refine ⟨_, rfl, wpAny_letOwnedTupleGo_enum (s := { s with heap := h', toks := tk + 1 }) ho fun h2 he' sb => ?_⟩
    have hT2 : h2.get? s.heap.objs.size = some { cls := .type "tuple", data := .seq #[.int i tk, .str ⟨#[c]⟩ t'] } := (sb.2 _ (Nat.ne_of_gt hel)).trans hT
    have new : ObjOk X.prog X.w (upd H s.heap.objs.size (.tup [.int (i : Nat), .str ⟨#[c]⟩])) h2 s.heap.objs.size (.tup [.int (i : Nat), .str ⟨#[c]⟩]) :=
      ⟨by show 2 ≤ sizeLine; decide, [.int i tk, .str ⟨#[c]⟩ t'], .cons ⟨_, rfl⟩ (.cons ⟨_, rfl⟩ .nil), ⟨_, hT2, rfl, _, rfl⟩⟩
    have I1 : Inv X pins σ (upd H s.heap.objs.size (.tup [.int (i : Nat), .str ⟨#[c]⟩])) { s with heap := h2, toks := tk + 1 } :=
      I.turnedNew (ch := [e, it]) (fun b ob hb q => by
        have n1 : b ≠ e := fun z => hb (by simp [z])
        have n2 : b ≠ it := fun z => hb (by simp [z])
        exact (sb.2 b n1).trans (hk b ob n1 n2 q)) hfree (Nat.le_refl _) new
    obtain ⟨oi, hoi, ri⟩ := hit'
    refine ⟨.ref s.heap.objs.size, _, I1, rfl, ⟨_, c, rfl, I.hok.fresh (Nat.le_refl _), hcx, rfl⟩, ⟨⟨.str ⟨#[c]⟩ t', ?_⟩, oi, (sb.2 it (Ne.symm hne)).trans hoi, ri⟩, fun b hb => ?_⟩
    · have e1 : ((i + 1 : Nat) : Int) = (i : Int) + 1 := by omega
      rw [e1]; exact he'
    · have hb' : b < s.heap.objs.size := by
        rcases List.mem_cons.mp hb with rfl | hb
        · exact hel
        · rw [List.mem_singleton.mp hb]; exact hil
      rw [upd_ne (Nat.ne_of_lt hb')]
      exact (hfree b hb).1
  done := by
    intro X hP hw hK hc i pins s σ H E I hfree st hst
    subst hP hw hK
    obtain ⟨⟨old, he⟩, hit⟩ := st
    obtain ⟨f0, f1, f2, f3, f4, f5⟩ := hfree it (by simp)
    obtain rfl : i = x.cps.size := hst
    exact wpAny_pyNext_enum_endD (Draws.text (A := X.A.in1) (I.ok.hd hc) it x t) he hit fun h' eb => ⟨rfl, I.turned (t' := s.toks) (fun b o hb q => eb b o hb q) f0 f1 f3 f4 f5⟩
  self := fun A i s Q E st h => by
    obtain ⟨⟨old, he⟩, _⟩ := st
    exact wpAny_pyIter_enum he h
def iEnumS (ta : TA) : TI := fun σ H R => ta σ H fun vs H1 => ∃ x, vs = [.str x] ∧ R (Ites x) H1
theorem pi_enumS {X : Cx} {e : Expr} {ta : TA} {p pos tpos : Pos} {elts : List Expr} {kk : Nat} (hg : Gl X "enumerate") (hm : X.mg "enumerate" = none) (ha : PA X [e] ta) (hs : starEach [e] X.env = [(false, eval e X.env)] := by rfl) :
    PI X (.Tuple elts kk tpos) (.Call (.Name "enumerate" p) [e] [] pos) (iEnumS ta) := by
  refine ⟨fun pins s σ H R I h => Call_ (ld_blt I hg hm boot_enumerate (PyProof.Rows.callWith_type1 (thn (ha.run pos pins s σ H _ I h) fun us s1 ⟨vs, H1, I1, r1, x, ex, q⟩ => ?_) hs rfl))⟩
  subst ex
  obtain ⟨u, rfl, t, rfl⟩ := vals1 r1
  refine call_enumerate_str fun h' he hit hsz hk => wpAny_pyIter_enum he ?_
  have I2 : Inv X pins σ H1 { s1 with heap := h' } := I1.kept (t' := s1.toks) hk
  refine ⟨s1.heap.objs.size + 1, [s1.heap.objs.size + 1, s1.heap.objs.size], _, _, H1, rfl, I2, turn_enumS x t (s1.heap.objs.size + 1) s1.heap.objs.size (Nat.succ_ne_self _), ⟨⟨.none, he⟩, hit⟩, fun b hb => ?_, q⟩
  have hle : s1.heap.objs.size ≤ b := by
    rcases List.mem_cons.mp hb with rfl | z
    · exact Nat.le_succ _
    · rw [List.mem_singleton.mp z]; exact Nat.le_refl _
  exact I1.fpOk hle (I1.hok.fresh hle)
theorem walk_enumS {z : Str} : Walk (Ites z) z.cps.size (fun _ => True) (fun i H v H' => ∃ T c, v = .ref T ∧ H T = none ∧ z.cps[i]? = some c ∧ H' = upd H T (.tup [.int (i : Nat), .str ⟨#[c]⟩])) :=
  ⟨fun _ _ hi _ => hi, fun _ _ => rfl, fun _ _ _ _ _ _ y => y⟩
end L2
set_option Elab.async false
set_option linter.all false
set_option maxRecDepth 100000
set_option maxHeartbeats 4000000
/-! isinstance of a caught own error that has a dict -/
namespace PySem
namespace Lw
open PySem.W PySem.Calls PyProof.Rows PySem.HandSPX PySem.Spec
section
variable {prog : Program} {w : World} {A : Around} {E : Value → Shared → Prop} {s : Shared} {K : Frag} {x D : Addr} {ox : Obj} {od : Option Obj}
theorem found_data {C : Addr} {name : Str} {a g : Value} (hc : (clsIn K C).isSome = true) (ha : findIn K (.ref C) name = some (some a)) (hg : specialIn K a "__get__" = some (some g)) (ht : takesIn K a = some true) :
    findObj K C od name = some (Builtin.ObjectAttr.Found.bind g a) := by
  obtain ⟨cd, hc⟩ := Option.isSome_iff_exists.mp hc
  unfold findObj
  rw [hc, Option.bind_some, ha, Option.bind_some]
  simp [hg, ht]
theorem cls_of_exc {Q : Option Value → Shared → Prop} (C : L2.ExcC K D) (X : K.In s.heap) (I : InstAt s.heap x ox D od) (h : Q (some (.ref D)) { s with toks := s.toks + 1 }) : wpAny (model prog w) A (getAttr? (.ref x) "__class__") Q E s := by
  obtain ⟨hga, hgt, hsub, hdct, ha, hn, htk, hm⟩ := C
  have hf : findObj K D od "__class__" = some (.bind (.builtin "getset_descriptor.__get__") (.builtin "object.__class__")) := found_data (by obtain ⟨cd, hc, _⟩ := any_some hdct; rw [hc]; rfl) ha hn htk
  obtain ⟨hp, g, d, t, os⟩ := s
  have T0 := I.type (M := model prog w)
  have isB : Looks (model prog w) hp (isInstance (.ref x) (.type "BaseException")) true := T0.andThen (looks_subIn X hsub)
  have notO : (Value.builtin "BaseException.__getattribute__" == Value.builtin "object.__getattribute__") = false := by decide +kernel
  unfold getAttr? getAttrBy? getAttrBy
  refine wpAny_bind (wpAny_mkText (wpAny_bind (wpAny_attempt (wpAny_holding (wpAny_bind (T0.at (wpAny_bind ((looks_findIn X hga).at ?_))))))))
  show wpAny _ _ (if (onTheHeap (Value.ref D) && Value.builtin "BaseException.__getattribute__" == Value.builtin "object.__getattribute__") = true then _ else _) _ _ _
  rw [notO, Bool.and_false, if_neg Bool.false_ne_true]
  unfold getAttrByItsOwn hookBefore
  refine wpAny_bind ?_
  rw [if_pos (show onTheHeap (Value.ref D) = true from rfl)]
  refine (looks_findIn X hgt).at (wpAny_bind (wpAny_attempt (wpAny_holding ?_)))
  unfold callGetattribute
  rw [show (false && onTheHeap (Value.builtin "BaseException.__getattribute__")) = false from rfl, if_neg Bool.false_ne_true]
  unfold boundAndCalled
  rw [PySem.F.excAttr_ValueError.ga.bind (.ref x)]
  refine wpAny_bind (wpAny_pure ?_)
  show wpAny _ _ (call (.builtin "BaseException.__getattribute__") [.ref x, .str "__class__" t]) _ _ _
  refine wpAny_call (codeAny_call_builtin PySem.F.excAttr_ValueError.ga.plain PySem.F.entry_bexc_ga (@check_slot (model prog w) _ _ ⟨hp, g, d, t + 1, os⟩ "BaseException.__getattribute__" "BaseException" "__getattribute__" (.ref x) [.str "__class__" t] [] _ (by decide +kernel) (by decide +kernel) isB (PySem.F.args_bexc_ga (.ref x) (.str "__class__" t)) ?_))
  unfold Builtin.«object.__getattribute__»
  refine wpAny_bind (wpAny_of_eq (a := ((Value.ref x : Value), [Value.str "__class__" t])) (by first | rfl | (simp only [slotArgs]; rfl)) (wpAny_bind (wpAny_pure (wpAny_bind (T0.at (wpAny_bind ((looks_find X I hf).at ?_)))))))
  show wpAny _ _ (holding [Value.builtin "object.__class__"] (call (.builtin "getset_descriptor.__get__") [.builtin "object.__class__", .ref x, .ref D]) >>= ret) _ _ _
  refine wpAny_bind (wpAny_holding (wpAny_call (class_get (s := ⟨hp, g, d, t + 1, os⟩) (ox := ox) (od := od) X I hm (wpAny_pure ?_))))
  show wpAny _ _ (handedOut (.ref D)) _ _ _
  rw [handedOut_of (v := .ref D) rfl]
  first
    | exact wpAny_pure (wpAny_pure h)
    | exact wpAny_pure h
    | exact wpAny_pure (wpAny_bind (wpAny_pure (wpAny_pure h)))
theorem kit_exc (C : L2.ExcC K D) : KitX K (.ref x) (.ref D) (fun h => InstAt h x ox D od) where
  ty := fun _ _ _ I => I.type
  it := fun M h X I => by
    obtain ⟨cd, hc, _⟩ := any_some C.hd
    unfold clsIn at hc
    split at hc
    · rename_i c' d' cd' sl' ho
      intro A' Q' E' s' k q
      unfold isType loadHead
      exact wpAny_bind (wpAny_loadPart (k _ _ (X _ _ ho)) (wpAny_pure q))
    · cases hc
  ne := (handS_kitx_exc (x := x) (ox := ox) C.hg C.hk C.hs C.hd C.ha C.hn C.ht C.hm).ne
  ca := fun X I k => cls_of_exc C X I k
end
end Lw
end PySem
namespace L2
open PySem PySem.Spec PyProof.Rows
theorem call_isED {X : Cx} {a D : Addr} {oe : Obj} {cls : Value} {dd : Option Addr} {pn : List (Addr × Obj)} (C : ExcC X.K D) (hz : Zc cls dd oe) (hf : ∃ vs, oe.data = .fields vs) :
    CallR (X.suite a ((a, oe) :: pn)) (.builtin "isinstance") (fun xs H Q => cls = .ref D ∧ (∃ d fs, dd = some d ∧ H d = some (.xd fs)) ∧ rIsE X.K D a xs H Q) := by
  intro pins s σ H xs us Q I r h
  obtain ⟨rfl, ⟨d, fs, rfl, hd⟩, c, cv, b, rfl, hcv, e, q⟩ := h
  cases r with
  | cons rx rr =>
    cases rr with
    | cons rt rr =>
      cases rr
      cases rx
      obtain rfl := hcv _ rt
      obtain ⟨hget, _⟩ := I.pin (a, oe) (List.mem_append.mpr (.inl List.mem_cons_self))
      obtain ⟨vs, hv⟩ := hf
      obtain ⟨mA, ⟨o, es, ep, ho, _⟩, _⟩ := (show ObjOk X.prog X.w H s.heap d (.xd fs) from I.hok d _ hd)
      have J : PySem.W.InstAt s.heap a oe D (some o) := by
        obtain ⟨oc, od, oda, osl⟩ := oe
        obtain ⟨h1, h2⟩ := hz
        dsimp only at h1 h2 hv
        subst h1 h2 hv
        exact ⟨hget, rfl, rfl, ho⟩
      exact PySem.W.kia_one (PySem.Lw.kit_exc C) I.kIn J e (fun z => nomatch z) fun tk => ⟨.bl b, H, I.kept (t' := tk) fun _ _ z => z, rfl, q⟩
end L2
set_option Elab.async false
set_option linter.all false
set_option maxRecDepth 100000
set_option maxHeartbeats 4000000
/-! list.count of flat items; isinstance of what is no text; text times a number -/
namespace L2
open PySem PySem.Spec PyProof.Rows
def rCountV (K : PySem.W.Frag) : V → List V → Hp → VK → Prop := fun x vs H Q => ∃ (p : Addr) (xs : List V) (y : V), x = .ref p ∧ vs = [y] ∧ SqL K H p xs ∧ flatV y = true ∧ xs.all flatV = true ∧ Q (.int (xs.countP (fun z => eqV z y) : Nat)) H
theorem countP_eqU {x : V} : ∀ {xs : List V} {us : List Value}, Vals xs us → xs.all flatV = true → us.countP (eqU x) = xs.countP fun y => eqV y x
  | _, _, .nil, _ => rfl
  | y :: xs, u :: us, .cons r t, f => by
    rw [List.all_cons, Bool.and_eq_true] at f
    rw [List.countP_cons, List.countP_cons, eqU_of r f.1, countP_eqU t f.2]
theorem mt_countV {X : Cx} : MtR X "list.count" (rCountV X.K) := by
  intro pins s σ H x vs v us Q I rx rv h
  obtain ⟨p, xs, y, rfl, rfl, hs, fy, fs, q⟩ := h
  obtain rfl : v = Value.ref p := rx
  obtain ⟨u, rfl, ru⟩ := vals1 rv
  obtain ⟨its, r, ⟨⟨cls, dd, data, sl⟩, n, ho, hc, hdn, hd⟩, hlen⟩ := I.list hs
  simp only at hc hd
  subst hc hd
  refine call_meets PySem.F.slot_list_count ⟨_, ho, rfl⟩ PySem.F.entry_list_count (PySem.F.args_list_count_2 _ _)
    (SeqAt.list_countAt p its.toArray n dd sl u (eqU y)) ⟨ho, fun z hz => mem_eqAt ru fy r fs z (by simpa using hz), ?_⟩
  refine ⟨.int (xs.countP (fun z => eqV z y) : Nat), H, I.tok _, ⟨s.toks, ?_⟩, q⟩
  show Value.int ((its.toArray.toList.countP (eqU y) : Nat) : Int) s.toks = _
  rw [show its.toArray.toList = its by simp, countP_eqU r fs]
/-- a value of a type that is not str -/
def NotStr (K : PySem.W.Frag) (H : Hp) (v : V) : Prop := ∃ t, TyX K H v t ∧ PySem.W.kitOne K t (.type "str") = some false
theorem isi_str {K : PySem.W.Frag} {H : Hp} {v : V} {x : Str} {Q : VK} (h : v = .str x) (q : Q (.bl true) H) : rIsi K [v, .ty "str"] H Q :=
  ⟨v, .ty "str", .type "str", .type "str", true, rfl, .ty _, by rw [h]; exact .base (.str x), kit_ty (by decide +kernel), q⟩
theorem isi_notStr {K : PySem.W.Frag} {H : Hp} {v : V} {Q : VK} (h : NotStr K H v) (q : Q (.bl false) H) : rIsi K [v, .ty "str"] H Q := by
  obtain ⟨t, h1, h2⟩ := h
  exact ⟨v, .ty "str", t, .type "str", false, rfl, .ty _, h1, h2, q⟩
theorem NotStr.non {K : PySem.W.Frag} {H : Hp} : NotStr K H .non := ⟨_, .base .non, kit_ty (by decide +kernel)⟩
theorem NotStr.bl {K : PySem.W.Frag} {H : Hp} {b : Bool} : NotStr K H (.bl b) := ⟨_, .base (.bl b), kit_ty (by decide +kernel)⟩
theorem NotStr.int {K : PySem.W.Frag} {H : Hp} {i : Int} : NotStr K H (.int i) := ⟨_, .base (.int i), kit_ty (by decide +kernel)⟩
theorem NotStr.lst {K : PySem.W.Frag} {H : Hp} {a : Addr} {xs : List V} (h : H a = some (.lst xs)) : NotStr K H (.ref a) := ⟨_, .base (.lst h), kit_ty (by decide +kernel)⟩
theorem NotStr.tup {K : PySem.W.Frag} {H : Hp} {a : Addr} {xs : List V} (h : H a = some (.tup xs)) : NotStr K H (.ref a) := ⟨_, .base (.tup h), kit_ty (by decide +kernel)⟩
theorem NotStr.dK {K : PySem.W.Frag} {H : Hp} {a : Addr} {kvs : List (Key × V)} (h : H a = some (.dK kvs)) : NotStr K H (.ref a) := ⟨_, .base (.dK h), kit_ty (by decide +kernel)⟩
end L2
set_option Elab.async false
set_option linter.all false
set_option maxRecDepth 100000
set_option maxHeartbeats 4000000
/-! flat lists as data: xs == [], xs != [] -/
namespace L2
open PySem PySem.Spec PyProof.Rows
def flatD : V → PyData
  | .bl b => .bool b
  | .int i => .int i
  | .str x => .str x
  | _ => .none
def okV : V → Bool
  | .str x => PyData.strOk x
  | .non => true
  | .bl _ => true
  | .int _ => true
  | _ => false
theorem okV_flat {v : V} (h : okV v = true) : flatV v = true := by
  cases v <;> first | rfl | cases h
theorem okV_all {xs : List V} (h : xs.all okV = true) : xs.all flatV = true := by
  rw [List.all_eq_true] at h ⊢
  exact fun x hx => okV_flat (h x hx)
theorem flatD_dp {K : PySem.W.Frag} {H : Hp} {v : V} (h : flatV v = true) : Dp K H v (flatD v) := by
  cases v <;> first | exact .non | exact .bl _ | exact .int _ | exact .str _ | cases h
theorem flatD_all {K : PySem.W.Frag} {H : Hp} : ∀ {xs : List V}, xs.all flatV = true → DpAll K H xs (xs.map flatD)
  | [], _ => .nil
  | x :: xs, h => by
    rw [List.all_cons, Bool.and_eq_true] at h
    exact .cons (flatD_dp h.1) (flatD_all h.2)
theorem flatD_lay {v : V} (h : okV v = true) : (flatD v).canLay0 = true ∧ (flatD v).depth = 0 ∧ (flatD v).hasDict = false := by
  cases v <;> first | exact ⟨h, rfl, rfl⟩ | exact ⟨rfl, rfl, rfl⟩ | cases h
theorem flatD_layAll : ∀ {xs : List V}, xs.all okV = true → PyData.canLayAll0 (xs.map flatD) = true ∧ PyData.depthAll (xs.map flatD) = 0 ∧ PyData.hasDictAll (xs.map flatD) = false
  | [], _ => ⟨rfl, rfl, rfl⟩
  | x :: xs, h => by
    rw [List.all_cons, Bool.and_eq_true] at h
    obtain ⟨h1, h2, h3⟩ := flatD_layAll h.2
    obtain ⟨q1, q2, q3⟩ := flatD_lay h.1
    refine ⟨?_, ?_, ?_⟩
    · simp only [List.map_cons, PyData.canLayAll0, h1, q1, Bool.and_self]
    · simp only [List.map_cons, PyData.depthAll, h2, q2, Nat.max_self]
    · simp only [List.map_cons, PyData.hasDictAll, h3, q3, Bool.or_self]
theorem shaped_flat {xs : List V} (h : xs.all okV = true) : SeqAt.shaped (.list (xs.map flatD)) = true := by
  obtain ⟨h1, h2, _⟩ := flatD_layAll h
  unfold SeqAt.shaped
  simp only [PyData.canLay0, PyData.depth, h1, h2]
  decide
theorem eqv_nil (xs : List V) : PyData.eqv (.list (xs.map flatD)) (.list []) = xs.isEmpty := by
  cases xs with
  | nil => simp [PyData.eqv, PyData.eqvAll]
  | cons x r => simp [PyData.eqv, PyData.eqvAll]
theorem rEq_nil {K : PySem.W.Frag} {H : Hp} {p q : Addr} {xs : List V} {Q : VK} (hx : SqL K H p xs) (hf : xs.all okV = true) (hq : H q = some (.lst [])) (h : Q (.bl xs.isEmpty) H) : rEqD K (.ref p) (.ref q) H Q :=
  ⟨_, _, .lst hx (flatD_all (okV_all hf)), .lst (SqL.of hq) .nil, shaped_flat hf, by decide, by rw [eqv_nil]; exact h⟩
theorem rNe_nil {K : PySem.W.Frag} {H : Hp} {p q : Addr} {xs : List V} {Q : VK} (hx : SqL K H p xs) (hf : xs.all okV = true) (hq : H q = some (.lst [])) (h : Q (.bl (!xs.isEmpty)) H) : rNeD K (.ref p) (.ref q) H Q :=
  ⟨_, _, .lst hx (flatD_all (okV_all hf)), .lst (SqL.of hq) .nil, shaped_flat hf, by decide, by rw [eqv_nil]; exact h⟩
end L2
set_option Elab.async false
set_option linter.all false
set_option maxRecDepth 100000
set_option maxHeartbeats 4000000
/-! data stays data; how long a repr is -/
namespace L2
open PySem PySem.Spec PyProof.Rows
theorem Same.seqT {K : PySem.W.Frag} {H H' : Hp} {a : Addr} {xs : List V} (e : Same H H') (h : SqT K H a xs) : SqT K H' a xs := by
  rcases h with (h | ⟨o, h⟩) | h
  · exact .inl (.inl (e _ _ h))
  · exact .inl (.inr ⟨o, e _ _ h⟩)
  · exact .inr h
mutual
theorem Dp.same {K : PySem.W.Frag} {H H' : Hp} (e : Same H H') : ∀ {v : V} {d : PyData}, Dp K H v d → Dp K H' v d
  | _, _, .non => .non
  | _, _, .bl b => .bl b
  | _, _, .int i => .int i
  | _, _, .str x => .str x
  | _, _, .lst h r => .lst (e.seq h) (DpAll.same e r)
  | _, _, .tup h r => .tup (e.seqT h) (DpAll.same e r)
theorem DpAll.same {K : PySem.W.Frag} {H H' : Hp} (e : Same H H') : ∀ {vs : List V} {ds : List PyData}, DpAll K H vs ds → DpAll K H' vs ds
  | _, _, .nil => .nil
  | _, _, .cons h r => .cons (Dp.same e h) (DpAll.same e r)
end
theorem Rp.same {K : PySem.W.Frag} {H H' : Hp} (e : Same H H') {v : V} {d : PyData} (h : Rp K H v d) : Rp K H' v d := by
  rcases h with ⟨h, z⟩ | ⟨a, h1, h2, h3⟩
  · exact .inl ⟨h.same e, z⟩
  · exact .inr ⟨a, h1, e _ _ h2, h3⟩
theorem listText_len (ts : List Str) : (PySem.listText ts).length ≤ piled ts + 2 := by
  cases ts with
  | nil => decide
  | cons t ts =>
    have e : PySem.listText (t :: ts) = textFrom 1 ("[" ++ "" ++ t) ts ++ "]" := rfl
    rw [e, Str.length_append, textFrom_length_pos _ _ _ (by decide), piled_cons, Str.length_append, Str.length_append]
    have e1 : (Str.ofString "[").length = 1 := rfl
    have e2 : (Str.ofString "").length = 0 := rfl
    have e3 : (Str.ofString "]").length = 1 := rfl
    show _ + _ + _ + _ + (Str.ofString "]").length ≤ _
    omega
theorem TyOf.same {K : PySem.W.Frag} {H H' : Hp} (e : Same H H') {v : V} {t : Value} (h : TyOf K H v t) : TyOf K H' v t := by
  cases h with
  | non => exact .non
  | bl x => exact .bl x
  | int x => exact .int x
  | str x => exact .str x
  | flt x => exact .flt x
  | lst h => exact .lst (e _ _ h)
  | frz h => exact .frz (e _ _ h)
  | tup h => exact .tup (e _ _ h)
  | dK h => exact .dK (e _ _ h)
  | dT h => exact .dT (e _ _ h)
  | ins h cl a b c d => exact .ins (e _ _ h) cl a b c d
theorem TyX.same {K : PySem.W.Frag} {H H' : Hp} (e : Same H H') {v : V} {t : Value} (h : TyX K H v t) : TyX K H' v t := by
  cases h with
  | base h => exact .base (TyOf.same e h)
  | byt b => exact .byt b
  | set h => exact .set (e _ _ h)
  | kList h c => exact .kList h c
  | kTuple h c => exact .kTuple h c
  | kDict h c => exact .kDict h c
  | fTuple h => exact .fTuple (e _ _ h)
  | fDict h => exact .fDict (e _ _ h)
theorem NotStr.same {K : PySem.W.Frag} {H H' : Hp} (e : Same H H') {v : V} (h : NotStr K H v) : NotStr K H' v := by
  obtain ⟨t, h1, h2⟩ := h
  exact ⟨t, TyX.same e h1, h2⟩
/-- None, or a list of a number and True -/
def tellD : Option Int → PyData
  | none => .none
  | some k => .list [.int k, .bool true]
theorem tellD_flat {r : Option Int} : (tellD r).hasDict = false ∧ (tellD r).depth ≤ 1 := by
  cases r with
  | none => exact ⟨rfl, Nat.zero_le _⟩
  | some k => exact ⟨rfl, Nat.le_refl _⟩
theorem tellD_ok {r : Option Int} (h : ∀ k, r = some k → k.natAbs.log2 < 1920) : (tellD r).showable = true ∧ (tellD r).shown.length ≤ 2000 := by
  cases r with
  | none => exact ⟨rfl, by decide⟩
  | some k =>
    have hk := h k rfl
    refine ⟨by simpa [tellD, PyData.showable, PyData.showableAll] using hk, ?_⟩
    show (PySem.listText [Str.ofString (toString k), "True"]).length ≤ 2000
    have := listText_len [Str.ofString (toString k), "True"]
    have h1 := int_text_len_1921 hk
    rw [piled_cons, piled_cons, piled_nil] at this
    have e1 : (Str.ofString "True").length = 4 := rfl
    omega
/-- two of them in a list -/
theorem two_ok {d : PyData} (h : d.hasDict = false ∧ d.depth ≤ 1) (hs : d.showable = true ∧ d.shown.length ≤ 2000) : (PyData.list [d, d]).hasDict = false ∧ (PyData.list [d, d]).showable = true ∧ (PyData.list [d, d]).depth ≤ 60 ∧ (PyData.list [d, d]).shown.length ≤ sizeLine := by
  refine ⟨?_, ?_, ?_, ?_⟩
  · simp [PyData.hasDict, PyData.hasDictAll, h.1]
  · simp [PyData.showable, PyData.showableAll, hs.1]
  · show max d.depth (max d.depth 0) + 1 ≤ 60
    omega
  · show (PySem.listText [d.shown, d.shown]).length ≤ sizeLine
    have := listText_len [d.shown, d.shown]
    rw [piled_cons, piled_cons, piled_nil] at this
    exact Nat.le_trans (show _ ≤ 5000 by omega) (by decide)
end L2
set_option Elab.async false
set_option linter.all false
set_option maxRecDepth 100000
set_option maxHeartbeats 4000000
/-! a token is out: behind a join of a written text; text times number; codes of a replaced text -/
namespace L2
open PySem PySem.Spec PyProof.Rows CwR
def PEI (X : Cx) (e : Expr) (t : TE) : Prop :=
  ∀ (pins : List (Addr × Obj)) (s : Shared) (σ : St) (H : Hp) (Q : VK), Inv X pins σ H s → t σ H Q → wpAny (model X.prog X.w) X.A (eval e X.env) (fun v s' => 1 ≤ s'.toks ∧ EP X pins σ Q v s') X.xe s
def PTT (X : Cx) (e : Expr) (t : TT) : Prop :=
  ∀ (pins : List (Addr × Obj)) (s : Shared) (σ : St) (H : Hp) (Q : Bool → Hp → Prop), 1 ≤ s.toks → Inv X pins σ H s → t σ H Q → wpAny (model X.prog X.w) X.A (isTrue e X.env (eval e X.env)) (TP X pins σ Q) X.xe s
def PWT (X : Cx) (e : Expr) (t : TT) : Prop :=
  ∀ (whole : Sem Value) (pins : List (Addr × Obj)) (s : Shared) (σ : St) (H : Hp) (Q : Bool → Hp → Prop), 1 ≤ s.toks → Inv X pins σ H s → t σ H Q → wpAny (model X.prog X.w) X.A (isTrue e X.env whole) (TP X pins σ Q) X.xe s
section
variable {X : Cx} {a b : Expr} {rest : List Expr} {tA tB' : TT} {pos : Pos}
theorem PTT.of (h : PT X a tA) : PTT X a tA := fun pins s σ H Q _ I q => h.run pins s σ H Q I q
theorem PWT.pt (h : PWT X a tA) : PTT X a tA := fun pins s σ H Q h0 I q => h _ pins s σ H Q h0 I q
theorem pwt_or1 (ha : PTT X a tA) : PWT X (.BoolOp .Or [a] pos) tA := by
  intro wh pins s σ H Q h0 I h
  refine isTrue_or (thn (ha pins s σ H Q h0 I h) fun c s1 e => ?_)
  cases c with
  | false => exact isTrue_or_nil e
  | true => exact e
theorem pwt_or (ha : PTT X a tA) (hb : PWT X (.BoolOp .Or (b :: rest) pos) tB') : PWT X (.BoolOp .Or (a :: b :: rest) pos) (tOr tA tB') := by
  intro wh pins s σ H Q h0 I h
  refine isTrue_or (wpAny_mono (PySem.wpAny_toks (ha pins s σ H _ h0 I h)) (fun c s1 q => ?_) fun _ _ z => z.2)
  obtain ⟨hk, H1, I1, q1⟩ := q
  cases c with
  | true => exact ⟨H1, I1, q1⟩
  | false => exact hb wh pins s1 σ H1 Q (Nat.le_trans h0 hk) I1 q1
theorem ptt_not (ha : PTT X a tA) : PTT X (.UnaryOp .Not a pos) (tNot tA) := by
  intro pins s σ H Q h0 I h
  exact isTrue_not (ha pins s σ H (fun c H1 => Q (!c) H1) h0 I h)
theorem ptt_val {e : Expr} {t : TE} (h : PET X e t) (he : ∀ whole, isTrue e X.env whole = (do let v ← whole; standAt e.pos; holding [v] (truthy v)) := by intro _; rfl) : PTT X e (tB t) := by
  intro pins s σ H Q h0 I hw
  refine isTrue_plain (thn (h pins s σ H _ h0 I hw) fun v s1 ⟨x, H1, I1, r1, q1⟩ => ?_) (he _)
  obtain ⟨d, rfl, q⟩ := q1
  cases r1
  exact wpAny_truthy_bool ⟨H1, I1, q⟩
theorem pst_ifT {c : Expr} {a b : List Stmt} {tc : TT} {t u : TS} (hc : PTT X c tc) (ha : PSsT X a t) (hb : PSsT X b u) : PST X (.If c a b pos) (tIfS tc t u) := by
  intro pins s σ H D h0 I h
  refine wpAny_If (wpAny_mono (PySem.wpAny_toks (hc pins s σ H _ h0 I h)) (fun d s1 q => ?_) fun _ _ z => z.2)
  obtain ⟨hk, H1, I1, q1⟩ := q
  cases d with
  | true => exact ha pins s1 σ H1 D (Nat.le_trans h0 hk) I1 q1
  | false => exact hb pins s1 σ H1 D (Nat.le_trans h0 hk) I1 q1
/-- a call of the package's or the law's own functions, its arguments by tokens -/
theorem pet_callG {k : Nat} {f : Addr} {fd : FuncData} {ps : List Str} {sp : Sp} {dvs : List V} {ds : List Value} {E : St → XK} {x : Str} {p : Pos} {e : Expr} {es : List Expr} {t : TA}
    (F : FnG X.prog X.w X.K X.mg X.base k f fd ps sp) (hr : Room k X.A) (hgd : X.A.guards = some []) (hg : Gl X x) (hm : X.mg x = some (.ref f)) (hk : PySem.W.keepIn X.K (.ref f) = true) (hb : Binds X.K fd ps ds) (hd : Vals dvs ds)
    (hx : ∀ σ, PassesAt (L2.CX X.prog X.w) X σ (E σ)) (ha : PAT X (e :: es) t) (hdb : (x == ("__debug__" : Str)) = false := by decide) (he : starEach (e :: es) X.env = (false, eval e X.env) :: starEach es X.env := by rfl)
    (hpl : (backTo pos (starEach es X.env)).any (·.1) = false := by rfl) : PET X (.Call (.Name x p) (e :: es) [] pos) (tCallG sp dvs E t) :=
  fun pins s σ H Q h0 I h => wpAny_Call_Name_kw (ld_glob I hg hm (PySem.W.callWith_K (h₀ := X.base) I.ok.mod.kin hk (thn (ha pos pins s σ H _ h0 I h) fun us s1 ⟨vs, H1, I1, r, q⟩ => ⟨I1.kIn, callG_at F hr hgd hb hd (hx σ) I1 r q⟩) he hpl) hdb)
/-- 'c'.join(e): behind it a token is out -/
theorem pei_join {c : Str} {j : Nat} {cpos apos : Pos} {e : Expr} {te : TE} (he : PE X e te) (hs : starEach [e] X.env = [(false, eval e X.env)] := by rfl) (hbase : attributeBase (.Constant (.str c) j cpos) "join" X.env (eval (.Constant (.str c) j cpos) X.env) = eval (.Constant (.str c) j cpos) X.env := by rfl)
    (hline : (apos.endLine == pos.line) = true := by rfl) :
    PEI X (.Call (.Attribute (.Constant (.str c) j cpos) "join" apos) [e] [] pos) (tM1 (fun x xs H Q => ∃ a p, ∃ ys : List Str, x = .str a ∧ xs = [.ref p] ∧ (SqL X.K H p (ys.map V.str) ∨ SqT X.K H p (ys.map V.str)) ∧
      (ys.map (·.length)).sum + ys.length * a.length ≤ 16777216 ∧ Q (.str (Txt.join a ys)) H) (tC (.str c)) te) := by
  intro pins s σ H Q I h
  obtain ⟨_, q1⟩ := h
  refine PySem.Call_method1 hbase hs hline (Calls.Constant_str ?_)
  refine ⟨"str", _, F.plainAttrs_str, F.slot_str_join, F.type_str_join, typeIs_str _ _ _, (fun _ e => nomatch e), Calls.callWith_builtin rfl (Calls.evalArgs_plain (Calls.spliced_cons ?_))⟩
  refine wpAny_mono (PySem.wpAny_toks (he.run pins _ σ H _ (I.tok (s.toks + 1)) q1)) (fun u s2 q => ?_) fun _ _ z => z.2
  obtain ⟨hk, y, H2, I2, r2, q2⟩ := q
  have hk' : s.toks + 1 ≤ s2.toks := hk
  refine Calls.spliced_nil (wpAny_mono (PySem.wpAny_toks (mt_join pins s2 σ H2 (.str c) [y] _ [u] Q I2 ⟨s.toks, rfl⟩ (.cons r2 .nil) q2)) (fun v s3 q => ?_) fun _ _ z => z.2)
  exact ⟨Nat.le_trans (by omega) q.1, q.2⟩
theorem pss_setI {i : Nat} {x : Str} {e : Expr} {te : TE} {rest : List Stmt} {u : TS} {pos' : Pos} (hN : X.N.Nodup) (hi : X.N[i]? = some x) (hx : Loc X.env.scope x) (he : PEI X e te) (h2 : PSsT X rest u)
    (hs : swapsWith e (some (.Name x pos')) pos.line X.env = pure false := by rfl) (hf : X.fn x = true ∨ X.env.scope.names.lookup x = some .local := by first | exact .inl rfl | exact .inr rfl | assumption) :
    PSs X (.Assign [.Name x pos'] e pos :: rest) (tSeq (tAsg te (gName i)) u) := by
  refine ⟨fun pins s σ H D I h => ?_⟩
  refine wpAny_execs_cons (wpAny_Assign_Name (thn (he pins s σ H _ I h) fun v s1 q => ?_) hs)
  obtain ⟨hk, y, H1, I1, r1, q1⟩ := q
  refine wpAny_mono (PySem.wpAny_toks (store_ok (Q := fun _ s2 => Inv X pins (σ.set i (some y)) H1 s2) I1 hN hi hx r1 (fun _ I2 => I2) hf)) (fun _ s2 q => ?_) fun _ _ z => z.2
  exact h2 pins s2 _ H1 D (Nat.le_trans hk q.1) q.2 q1
end
/-- text times number -/
def rMulS : R2 := fun x y H Q => ∃ z n, x = .str z ∧ y = .int n ∧ MulOk z n ∧ Q (.str (Txt.mul z n)) H
theorem op_mulS {X : Cx} : OpR X (binaryOp .Mult) rMulS := by
  intro pins s σ H x y v u Q I rx ry h
  obtain ⟨z, n, rfl, rfl, hok, q⟩ := h
  obtain ⟨t, rfl⟩ := rx
  obtain ⟨t2, rfl⟩ := ry
  exact PySem.SB.mul hok fun t' k => ⟨.str (Txt.mul z n), H, I.tok k, ⟨t', rfl⟩, q⟩
theorem replS_mem {y z : List Nat} {c : Nat} : ∀ (n : Nat) (l : List Nat), c ∈ PySem.StrLaws.replS y z n l → c ∈ l ∨ c ∈ z
  | n, [], h => by
    rw [PySem.StrLaws.replS] at h
    cases h
  | 0, a :: r, h => by
    rw [PySem.StrLaws.replS] at h
    split at h
    · rcases List.mem_append.mp h with h | h
      · exact .inr h
      · exact (replS_mem _ r h).imp (List.mem_cons_of_mem _) _root_.id
    · rcases List.mem_cons.mp h with h | h
      · rw [h]; exact .inl List.mem_cons_self
      · exact (replS_mem _ r h).imp (List.mem_cons_of_mem _) _root_.id
  | n + 1, a :: r, h => by
    rw [PySem.StrLaws.replS] at h
    exact (replS_mem n r h).imp (List.mem_cons_of_mem _) _root_.id
theorem replace_mem {x y z : Str} (hy : 1 ≤ y.length) {c : Nat} (h : c ∈ (Txt.replace x y z).cps.toList) : c ∈ x.cps.toList ∨ c ∈ z.cps.toList := by
  rw [PySem.StrLaws.replace_list hy] at h
  exact replS_mem 0 _ h
end L2
set_option Elab.async false
set_option linter.all false
set_option maxRecDepth 100000
set_option maxHeartbeats 4000000
namespace K17
open PySem PySem.Spec L2
/-! ### one sign, written tuples -/
abbrev sg (c : Nat) : Str := ⟨#[c]⟩
theorem sg_ne {c b : Nat} : (sg c = sg b) = (c = b) := by
  apply propext
  constructor
  · intro h
    have h1 := congrArg Str.cps h
    simpa using h1
  · rintro rfl
    rfl
theorem dec_sg {c b : Nat} : decide (V.str (sg c) = V.str (sg b)) = (c == b) := by
  by_cases h : c = b
  · subst h; simp
  · have h2 : ¬ (V.str (sg c) = V.str (sg b)) := fun z => h (by simpa [sg_ne] using V.str.inj z)
    rw [decide_eq_false h2]
    simp [h]
theorem eqV_sg {c b : Nat} : eqV (.str (sg b)) (.str (sg c)) = (c == b) := by
  by_cases h : c = b
  · subst h; simp [eqV]
  · have h2 : ¬ (sg b = sg c) := fun z => h (by simpa using ((sg_ne (c := b) (b := c)).mp z).symm)
    have h3 : (sg b == sg c) = false := by
      cases q : (sg b == sg c)
      · rfl
      · exact absurd (of_decide_eq_true (by simpa using q)) h2
    have h4 : (c == b) = false := by simpa using h
    show (sg b == sg c) = (c == b)
    rw [h3, h4]
theorem o91 : (Str.ofString "[") = sg 91 := by decide +kernel
theorem o93 : (Str.ofString "]") = sg 93 := by decide +kernel
theorem o40 : (Str.ofString "(") = sg 40 := by decide +kernel
theorem o41 : (Str.ofString ")") = sg 41 := by decide +kernel
theorem o42 : (Str.ofString "*") = sg 42 := by decide +kernel
theorem o124 : (Str.ofString "|") = sg 124 := by decide +kernel
theorem o97 : (Str.ofString "a") = sg 97 := by decide +kernel
theorem o122 : (Str.ofString "z") = sg 122 := by decide +kernel
theorem oE : (Str.ofString "") = ⟨#[]⟩ := by decide +kernel
def tLits : List V → TA
  | [] => tNil
  | v :: r => tCons (tC v) (tLits r)
theorem lits_eq : ∀ (vs : List V) (σ : L2.St) (H : Hp) (Q : List V → Hp → Prop), Q vs H → tLits vs σ H Q
  | [], _, _, _, h => h
  | _ :: r, σ, H, Q, h => lits_eq r σ H (fun xs H2 => Q (_ :: xs) H2) h
theorem in_lits {K : PySem.W.Frag} {te : TE} {σ : L2.St} {H : Hp} {v : V} {Q : VK} (vs : List V) (hv : Val te σ H v) (hf : flatV v = true) (ha : vs.all flatV = true) (hl : vs.length ≤ 1000) (h : ∀ H', Same H H' → Q (.bl (inV v vs)) H') :
    tOp (rIn K false) te (tTup (tLits vs)) σ H Q := by
  refine hv _ ?_
  refine lits_eq vs σ H _ ?_
  refine ⟨Nat.le_of_lt (small1000 hl), fun p hp => ?_⟩
  refine ⟨p, vs, rfl, Or.inr (SqT.of upd_same), hf, ha, ?_⟩
  show Q (.bl (if false = true then _ else inV v vs)) _
  rw [if_neg Bool.false_ne_true]
  exact h _ fun b o e => by
    rw [upd_ne (ne_of_none e hp)]
    exact e
theorem val_var' {σ : L2.St} {H : Hp} {i : Nat} {v : V} (h : σ[i]? = some (some v)) : Val (tVar i) σ H v := fun _ q => ⟨v, h, q⟩
/-! ### the scan -/
def isL (c : Nat) : Bool := decide (97 ≤ c) && decide (c ≤ 122)
def may (c : Nat) (top : Option Nat) : Bool :=
  if c = 124 then top == some 91 || top == some 124
  else if c = 93 then top == some 124
  else if c = 41 then top == some 40
  else isL c || (c == 91 || (c == 40 || c == 42))
def bad (c : Nat) (st : List Nat) (star : Bool) : Bool := ((c == 42) != star) || !may c st.getLast?
def push (c : Nat) (st : List Nat) : List Nat := (if c = 93 ∨ c = 41 ∨ c = 124 then st.dropLast else st) ++ (if c = 91 ∨ c = 40 ∨ c = 124 then [c] else [])
def scan : List Nat → Bool → Nat → List Nat → Option Nat
  | st, star, k, [] => if st ≠ [] ∨ star = true then some k else none
  | st, star, k, c :: r => if bad c st star = true then some k else scan (push c st) (c == 41) (k + 1) r
def place (l : List Nat) : Option Nat := scan [] false 0 l
def Brk (c : Nat) : Prop := c = 91 ∨ c = 40 ∨ c = 124
theorem List.mem_of_mem_dropLast' {α : Type} {x : α} {l : List α} (h : x ∈ l.dropLast) : x ∈ l := by
  rw [List.dropLast_eq_take] at h
  exact List.mem_of_mem_take h
theorem push_brk {c : Nat} {st : List Nat} (h : ∀ x ∈ st, Brk x) : ∀ x ∈ push c st, Brk x := by
  intro x hx
  unfold push at hx
  rcases List.mem_append.mp hx with q | q
  · split at q
    · exact h x (List.mem_of_mem_dropLast' q)
    · exact h x q
  · split at q
    · rw [List.mem_singleton.mp q]
      rename_i z
      exact z
    · cases q
theorem push_len {c : Nat} {st : List Nat} : (push c st).length ≤ st.length + 1 := by
  unfold push
  rw [List.length_append]
  split <;> split <;> simp [List.length_dropLast] <;> omega
def oV : Option Nat → V
  | none => .non
  | some k => .int (k : Int)
end K17
set_option Elab.async false
set_option linter.all false
set_option maxRecDepth 100000
namespace K17
open PySem PySem.Spec L2
abbrev cp (x : Str) : List Nat := x.cps.toList
theorem len_cp (x : Str) : x.length = (cp x).length := by
  show x.cps.size = _
  simp
theorem ends_sg (x : Str) (b : Nat) : Txt.endswith x (sg b) = ((cp x).getLast? == some b) := by
  unfold Txt.endswith
  rw [StrLaws.subAt_eq]
  have hl : (sg b).length = 1 := rfl
  have hb : (sg b).cps.toList = [b] := rfl
  rw [hl, hb, len_cp x]
  show (decide (0 + 1 ≤ (cp x).length) && (((cp x).drop ((cp x).length - 1)).take 1 == [b])) = _
  generalize cp x = l
  rcases List.eq_nil_or_concat l with h | ⟨r, a, h⟩
  · subst h; simp
  · subst h
    have e1 : (r ++ [a]).length - 1 = r.length := by simp
    rw [List.concat_eq_append, e1, List.drop_left]
    simp
end K17
namespace K17
open PySem PySem.Spec L2
def topS : Option Nat → Str
  | none => ⟨#[]⟩
  | some t => sg t
def prev (l : List Nat) (i : Nat) : Option Nat := if i = 0 then none else l[i - 1]?
theorem take_one {α : Type} : ∀ (l : List α) (i : Nat), (l.drop i).take 1 = l[i]?.toList
  | [], i => by simp
  | a :: l, 0 => by simp
  | a :: l, i + 1 => by
    rw [List.drop_succ_cons, take_one l i]
    simp
theorem cut_prev (x : Str) (i : Nat) (hi : i ≤ (cp x).length) : cutS x (some ((i : Int) - 1)) (some (i : Int)) = topS (prev (cp x) i) := by
  unfold cutS prev
  rw [HT.sIx_nat, len_cp x]
  show Str.mk (((cp x).drop _).take _).toArray = _
  generalize cp x = l at hi
  cases i with
  | zero =>
    rw [if_pos rfl]
    have e : min 0 l.length = 0 := by omega
    rw [e]
    simp [topS]
  | succ j =>
    rw [if_neg (Nat.succ_ne_zero j)]
    have e1 : HT.sIx l.length 0 (some (((j + 1 : Nat) : Int) - 1)) = j := by
      have : ((j + 1 : Nat) : Int) - 1 = (j : Int) := by omega
      rw [this, HT.sIx_nat]
      omega
    have e2 : min (j + 1) l.length - j = 1 := by omega
    rw [e1, e2, take_one]
    show _ = topS l[j]?
    cases l[j]? <;> rfl
end K17
set_option Elab.async false
set_option linter.all false
set_option maxRecDepth 100000
set_option maxHeartbeats 4000000
namespace K17
open PySem PySem.Spec L2
open PySem.W (Frag)
abbrev RBinds := @PyProof.Rows.Binds
def top (i : Nat) : Stmt := PySem.Challenge.pw_loomhold_k17_scripts_of_any_value.main.body.getD i (.Pass ⟨0, 0, 0, 0⟩)
abbrev s_is_script : Stmt := top 5
abbrev s_check_script : Stmt := top 6
abbrev s_breaking_place : Stmt := top 7
abbrev s_may_stand : Stmt := top 8
abbrev s_loop_depth : Stmt := top 9
abbrev s__law_deck : Stmt := top 11
abbrev s__law_draw : Stmt := top 12
abbrev s__law_pick : Stmt := top 13
abbrev s__law_place : Stmt := top 14
abbrev s__law_script : Stmt := top 15
abbrev s__law_long_script : Stmt := top 16
abbrev s__law_depth : Stmt := top 17
abbrev s__law_heard : Stmt := top 18
abbrev s__law_right : Stmt := top 19
abbrev s__law_other : Stmt := top 20
abbrev s_law : Stmt := top 21
theorem sc_is_script : FnScope ["thing"] ["thing"] (defScope s_is_script) := ⟨rfl, rfl, rfl, by decide +kernel, rfl, by decide +kernel, by decide +kernel⟩
theorem sc_check_script : FnScope ["text", "place"] ["text"] (defScope s_check_script) := ⟨rfl, rfl, rfl, by decide +kernel, rfl, by decide +kernel, by decide +kernel⟩
theorem sc_breaking_place : FnScope ["text", "waiting", "place", "sign", "top", "ahead"] ["text"] (defScope s_breaking_place) := ⟨rfl, rfl, rfl, by decide +kernel, rfl, by decide +kernel, by decide +kernel⟩
theorem sc_may_stand : FnScope ["sign", "top"] ["sign", "top"] (defScope s_may_stand) := ⟨rfl, rfl, rfl, by decide +kernel, rfl, by decide +kernel, by decide +kernel⟩
theorem sc_loop_depth : FnScope ["script", "depths", "sign"] ["script"] (defScope s_loop_depth) := ⟨rfl, rfl, rfl, by decide +kernel, rfl, by decide +kernel, by decide +kernel⟩
theorem sc__law_deck : FnScope ["_law_script_here", "_law_cells", "_law_mixed", "_law_cell"] ["_law_script_here"] (defScope s__law_deck) := ⟨rfl, rfl, rfl, by decide +kernel, rfl, by decide +kernel, by decide +kernel⟩
theorem sc__law_draw : FnScope ["_law_deck_here", "_law_below", "_law_turn_now", "_law_figure", "_law_cell"] ["_law_deck_here", "_law_below"] (defScope s__law_draw) := ⟨rfl, rfl, rfl, by decide +kernel, rfl, by decide +kernel, by decide +kernel⟩
theorem sc__law_pick : FnScope ["_law_deck_here", "_law_some"] ["_law_deck_here", "_law_some"] (defScope s__law_pick) := ⟨rfl, rfl, rfl, by decide +kernel, rfl, by decide +kernel, by decide +kernel⟩
theorem sc__law_place : FnScope ["_law_page", "_law_open_now", "_law_is_star", "_law_k", "_law_sign"] ["_law_page"] (defScope s__law_place) := ⟨rfl, rfl, rfl, by decide +kernel, rfl, by decide +kernel, by decide +kernel⟩
theorem sc__law_script : FnScope ["_law_deck_here", "_law_signs", "_law_deep", "_law_page", "_law_go", "_law_way", "_law_lots", "_law_k"] ["_law_deck_here", "_law_signs", "_law_deep"] (defScope s__law_script) := ⟨rfl, rfl, rfl, by decide +kernel, rfl, by decide +kernel, by decide +kernel⟩
theorem sc__law_long_script : FnScope ["_law_deck_here", "_law_signs", "_law_deep", "_law_page", "_law_go"] ["_law_deck_here", "_law_signs", "_law_deep"] (defScope s__law_long_script) := ⟨rfl, rfl, rfl, by decide +kernel, rfl, by decide +kernel, by decide +kernel⟩
theorem sc__law_depth : FnScope ["_law_page", "_law_open_now", "_law_most", "_law_sign"] ["_law_page"] (defScope s__law_depth) := ⟨rfl, rfl, rfl, by decide +kernel, rfl, by decide +kernel, by decide +kernel⟩
theorem sc__law_heard : FnScope ["_law_it", "_law_is_named", "_law_found", "e"] ["_law_it", "_law_is_named"] (defScope s__law_heard) := ⟨rfl, rfl, rfl, by decide +kernel, rfl, by decide +kernel, by decide +kernel⟩
theorem sc__law_right : FnScope ["_law_it", "_law_was", "_law_place_here", "_law_due", "_law_is_so"] ["_law_it"] (defScope s__law_right) := ⟨rfl, rfl, rfl, by decide +kernel, rfl, by decide +kernel, by decide +kernel⟩
theorem sc__law_other : FnScope ["_law_deck_here", "_law_page", "_law_go", "_law_at", "_law_way", "_law_some", "_law_sign"] ["_law_deck_here", "_law_page"] (defScope s__law_other) := ⟨rfl, rfl, rfl, by decide +kernel, rfl, by decide +kernel, by decide +kernel⟩
theorem sc_law : FnScope ["_law_script_here", "_law_deck_here", "_law_go", "_law_page", "_law_turn", "_law_far", "_law_k", "_law_odd", "_law_it"] ["_law_script_here"] (defScope s_law) := ⟨rfl, rfl, rfl, by decide +kernel, rfl, by decide +kernel, by decide +kernel⟩
structure Adr where
  f_is_script : Addr
  fd_is_script : FuncData
  f_check_script : Addr
  fd_check_script : FuncData
  f_breaking_place : Addr
  fd_breaking_place : FuncData
  f_may_stand : Addr
  fd_may_stand : FuncData
  f_loop_depth : Addr
  fd_loop_depth : FuncData
  f__law_deck : Addr
  fd__law_deck : FuncData
  f__law_draw : Addr
  fd__law_draw : FuncData
  f__law_pick : Addr
  fd__law_pick : FuncData
  f__law_place : Addr
  fd__law_place : FuncData
  f__law_script : Addr
  fd__law_script : FuncData
  f__law_long_script : Addr
  fd__law_long_script : FuncData
  f__law_depth : Addr
  fd__law_depth : FuncData
  f__law_heard : Addr
  fd__law_heard : FuncData
  f__law_right : Addr
  fd__law_right : FuncData
  f__law_other : Addr
  fd__law_other : FuncData
  f_law : Addr
  fd_law : FuncData
  c_LoomError : Addr
  c_BadScript : Addr
  i_BadScript : Addr
  t_LETTERS : Tok
structure Txt (K : Frag) (mg : Str → Option Value) (A : Adr) : Prop where
  F_is_script : Fun K "is_script" "is_script" s_is_script A.f_is_script A.fd_is_script
  m_is_script : mg "is_script" = some (.ref A.f_is_script)
  F_check_script : Fun K "check_script" "check_script" s_check_script A.f_check_script A.fd_check_script
  m_check_script : mg "check_script" = some (.ref A.f_check_script)
  F_breaking_place : Fun K "breaking_place" "breaking_place" s_breaking_place A.f_breaking_place A.fd_breaking_place
  m_breaking_place : mg "breaking_place" = some (.ref A.f_breaking_place)
  F_may_stand : Fun K "may_stand" "may_stand" s_may_stand A.f_may_stand A.fd_may_stand
  m_may_stand : mg "may_stand" = some (.ref A.f_may_stand)
  F_loop_depth : Fun K "loop_depth" "loop_depth" s_loop_depth A.f_loop_depth A.fd_loop_depth
  m_loop_depth : mg "loop_depth" = some (.ref A.f_loop_depth)
  F__law_deck : Fun K "_law_deck" "_law_deck" s__law_deck A.f__law_deck A.fd__law_deck
  m__law_deck : mg "_law_deck" = some (.ref A.f__law_deck)
  F__law_draw : Fun K "_law_draw" "_law_draw" s__law_draw A.f__law_draw A.fd__law_draw
  m__law_draw : mg "_law_draw" = some (.ref A.f__law_draw)
  F__law_pick : Fun K "_law_pick" "_law_pick" s__law_pick A.f__law_pick A.fd__law_pick
  m__law_pick : mg "_law_pick" = some (.ref A.f__law_pick)
  F__law_place : Fun K "_law_place" "_law_place" s__law_place A.f__law_place A.fd__law_place
  m__law_place : mg "_law_place" = some (.ref A.f__law_place)
  F__law_script : Fun K "_law_script" "_law_script" s__law_script A.f__law_script A.fd__law_script
  m__law_script : mg "_law_script" = some (.ref A.f__law_script)
  F__law_long_script : Fun K "_law_long_script" "_law_long_script" s__law_long_script A.f__law_long_script A.fd__law_long_script
  m__law_long_script : mg "_law_long_script" = some (.ref A.f__law_long_script)
  F__law_depth : Fun K "_law_depth" "_law_depth" s__law_depth A.f__law_depth A.fd__law_depth
  m__law_depth : mg "_law_depth" = some (.ref A.f__law_depth)
  F__law_heard : Fun K "_law_heard" "_law_heard" s__law_heard A.f__law_heard A.fd__law_heard
  m__law_heard : mg "_law_heard" = some (.ref A.f__law_heard)
  F__law_right : Fun K "_law_right" "_law_right" s__law_right A.f__law_right A.fd__law_right
  m__law_right : mg "_law_right" = some (.ref A.f__law_right)
  F__law_other : Fun K "_law_other" "_law_other" s__law_other A.f__law_other A.fd__law_other
  m__law_other : mg "_law_other" = some (.ref A.f__law_other)
  F_law : Fun K "law" "law" s_law A.f_law A.fd_law
  m_law : mg "law" = some (.ref A.f_law)
  n_enumerate : mg "enumerate" = none
  n_int : mg "int" = none
  n_isinstance : mg "isinstance" = none
  n_len : mg "len" = none
  n_list : mg "list" = none
  n_max : mg "max" = none
  n_range : mg "range" = none
  n_repr : mg "repr" = none
  n_str : mg "str" = none
  n_sum : mg "sum" = none
  c_LETTERS : mg "LETTERS" = some (.str "abcdefghijklmnopqrstuvwxyz" A.t_LETTERS)
  x_BadScript : PySem.XBadScript.Txt K mg A.c_BadScript A.i_BadScript
  g_LoomError : mg "LoomError" = some (.ref A.c_LoomError)
  e_BadScript : ExcC K A.c_BadScript
  te_BadScript : PySem.W.exmOne K (.ref A.c_BadScript) (.ref A.c_BadScript) = some true
  ki_BadScript : PySem.W.kitOne K (.ref A.c_BadScript) (.ref A.c_LoomError) = some true
section
variable {P : Program} {w : World} {K : Frag} {mg : Str → Option Value} {base : Heap} {A : Adr}
theorem Txt.b_is_script (T : Txt K mg A) : Binds K A.fd_is_script ["thing"] [] := T.F_is_script.binds (ps := ["thing"]) fun _ _ _ _ _ _ us hl => match us, hl with | [_], _ => rfl
theorem Txt.b_check_script (T : Txt K mg A) : Binds K A.fd_check_script ["text"] [] := T.F_check_script.binds (ps := ["text"]) fun _ _ _ _ _ _ us hl => match us, hl with | [_], _ => rfl
theorem Txt.b_breaking_place (T : Txt K mg A) : Binds K A.fd_breaking_place ["text"] [] := T.F_breaking_place.binds (ps := ["text"]) fun _ _ _ _ _ _ us hl => match us, hl with | [_], _ => rfl
theorem Txt.b_may_stand (T : Txt K mg A) : Binds K A.fd_may_stand ["sign", "top"] [] := T.F_may_stand.binds (ps := ["sign", "top"]) fun _ _ _ _ _ _ us hl => match us, hl with | [_, _], _ => rfl
theorem Txt.b_loop_depth (T : Txt K mg A) : Binds K A.fd_loop_depth ["script"] [] := T.F_loop_depth.binds (ps := ["script"]) fun _ _ _ _ _ _ us hl => match us, hl with | [_], _ => rfl
theorem Txt.b__law_deck (T : Txt K mg A) : Binds K A.fd__law_deck ["_law_script_here"] [] := T.F__law_deck.binds (ps := ["_law_script_here"]) fun _ _ _ _ _ _ us hl => match us, hl with | [_], _ => rfl
theorem Txt.b__law_draw (T : Txt K mg A) : Binds K A.fd__law_draw ["_law_deck_here", "_law_below"] [] := T.F__law_draw.binds (ps := ["_law_deck_here", "_law_below"]) fun _ _ _ _ _ _ us hl => match us, hl with | [_, _], _ => rfl
theorem Txt.b__law_pick (T : Txt K mg A) : Binds K A.fd__law_pick ["_law_deck_here", "_law_some"] [] := T.F__law_pick.binds (ps := ["_law_deck_here", "_law_some"]) fun _ _ _ _ _ _ us hl => match us, hl with | [_, _], _ => rfl
theorem Txt.b__law_place (T : Txt K mg A) : Binds K A.fd__law_place ["_law_page"] [] := T.F__law_place.binds (ps := ["_law_page"]) fun _ _ _ _ _ _ us hl => match us, hl with | [_], _ => rfl
theorem Txt.b__law_script (T : Txt K mg A) : Binds K A.fd__law_script ["_law_deck_here", "_law_signs", "_law_deep"] [] := T.F__law_script.binds (ps := ["_law_deck_here", "_law_signs", "_law_deep"]) fun _ _ _ _ _ _ us hl => match us, hl with | [_, _, _], _ => rfl
theorem Txt.b__law_long_script (T : Txt K mg A) : Binds K A.fd__law_long_script ["_law_deck_here", "_law_signs", "_law_deep"] [] := T.F__law_long_script.binds (ps := ["_law_deck_here", "_law_signs", "_law_deep"]) fun _ _ _ _ _ _ us hl => match us, hl with | [_, _, _], _ => rfl
theorem Txt.b__law_depth (T : Txt K mg A) : Binds K A.fd__law_depth ["_law_page"] [] := T.F__law_depth.binds (ps := ["_law_page"]) fun _ _ _ _ _ _ us hl => match us, hl with | [_], _ => rfl
theorem Txt.b__law_heard (T : Txt K mg A) : Binds K A.fd__law_heard ["_law_it", "_law_is_named"] [] := T.F__law_heard.binds (ps := ["_law_it", "_law_is_named"]) fun _ _ _ _ _ _ us hl => match us, hl with | [_, _], _ => rfl
theorem Txt.b__law_right (T : Txt K mg A) : Binds K A.fd__law_right ["_law_it"] [] := T.F__law_right.binds (ps := ["_law_it"]) fun _ _ _ _ _ _ us hl => match us, hl with | [_], _ => rfl
theorem Txt.b__law_other (T : Txt K mg A) : Binds K A.fd__law_other ["_law_deck_here", "_law_page"] [] := T.F__law_other.binds (ps := ["_law_deck_here", "_law_page"]) fun _ _ _ _ _ _ us hl => match us, hl with | [_, _], _ => rfl
theorem Txt.b_law (T : Txt K mg A) : Binds K A.fd_law ["_law_script_here"] [] := T.F_law.binds (ps := ["_law_script_here"]) fun _ _ _ _ _ _ us hl => match us, hl with | [_], _ => rfl
end
end K17
set_option Elab.async false
set_option linter.all false
set_option maxRecDepth 100000
set_option maxHeartbeats 4000000
namespace K17
open PySem PySem.Spec L2
open PySem.W (Frag)
section
variable {P : Program} {w : World} {K : Frag} {mg : Str → Option Value} {base : Heap} {A : Adr}

def spMay : Sp := fun vs H Q _ => ∃ c top, vs = [.str (sg c), .str (topS top)] ∧ ∀ H', Same H H' → Q (.bl (may c top)) H'
theorem topS_eq {top : Option Nat} {b : Nat} : decide (V.str (topS top) = V.str (sg b)) = (top == some b) := by
  cases top with
  | none =>
    have h : ¬ (V.str (topS none) = V.str (sg b)) := fun z => by
      have z1 := congrArg Array.size (congrArg Str.cps (V.str.inj z))
      simp [topS] at z1
    rw [decide_eq_false h]
    rfl
  | some t =>
    show decide (V.str (sg t) = V.str (sg b)) = _
    rw [dec_sg]
    rfl
theorem eqV_top {top : Option Nat} {b : Nat} : eqV (.str (sg b)) (.str (topS top)) = (top == some b) := by
  cases top with
  | none =>
    show (sg b == (⟨#[]⟩ : Str)) = false
    cases z : (sg b == (⟨#[]⟩ : Str))
    · rfl
    · have z2 : sg b = (⟨#[]⟩ : Str) := by simpa using z
      have z1 := congrArg Array.size (congrArg Str.cps z2)
      simp at z1
  | some t =>
    show eqV (.str (sg b)) (.str (sg t)) = _
    rw [eqV_sg]
    rfl
theorem letters_in {c : Nat} : decide (c ∈ (Str.ofString "abcdefghijklmnopqrstuvwxyz").cps.toList) = isL c := by
  have e : (Str.ofString "abcdefghijklmnopqrstuvwxyz").cps.toList = [97, 98, 99, 100, 101, 102, 103, 104, 105, 106, 107, 108, 109, 110, 111, 112, 113, 114, 115, 116, 117, 118, 119, 120, 121, 122] := by decide +kernel
  rw [e]
  unfold isL
  rw [← Bool.decide_and]
  refine decide_eq_decide.mpr ?_
  simp only [List.mem_cons, List.not_mem_nil, or_false]
  omega
theorem ok_may_stand (T : Txt K mg A) : FnG P w K mg base 1 A.f_may_stand A.fd_may_stand ["sign", "top"] (spMay) := by
  refine T.F_may_stand.okG sc_may_stand (fun vs H Q E h => ?_) (fun cdv A0 outer s H vs Q E hr hgd0 h => ?_)
  · obtain ⟨c, top, rfl, _⟩ := h
    rfl
  · have hgd := hgd0
    obtain ⟨c, top, rfl, kQ⟩ := h
    refine ⟨_, (pss_cons (ps_if (pt_cmpR op_eq (pv 0) pe_str (nomark _))
  (pss_one (ps_ret (pe_cmpR op_in_seq (pv 1) (pe_tup (pa_cons pe_str (pa_cons pe_str pa_nil))) (by rfl))))
  pss_nil)
  (pss_cons (ps_if (pt_cmpR op_eq (pv 0) pe_str (nomark _))
  (pss_one (ps_ret (pe_cmpR op_eq (pv 1) pe_str (nomark _))))
  pss_nil)
  (pss_cons (ps_if (pt_cmpR op_eq (pv 0) pe_str (nomark _))
  (pss_one (ps_ret (pe_cmpR op_eq (pv 1) pe_str (nomark _))))
  pss_nil)
  (pss_one (ps_ret (pe_or (pe_cmpR op_in_sign (pv 0) (pe_glob (v := .str _) rfl T.c_LETTERS ⟨_, rfl⟩) rfl) (pe_one (pe_cmpR op_in_seq (pv 0) (pe_tup (pa_cons pe_str (pa_cons pe_str (pa_cons pe_str pa_nil)))) (by rfl))))))))), ?_⟩
    refine ⟨_, rfl, rfl, _, rfl, ?_⟩
    rw [o124, dec_sg]
    refine ite2 (fun h1 => ?_) (fun h1 => ?_)
    · refine in_lits [.str "[", .str "|"] (val_var' rfl) rfl rfl (by decide) fun H' hs => ?_
      have e : may c top = inV (.str (topS top)) [.str "[", .str "|"] := by
        have h2 : c = 124 := by simpa using h1
        unfold may inV
        rw [o91, o124, if_pos h2]
        simp [eqV_top]
      rw [← e]
      exact kQ _ hs
    refine ⟨_, rfl, rfl, _, rfl, ?_⟩
    rw [o93, dec_sg]
    refine ite2 (fun h2 => ?_) (fun h2 => ?_)
    · refine ⟨_, rfl, rfl, ?_⟩
      have e : may c top = (top == some 124) := by
        have h1' : ¬ c = 124 := by simpa using h1
        have h2' : c = 93 := by simpa using h2
        unfold may
        rw [if_neg h1', if_pos h2']
      show Q (V.bl (decide (V.str (topS top) = V.str (sg 124)))) H
      rw [topS_eq, ← e]
      exact kQ _ (Same.refl _)
    refine ⟨_, rfl, rfl, _, rfl, ?_⟩
    rw [o41, dec_sg]
    refine ite2 (fun h3 => ?_) (fun h3 => ?_)
    · refine ⟨_, rfl, rfl, ?_⟩
      have e : may c top = (top == some 40) := by
        have h1' : ¬ c = 124 := by simpa using h1
        have h2' : ¬ c = 93 := by simpa using h2
        have h3' : c = 41 := by simpa using h3
        unfold may
        rw [if_neg h1', if_neg h2', if_pos h3']
      show Q (V.bl (decide (V.str (topS top) = V.str (Str.ofString "(")))) H
      rw [o40, topS_eq, ← e]
      exact kQ _ (Same.refl _)
    have h1' : ¬ c = 124 := by simpa using h1
    have h2' : ¬ c = 93 := by simpa using h2
    have h3' : ¬ c = 41 := by simpa using h3
    have e : may c top = (isL c || (c == 91 || (c == 40 || c == 42))) := by
      unfold may
      rw [if_neg h1', if_neg h2', if_neg h3']
    refine ⟨_, rfl, c, _, rfl, rfl, _, rfl, ?_⟩
    rw [letters_in]
    cases hL : isL c with
    | true =>
      refine iteT ?_
      rw [hL, Bool.true_or] at e
      rw [← e]
      exact kQ _ (Same.refl _)
    | false =>
      refine iteF ?_
      refine in_lits [.str "[", .str "(", .str "*"] (val_var' rfl) rfl rfl (by decide) fun H' hs => ?_
      have e2 : inV (.str (sg c)) [.str "[", .str "(", .str "*"] = (c == 91 || (c == 40 || c == 42)) := by
        unfold inV
        rw [o91, o40, o42]
        simp [eqV_sg]
      rw [e2]
      rw [hL, Bool.false_or] at e
      rw [← e]
      exact kQ _ hs

end
end K17
set_option Elab.async false
set_option linter.all false
set_option maxRecDepth 100000
set_option maxHeartbeats 4000000
namespace K17
open PySem PySem.Spec L2
open PySem.W (Frag)
section
variable {P : Program} {w : World} {K : Frag} {mg : Str → Option Value} {base : Heap} {A : Adr}

def sgs (st : List Nat) : List V := st.map fun c => .str (sg c)
theorem sgs_len (st : List Nat) : (sgs st).length = st.length := List.length_map ..
theorem sgs_last {st : List Nat} {t : Nat} (h : st.getLast? = some t) : atI (sgs st) (-1) = some (.str (sg t)) := by
  rcases List.eq_nil_or_concat st with e | ⟨r, a, e⟩
  · subst e; cases h
  · subst e
    rw [List.concat_eq_append] at h ⊢
    have e2 : a = t := by simpa using h
    subst e2
    have e3 : sgs (r ++ [a]) = sgs r ++ [.str (sg a)] := by simp [sgs]
    rw [e3]
    exact atI_last _ _

theorem sgs_app (st : List Nat) (c : Nat) : sgs st ++ [V.str (sg c)] = sgs (st ++ [c]) := by simp [sgs]
theorem sgs_drop (st : List Nat) : (sgs st).dropLast = sgs st.dropLast := by
  unfold sgs
  rw [List.map_dropLast]
theorem sgs_end {st : List Nat} {t : Nat} (h : st.getLast? = some t) : (sgs st)[(sgs st).length - 1]? = some (.str (sg t)) := by
  unfold sgs
  rw [List.length_map, List.getElem?_map, ← List.getLast?_eq_getElem?, h]
  rfl
theorem top_of_may {c : Nat} {top : Option Nat} (h : may c top = true) (hc : c = 93 ∨ c = 41 ∨ c = 124) : ∃ t, top = some t := by
  cases top with
  | some t => exact ⟨t, rfl⟩
  | none =>
    unfold may at h
    rcases hc with rfl | rfl | rfl <;> simp at h
theorem in_pop {c : Nat} : inV (.str (sg c)) [.str "]", .str ")", .str "|"] = (c == 93 || (c == 41 || c == 124)) := by
  unfold inV
  rw [o93, o41, o124]
  simp [eqV_sg]
theorem in_app {c : Nat} : inV (.str (sg c)) [.str "[", .str "(", .str "|"] = (c == 91 || (c == 40 || c == 124)) := by
  unfold inV
  rw [o91, o40, o124]
  simp [eqV_sg]
/-- waiting[-1] if waiting else '' -/
theorem val_top {σ : L2.St} {H : Hp} {i : Nat} {p : Addr} {st : List Nat} (hi : σ[i]? = some (some (.ref p))) (hp : H p = some (.lst (sgs st))) :
    Val (tIf (fun σ H Q => tVar i σ H fun x H' => ∃ k, TruV K x H' k ∧ Q k H') (tOp (rIxL K) (tVar i) (tUn (rU fun i => .int (-i)) (tC (.int 1)))) (tC (.str ""))) σ H (.str (topS st.getLast?)) := by
  intro Q hq
  refine ⟨_, hi, _, Or.inl ⟨_, SqL.of hp, rfl⟩, ?_⟩
  cases h : st.getLast? with
  | none =>
    have e : st = [] := by simpa using h
    subst e
    show Q (.str "") H
    rw [h] at hq
    have e2 : (Str.ofString "") = topS none := oE
    show Q (.str (Str.ofString "")) H
    rw [e2]
    exact hq
  | some t =>
    rw [h] at hq
    have e : (!(sgs st).isEmpty) = true := by
      cases st with
      | nil => cases h
      | cons a r => rfl
    rw [e]
    refine iteT ?_
    refine ⟨_, hi, 1, rfl, p, sgs st, -1, _, rfl, rfl, SqL.of hp, sgs_last h, hq⟩
def spBrk : Sp := fun vs H Q _ => ∃ x, vs = [.str x] ∧ x.length ≤ 100000 ∧ ∀ H', Same H H' → Q (oV (place (cp x))) H'
def starAt (l : List Nat) (i : Nat) : Bool := prev l i == some 41
theorem starAt_succ {l : List Nat} {i c : Nat} (h : l[i]? = some c) : starAt l (i + 1) = (c == 41) := by
  unfold starAt prev
  rw [if_neg (Nat.succ_ne_zero i), Nat.add_sub_cancel, h]
  rfl
theorem drop_at {l : List Nat} {i c : Nat} (h : l[i]? = some c) : l.drop i = c :: l.drop (i + 1) := by
  obtain ⟨hl, e⟩ := List.getElem?_eq_some_iff.mp h
  rw [← e]
  exact List.drop_eq_getElem_cons hl
theorem get_cp {x : Str} {i c : Nat} (h : x.cps[i]? = some c) : (cp x)[i]? = some c := by
  show x.cps.toList[i]? = some c
  rw [Array.getElem?_toList]
  exact h
theorem ok_breaking_place (T : Txt K mg A) : FnG P w K mg base 2 A.f_breaking_place A.fd_breaking_place ["text"] (spBrk) := by
  refine T.F_breaking_place.okG sc_breaking_place (fun vs H Q E h => ?_) (fun cdv A0 outer s H vs Q E hr hgd0 h => ?_)
  · obtain ⟨x, rfl, _⟩ := h
    rfl
  · have hgd := hgd0
    obtain ⟨x, rfl, hx, kQ⟩ := h
    have hr1 : Room 1 _ := hr
    have G_may_stand : FnG P w K mg base 1 A.f_may_stand A.fd_may_stand ["sign", "top"] spMay := ok_may_stand T
    refine ⟨_, (pss_cons (ps_set (i := 1) sc_breaking_place.nd rfl (Or.inl rfl) (pe_lst pa_nil))
  (pss_cons (ps_for PassesOwn.never rfl (pi_enumS (by rfl) T.n_enumerate (by exact (pa_cons (pv 0) pa_nil))) (pg_tup (by rfl) (pgs_cons (pg_name (i := 2) sc_breaking_place.nd rfl (Or.inl rfl)) (pgs_cons (pg_name (i := 3) sc_breaking_place.nd rfl (Or.inl rfl)) pgs_nil)))
  (pss_cons (ps_set (i := 4) sc_breaking_place.nd rfl (Or.inl rfl) (pe_ifExp (pt_truth (pv 1) (by intro _; rfl)) (pe_ix ix_list (pv 1) (pe_un un_neg pe_int) (fun _ _ => rfl)) pe_str))
  (pss_cons (ps_set (i := 5) sc_breaking_place.nd rfl (Or.inl rfl) (pe_slice sl_str (pv 0) (po_some (pe_op op_sub (pv 2) pe_int)) (po_some (pv 2))))
  (pss_cons (ps_if (PW.pt (pw_or (pt_cmpR op_ne (pe_cmpR op_eq (pv 3) pe_str (nomark _)) (pe_cmpR op_eq (pv 5) pe_str (nomark _)) (nomark _)) (pw_or1 (pt_not (pt_val (pe_callG G_may_stand (hr.mono (by first | decide | omega)) hgd rfl T.m_may_stand T.F_may_stand.kp T.b_may_stand .nil noX (by exact (pa_cons (pv 3) (pa_cons (pv 4) pa_nil)))))))))
  (pss_one (ps_ret (pv 2)))
  pss_nil)
  (pss_cons (ps_if (pt_cmpR op_in_seq (pv 3) (pe_tup (pa_cons pe_str (pa_cons pe_str (pa_cons pe_str pa_nil)))) (by rfl))
  (pss_one (ps_expr (pe_bm0 PySem.F.plainAttrs_list PySem.F.slot_list_pop PySem.F.type_list_pop mt_pop (pv 1))))
  pss_nil)
  (pss_one (ps_if (pt_cmpR op_in_seq (pv 3) (pe_tup (pa_cons pe_str (pa_cons pe_str (pa_cons pe_str pa_nil)))) (by rfl))
  (pss_one (ps_expr (pe_bm PySem.F.plainAttrs_list PySem.F.slot_list_append PySem.F.type_list_append mt_append (pv 1) (pa_cons (pv 3) pa_nil))))
  pss_nil)))))))
  (pss_one (ps_ret (pe_ifExp (PW.pt (pw_or (pt_truth (pv 1) (by intro _; rfl)) (pw_or1 (pt_val (pe_m1 PySem.F.slot_str_endswith PySem.F.type_str_endswith mt_endswith (pv 0) pe_str))))) (pe_callB (call_len_str) (by rfl) T.n_len (by decide +kernel) (by exact (pa_cons (pv 0) pa_nil))) pe_non))))), ?_⟩
    refine ⟨Nat.zero_le _, fun p np => ?_⟩
    have s0 : Same H (upd H p (.lst [])) := fun b o e => by rw [upd_ne (ne_of_none e np)]; exact e
    refine ⟨_, rfl, x, rfl, ?_⟩
    refine for_it walk_enumS (fun i σ H' => ∃ (st : List Nat) (v2 v3 v4 v5 : Option V), σ = [some (.str x), some (.ref p), v2, v3, v4, v5] ∧ Same H H' ∧ H' p = some (.lst (sgs st)) ∧
      place (cp x) = scan st (starAt (cp x) i) i ((cp x).drop i) ∧ (∀ b ∈ st, Brk b) ∧ st.length ≤ i ∧ i ≤ (cp x).length)
      ⟨[], none, none, none, none, rfl, s0, upd_same, rfl, (fun b hb => by cases hb), Nat.le_refl _, Nat.zero_le _⟩ (fun _ _ _ _ _ => trivial) ?_ ?_
    · rintro i y σ H1 H2 hi ⟨st, v2, v3, v4, v5, rfl, s1, hp, hsc, hb, hl, hix⟩ ⟨T1, c, rfl, nT, hc, rfl⟩
      have hc' := get_cp hc
      have hlen : i < (cp x).length := (List.getElem?_eq_some_iff.mp hc').1
      have hbig : (cp x).length ≤ 100000 := by rw [← len_cp]; exact hx
      have npT : p ≠ T1 := ne_of_none hp nT
      have hp2 : (upd H1 T1 (.tup [.int (i : Nat), .str ⟨#[c]⟩])) p = some (.lst (sgs st)) := by rw [upd_ne npT]; exact hp
      have hT2 : (upd H1 T1 (.tup [.int (i : Nat), .str ⟨#[c]⟩])) T1 = some (.tup [.int (i : Nat), .str ⟨#[c]⟩]) := upd_same
      have s2 : Same H (upd H1 T1 (.tup [.int (i : Nat), .str ⟨#[c]⟩])) := fun b o e => by
        rw [upd_ne (ne_of_none (s1 b o e) nT)]
        exact s1 b o e
      generalize (upd H1 T1 (.tup [.int (i : Nat), .str ⟨#[c]⟩])) = H2 at hp2 s2 hT2
      rw [drop_at hc'] at hsc
      refine ⟨T1, _, rfl, SqT.of hT2, rfl, _, _, rfl, _, _, rfl, rfl, ?_⟩
      -- top, ahead
      refine val_top rfl hp2 _ ?_
      refine ⟨_, rfl, _, rfl, _, _, rfl, rfl, _, rfl, _, rfl, _, rfl, _, rfl, Nat.le_trans hx (by decide), ?_⟩
      rw [cut_prev x i hix]
      -- the first test
      refine ⟨_, rfl, rfl, _, rfl, rfl, rfl, _, rfl, ?_⟩
      rw [o42, o41, dec_sg, topS_eq, L2.dec_bl]
      cases hA : ((c == 42) == (prev (cp x) i == some 41)) with
      | false =>
        refine iteT (iteT ?_)
        refine ⟨_, rfl, ?_⟩
        have e : place (cp x) = some i := by
          rw [hsc]
          unfold scan bad starAt
          have : ((c == 42) != (prev (cp x) i == some 41)) = true := by
            rw [bne, hA]
            rfl
          rw [this, Bool.true_or, if_pos rfl]
        have k := kQ _ s2
        rw [e] at k
        exact k
      | true =>
        refine iteF ?_
        refine ⟨_, rfl, _, rfl, c, st.getLast?, rfl, fun H3 s3 => ⟨_, rfl, ?_⟩⟩
        have e0 : ((c == 42) != (prev (cp x) i == some 41)) = false := by
          rw [bne, hA]
          rfl
        have s4 := s2.trans s3
        have hp3 := s3 p _ hp2
        cases hm : may c st.getLast? with
        | false =>
          refine iteT ?_
          refine ⟨_, rfl, ?_⟩
          have e : place (cp x) = some i := by
            rw [hsc]
            unfold scan bad starAt
            rw [e0, hm, Bool.false_or, Bool.not_false, if_pos rfl]
          have k := kQ _ s4
          rw [e] at k
          exact k
        | true =>
          refine iteF ?_
          have hbad : bad c st (starAt (cp x) i) = false := by
            unfold bad starAt
            rw [e0, hm]
            rfl
          have hnext : place (cp x) = scan (push c st) (starAt (cp x) (i + 1)) (i + 1) ((cp x).drop (i + 1)) := by
            rw [hsc, starAt_succ hc']
            show (if bad c st (starAt (cp x) i) = true then some i else _) = _
            rw [hbad, if_neg Bool.false_ne_true]
          have hpb := push_brk (c := c) hb
          have hpl := push_len (c := c) (st := st)
          refine in_lits [.str "]", .str ")", .str "|"] (val_var' rfl) rfl rfl (by decide) fun H4 s5 => ⟨_, rfl, ?_⟩
          have hp4 := s5 p _ hp3
          have s6 := s4.trans s5
          rw [in_pop]
          refine ite2 (fun hpop => ?_) (fun hpop => ?_)
          · have hpop' : c = 93 ∨ c = 41 ∨ c = 124 := by simpa [Bool.or_eq_true] using hpop
            obtain ⟨t, ht⟩ := top_of_may hm hpop'
            refine ⟨_, rfl, .inl ⟨rfl, _, SqL.of hp4⟩, p, sgs st, _, rfl, rfl, hp4, sgs_end ht, ?_⟩
            rw [sgs_drop]
            refine in_lits [.str "[", .str "(", .str "|"] (val_var' rfl) rfl rfl (by decide) fun H5 s7 => ⟨_, rfl, ?_⟩
            have hp5 := s7 p _ upd_same
            have s8 : Same H H5 := fun b o e => s7 b o (by rw [upd_ne (ne_of_none e np)]; exact s6 b o e)
            rw [in_app]
            refine ite2 (fun happ => ?_) (fun happ => ?_)
            · have happ' : c = 91 ∨ c = 40 ∨ c = 124 := by simpa [Bool.or_eq_true] using happ
              refine ⟨_, rfl, .inl ⟨rfl, _, SqL.of hp5⟩, _, rfl, p, _, _, rfl, rfl, hp5, ?_, ?_⟩
              · rw [sgs_len, List.length_dropLast]
                exact Nat.lt_of_le_of_lt (show st.length - 1 ≤ 100000 by omega) (by decide)
              refine ⟨push c st, _, _, _, _, rfl, fun b o e => ?_, ?_, hnext, hpb, by omega, by omega⟩
              · rw [upd_ne (ne_of_none e np)]
                exact s8 b o e
              · rw [upd_same]
                unfold push
                rw [if_pos hpop', if_pos happ', sgs_app]
            · have happ' : ¬ (c = 91 ∨ c = 40 ∨ c = 124) := by simpa [Bool.or_eq_true] using happ
              refine ⟨push c st, _, _, _, _, rfl, s8, ?_, hnext, hpb, by omega, by omega⟩
              rw [hp5]
              unfold push
              rw [if_pos hpop', if_neg happ', List.append_nil]
          · have hpop' : ¬ (c = 93 ∨ c = 41 ∨ c = 124) := by simpa [Bool.or_eq_true] using hpop
            refine in_lits [.str "[", .str "(", .str "|"] (val_var' rfl) rfl rfl (by decide) fun H5 s7 => ⟨_, rfl, ?_⟩
            have hp5 := s7 p _ hp4
            have s8 := s6.trans s7
            rw [in_app]
            refine ite2 (fun happ => ?_) (fun happ => ?_)
            · have happ' : c = 91 ∨ c = 40 ∨ c = 124 := by simpa [Bool.or_eq_true] using happ
              refine ⟨_, rfl, .inl ⟨rfl, _, SqL.of hp5⟩, _, rfl, p, _, _, rfl, rfl, hp5, ?_, ?_⟩
              · rw [sgs_len]
                exact Nat.lt_of_le_of_lt (show st.length ≤ 100000 by omega) (by decide)
              refine ⟨push c st, _, _, _, _, rfl, fun b o e => ?_, ?_, hnext, hpb, by omega, by omega⟩
              · rw [upd_ne (ne_of_none e np)]
                exact s8 b o e
              · rw [upd_same]
                unfold push
                rw [if_neg hpop', if_pos happ', sgs_app]
            · have happ' : ¬ (c = 91 ∨ c = 40 ∨ c = 124) := by simpa [Bool.or_eq_true] using happ
              refine ⟨push c st, _, _, _, _, rfl, s8, ?_, hnext, hpb, by omega, by omega⟩
              rw [hp5]
              unfold push
              rw [if_neg hpop', if_neg happ', List.append_nil]
    · rintro σ H' ⟨st, v2, v3, v4, v5, rfl, s1, hp, hsc, hb, hl, hix⟩
      have hn : x.cps.size = (cp x).length := len_cp x
      have hlast : starAt (cp x) x.cps.size = ((cp x).getLast? == some 41) := by
        rw [hn]
        unfold starAt prev
        cases h : (cp x).length with
        | zero =>
          have : cp x = [] := List.eq_nil_of_length_eq_zero h
          rw [this]
          rfl
        | succ n =>
          rw [if_neg (Nat.succ_ne_zero n), List.getLast?_eq_getElem?, h]
      have hd : (cp x).drop x.cps.size = [] := by rw [hn]; exact List.drop_length
      rw [hd, hlast] at hsc
      refine ⟨_, rfl, _, Or.inl ⟨_, SqL.of hp, rfl⟩, ?_⟩
      have k := kQ _ s1
      cases st with
      | cons a r =>
        refine iteT (iteT ?_)
        refine ⟨_, rfl, x, rfl, Nat.le_trans hx (by decide), ?_⟩
        have e : place (cp x) = some x.length := by
          rw [hsc]
          show (if _ then some x.cps.size else none) = some x.cps.size
          rw [if_pos (Or.inl (List.cons_ne_nil a r))]
        rw [e] at k
        exact k
      | nil =>
        refine iteF ?_
        refine ⟨_, rfl, ⟨x, rfl⟩, x, _, rfl, rfl, _, rfl, ?_⟩
        rw [o41, ends_sg]
        cases hs : ((cp x).getLast? == some 41) with
        | true =>
          refine iteT ?_
          refine ⟨_, rfl, x, rfl, Nat.le_trans hx (by decide), ?_⟩
          have e : place (cp x) = some x.length := by
            rw [hsc, hs]
            show (if _ then some x.cps.size else none) = some x.cps.size
            rw [if_pos (Or.inr rfl)]
          rw [e] at k
          exact k
        | false =>
          refine iteF ?_
          have e : place (cp x) = none := by
            rw [hsc, hs]
            show (if _ then some x.cps.size else none) = none
            rw [if_neg (by simp)]
          rw [e] at k
          exact k

end
end K17
set_option Elab.async false
set_option linter.all false
set_option maxRecDepth 100000
set_option maxHeartbeats 4000000
namespace K17
open PySem PySem.Spec L2
open PySem.W (Frag)
section
variable {P : Program} {w : World} {K : Frag} {mg : Str → Option Value} {base : Heap} {A : Adr}

/-- any value that is asked: a text that is not too long, or what is no text -/
def Asked (K : Frag) (H : Hp) (v : V) : Prop := (∃ x : Str, v = .str x ∧ x.length ≤ 100000) ∨ NotStr K H v
def placeV : V → Option Nat
  | .str x => place (cp x)
  | _ => some 0
theorem notStr_ne {K : Frag} {H : Hp} {x : Str} (h : NotStr K H (.str x)) : False := by
  obtain ⟨t, h1, h2⟩ := h
  cases h1 with
  | base b =>
    cases b
    have : PySem.W.kitOne K (.type "str") (.type "str") = some true := kit_ty (by decide +kernel)
    rw [this] at h2
    cases h2
theorem placeV_not {K : Frag} {H : Hp} {v : V} (h : NotStr K H v) : placeV v = some 0 := by
  cases v with
  | str x => exact (notStr_ne h).elim
  | _ => rfl
def spIs (K : Frag) : Sp := fun vs H Q _ => ∃ v, vs = [v] ∧ Asked K H v ∧ ∀ H', Same H H' → Q (.bl (placeV v == none)) H'
/-- what check_script tells: None, or the place (-1 for what is no text) -/
def chk : V → Option Int
  | .str x => (place (cp x)).map Int.ofNat
  | _ => some (-1)
theorem chk_not {K : Frag} {H : Hp} {v : V} (h : NotStr K H v) : chk v = some (-1) := by
  cases v with
  | str x => exact (notStr_ne h).elim
  | _ => rfl
def spChk (K : Frag) (C : Addr) : Sp := fun vs H Q E => ∃ v, vs = [v] ∧ Asked K H v ∧ (chk v = none → ∀ H', Same H H' → Q .non H') ∧
  (∀ k, chk v = some k → ∀ H' d, Same H H' → H' d = none → E (.ref C) (some d) (upd H' d (.xd [("place", .int k)])))
theorem ok_is_script (T : Txt K mg A) : FnG P w K mg base 3 A.f_is_script A.fd_is_script ["thing"] (spIs K) := by
  refine T.F_is_script.okG sc_is_script (fun vs H Q E h => ?_) (fun cdv A0 outer s H vs Q E hr hgd0 h => ?_)
  · obtain ⟨v, rfl, _⟩ := h
    rfl
  · have hgd := hgd0
    obtain ⟨v, rfl, hv, kQ⟩ := h
    have G_breaking_place : FnG P w K mg base 2 A.f_breaking_place A.fd_breaking_place ["text"] spBrk := ok_breaking_place T
    refine ⟨_, (pss_one (ps_ret (pe_and (pe_callB (call_isi) (by rfl) T.n_isinstance (by decide +kernel) (by exact (pa_cons (pv 0) (pa_cons (pe_bltn (v := .ty "str") (u := .type "str") (by rfl) T.n_str (by decide +kernel) rfl) pa_nil)))) (pe_one (pe_cmpR op_isN (pe_callG G_breaking_place (hr.mono (by first | decide | omega)) hgd rfl T.m_breaking_place T.F_breaking_place.kp T.b_breaking_place .nil noX (by exact (pa_cons (pv 0) pa_nil))) pe_non (nomark _)))))), ?_⟩
    refine ⟨_, rfl, ?_⟩
    rcases hv with ⟨x, rfl, hx⟩ | hv
    · refine ⟨_, _, .type "str", .type "str", true, rfl, .ty _, .base (.str x), kit_ty (by decide +kernel), ?_⟩
      refine ⟨_, rfl, ?_⟩
      refine iteT ?_
      refine ⟨_, rfl, x, rfl, hx, fun H' hs => ?_⟩
      refine ⟨rfl, ?_⟩
      have e : decide (oV (place (cp x)) = .non) = (placeV (.str x) == none) := by
        show _ = (place (cp x) == none)
        cases place (cp x) with
        | none => rfl
        | some k => rfl
      rw [e]
      exact kQ _ hs
    · obtain ⟨tv, hv1, hv2⟩ := id hv
      refine ⟨_, _, tv, .type "str", false, rfl, .ty _, hv1, hv2, ?_⟩
      refine ⟨_, rfl, ?_⟩
      refine iteF ?_
      have k := kQ _ (Same.refl _)
      rw [placeV_not hv] at k
      exact k

theorem ok_check_script (T : Txt K mg A) : FnG P w K mg base 3 A.f_check_script A.fd_check_script ["text"] (spChk K A.c_BadScript) := by
  refine T.F_check_script.okXG sc_check_script (fun vs H Q E h => ?_) (fun cdv A0 outer s H vs Q E hr hgd0 h => ?_)
  · obtain ⟨v, rfl, _⟩ := h
    rfl
  · have hgd := hgd0
    obtain ⟨v, rfl, hv, kN, kE⟩ := h
    have G_breaking_place : FnG P w K mg base 2 A.f_breaking_place A.fd_breaking_place ["text"] spBrk := ok_breaking_place T
    refine ⟨_, (pss_cons (ps_if (pt_not (pt_val (pe_callB (call_isi) (by rfl) T.n_isinstance (by decide +kernel) (by exact (pa_cons (pv 0) (pa_cons (pe_bltn (v := .ty "str") (u := .type "str") (by rfl) T.n_str (by decide +kernel) rfl) pa_nil))))))
  (pss_one (ps_raiseBadScript rfl T.x_BadScript hr (takes_of rfl rfl rfl rfl) (by exact (pa_cons (pe_un un_neg pe_int) pa_nil))))
  pss_nil)
  (pss_cons (ps_set (i := 1) sc_check_script.nd rfl (Or.inl rfl) (pe_callG G_breaking_place (hr.mono (by first | decide | omega)) hgd rfl T.m_breaking_place T.F_breaking_place.kp T.b_breaking_place .nil noX (by exact (pa_cons (pv 0) pa_nil))))
  (pss_one (ps_if (pt_cmpR op_notN (pv 1) pe_non (nomark _))
  (pss_one (ps_raiseBadScript rfl T.x_BadScript hr (takes_of rfl rfl rfl rfl) (by exact (pa_cons (pv 1) pa_nil))))
  pss_nil)))), ?_⟩
    refine ⟨_, rfl, ?_⟩
    rcases hv with ⟨x, rfl, hx⟩ | hv
    · refine ⟨_, _, .type "str", .type "str", true, rfl, .ty _, .base (.str x), kit_ty (by decide +kernel), ?_⟩
      refine ⟨_, rfl, ?_⟩
      refine iteF ?_
      refine ⟨_, rfl, x, rfl, hx, fun H' hs => ?_⟩
      refine ⟨_, rfl, rfl, _, rfl, ?_⟩
      cases hp : place (cp x) with
      | none =>
        refine iteF ?_
        exact kN (by show (place (cp x)).map Int.ofNat = none; rw [hp]; rfl) _ hs
      | some k =>
        refine iteT ?_
        refine ⟨_, rfl, _, rfl, fun d hd => ?_⟩
        exact kE k (by show (place (cp x)).map Int.ofNat = some (k : Int); rw [hp]; rfl) _ d hs hd
    · obtain ⟨tv, hv1, hv2⟩ := id hv
      refine ⟨_, _, tv, .type "str", false, rfl, .ty _, hv1, hv2, ?_⟩
      refine ⟨_, rfl, ?_⟩
      refine iteT ?_
      refine ⟨1, rfl, _, rfl, fun d hd => ?_⟩
      exact kE (-1) (chk_not hv) _ d (Same.refl _) hd


/-! ### loop depth -/
def depC (c : Nat) (cur : Int) : Int := if c = 40 then cur + 1 else if c = 41 then cur - 1 else cur
def dep : Int → Int → List Nat → Int
  | _, most, [] => most
  | cur, most, c :: r => dep (depC c cur) (max most (depC c cur)) r
def spLoop : Sp := fun vs H Q _ => ∃ x, vs = [.str x] ∧ x.length ≤ 100000 ∧ ∀ H', Same H H' → Q (.int (dep 0 0 (cp x))) H'
theorem in_par {c : Nat} : inV (.str (sg c)) [.str "(", .str ")"] = (c == 40 || c == 41) := by
  unfold inV
  rw [o40, o41]
  simp [eqV_sg]
theorem ok_loop_depth (T : Txt K mg A) : FnG P w K mg base 1 A.f_loop_depth A.fd_loop_depth ["script"] (spLoop) := by
  refine T.F_loop_depth.okG sc_loop_depth (fun vs H Q E h => ?_) (fun cdv A0 outer s H vs Q E hr hgd0 h => ?_)
  · obtain ⟨x, rfl, _⟩ := h
    rfl
  · have hgd := hgd0
    obtain ⟨x, rfl, hx, kQ⟩ := h
    refine ⟨_, (pss_cons (ps_set (i := 1) sc_loop_depth.nd rfl (Or.inl rfl) (pe_lst (pa_cons pe_int pa_nil)))
  (pss_cons (ps_for PassesOwn.never rfl (pi_str (pv 0)) (pg_name (i := 2) sc_loop_depth.nd rfl (Or.inl rfl))
  (pss_one (ps_if (pt_cmpR op_in_seq (pv 2) (pe_tup (pa_cons pe_str (pa_cons pe_str pa_nil))) (by rfl))
  (pss_one (ps_expr (pe_bm PySem.F.plainAttrs_list PySem.F.slot_list_append PySem.F.type_list_append mt_append (pv 1) (pa_cons (pe_op op_add (pe_ix ix_list (pv 1) (pe_un un_neg pe_int) (fun _ _ => rfl)) (pe_ifExp (pt_cmpR op_eq (pv 2) pe_str (nomark _)) pe_int (pe_un un_neg pe_int))) pa_nil))))
  pss_nil)))
  (pss_one (ps_ret (pe_callB (cr_max rfl) (by rfl) T.n_max (by decide +kernel) (by exact (pa_cons (pv 1) pa_nil))))))), ?_⟩
    refine ⟨by show 1 ≤ sizeLine; decide, fun p np => ?_⟩
    have s0 : Same H (upd H p (.lst [.int 0])) := fun b o e => by rw [upd_ne (ne_of_none e np)]; exact e
    refine ⟨_, rfl, x, rfl, ?_⟩
    refine for_it walk_str (fun i σ H' => ∃ (ns : List Int) (cur most : Int) (v : Option V), σ = [some (.str x), some (.ref p), v] ∧ Same H H' ∧ H' p = some (.lst ((ns ++ [cur]).map V.int)) ∧
      most ∈ ns ++ [cur] ∧ (∀ y ∈ ns ++ [cur], y ≤ most) ∧ dep 0 0 (cp x) = dep cur most ((cp x).drop i) ∧ ns.length ≤ i ∧ i ≤ (cp x).length)
      ⟨[], 0, 0, none, rfl, s0, upd_same, List.mem_singleton.mpr rfl, (fun y hy => by rw [List.mem_singleton.mp hy]; exact Int.le_refl _), rfl, Nat.le_refl _, Nat.zero_le _⟩ (fun _ _ _ _ _ => trivial) ?_ ?_
    · rintro i y σ H1 H2 hi ⟨ns, cur, most, v, rfl, s1, hp, hm, hle, hd, hl, hix⟩ ⟨rfl, c, hc, rfl⟩
      have hc' := get_cp hc
      have hlen : i < (cp x).length := (List.getElem?_eq_some_iff.mp hc').1
      have hbig : (cp x).length ≤ 100000 := by rw [← len_cp]; exact hx
      rw [drop_at hc'] at hd
      refine in_lits [.str "(", .str ")"] (val_var' rfl) rfl rfl (by decide) fun H3 s3 => ⟨_, rfl, ?_⟩
      have hp3 := s3 p _ hp
      have s4 := s1.trans s3
      rw [in_par]
      refine ite2 (fun h1 => ?_) (fun h1 => ?_)
      · have h1' : c = 40 ∨ c = 41 := by simpa [Bool.or_eq_true] using h1
        have hlast : atI ((ns ++ [cur]).map V.int) (-1) = some (.int cur) := by
          rw [List.map_append]
          exact atI_last _ _
        refine ⟨_, rfl, .inl ⟨rfl, _, SqL.of hp3⟩, ?_⟩
        refine ⟨_, rfl, 1, rfl, p, _, -1, _, rfl, rfl, SqL.of hp3, hlast, ?_⟩
        refine ⟨_, rfl, rfl, _, rfl, ?_⟩
        rw [o40, dec_sg]
        have fin : ∀ z : Int, z = depC c cur → tBM K "list" rAppend (tVar 1) (tCons (tC (.int z)) tNil) [some (.str x), some (.ref p), some (.str (sg c))] H3 (fun _ H4 => ∃ (ns : List Int) (cur most : Int) (v : Option V), [some (.str x), some (.ref p), some (.str (sg c))] = [some (.str x), some (.ref p), v] ∧ Same H H4 ∧ H4 p = some (.lst ((ns ++ [cur]).map V.int)) ∧
            most ∈ ns ++ [cur] ∧ (∀ y ∈ ns ++ [cur], y ≤ most) ∧ dep 0 0 (cp x) = dep cur most ((cp x).drop (i + 1)) ∧ ns.length ≤ i + 1 ∧ i + 1 ≤ (cp x).length) := by
          rintro z rfl
          refine ⟨_, rfl, .inl ⟨rfl, _, SqL.of hp3⟩, p, _, _, rfl, rfl, hp3, ?_, ?_⟩
          · rw [List.length_map, List.length_append, List.length_singleton]
            exact Nat.lt_of_le_of_lt (show ns.length + 1 ≤ 100001 by omega) (by decide)
          refine ⟨ns ++ [cur], depC c cur, max most (depC c cur), _, rfl, fun b o e => by rw [upd_ne (ne_of_none e np)]; exact s4 b o e, ?_, ?_, ?_, hd, ?_, hlen⟩
          · rw [upd_same, List.map_append (l₁ := ns ++ [cur])]
            rfl
          · rcases Int.le_total most (depC c cur) with q | q
            · rw [Int.max_eq_right q]
              exact List.mem_append_right _ (List.mem_singleton.mpr rfl)
            · rw [Int.max_eq_left q]
              exact List.mem_append_left _ hm
          · intro y hy
            rcases List.mem_append.mp hy with q | q
            · exact Int.le_trans (hle y q) (Int.le_max_left _ _)
            · rw [List.mem_singleton.mp q]
              exact Int.le_max_right _ _
          · rw [List.length_append, List.length_singleton]
            omega
        refine ite2 (fun h2 => ?_) (fun h2 => ?_)
        · have h2' : c = 40 := by simpa using h2
          obtain ⟨v1, e1, t1, k1⟩ := fin (cur + 1) (by unfold depC; rw [if_pos h2'])
          refine ⟨_, _, rfl, rfl, ?_⟩
          cases e1
          exact k1
        · have h2' : ¬ c = 40 := by simpa using h2
          have h3' : c = 41 := by omega
          obtain ⟨v1, e1, t1, k1⟩ := fin (cur + -1) (by unfold depC; rw [if_neg h2', if_pos h3']; omega)
          refine ⟨1, rfl, _, _, rfl, rfl, ?_⟩
          cases e1
          exact k1
      · have h1' : ¬ (c = 40 ∨ c = 41) := by simpa [Bool.or_eq_true] using h1
        have e : depC c cur = cur := by
          unfold depC
          rw [if_neg (fun z => h1' (Or.inl z)), if_neg (fun z => h1' (Or.inr z))]
        refine ⟨ns, cur, most, _, rfl, s4, hp3, hm, hle, ?_, by omega, hlen⟩
        rw [hd]
        show dep (depC c cur) (max most (depC c cur)) _ = _
        rw [e, Int.max_eq_left (hle cur (List.mem_append_right _ (List.mem_singleton.mpr rfl)))]
    · rintro σ H' ⟨ns, cur, most, v, rfl, s1, hp, hm, hle, hd, hl, hix⟩
      have hn : x.cps.size = (cp x).length := len_cp x
      rw [hn, List.drop_length] at hd
      refine ⟨_, rfl, p, ns ++ [cur], rfl, SqL.of hp, by simp, fun m hm' hle' => ?_⟩
      have e : m = most := Int.le_antisymm (hle m hm') (hle' most hm)
      subst e
      have k := kQ _ s1
      rw [hd] at k
      exact k

end
end K17
set_option Elab.async false
set_option linter.all false
set_option maxRecDepth 100000
set_option maxHeartbeats 4000000
namespace K17
open PySem PySem.Spec L2
open PySem.W (Frag)
section
variable {P : Program} {w : World} {K : Frag} {mg : Str → Option Value} {base : Heap} {A : Adr}

theorem sgs_ok {st : List Nat} (h : ∀ b ∈ st, Brk b) : (sgs st).all okV = true := by
  rw [List.all_eq_true]
  intro v hv
  obtain ⟨b, hb, rfl⟩ := List.mem_map.mp hv
  rcases h b hb with rfl | rfl | rfl <;> decide +kernel
theorem sgs_isEmpty (st : List Nat) : (sgs st).isEmpty = st.isEmpty := by cases st <;> rfl
theorem lt_sg {c b : Nat} : decide ((sg c).cps.toList < (sg b).cps.toList) = decide (c < b) := by
  show decide ([c] < [b]) = _
  refine decide_eq_decide.mpr ?_
  simp [List.cons_lt_cons_iff]
/-- _law_open_now == [] -/
theorem tst_nil {σ : L2.St} {H : Hp} {i : Nat} {p : Addr} {st : List Nat} {Q : Bool → Hp → Prop} (hi : σ[i]? = some (some (.ref p))) (hp : H p = some (.lst (sgs st))) (hb : ∀ b ∈ st, Brk b) (h : ∀ H', Same H H' → Q st.isEmpty H') :
    tTest (tOp (rEqD K) (tVar i) (tLst tNil)) σ H Q := by
  refine ⟨_, hi, Nat.zero_le _, fun q hq => ?_⟩
  have npq : p ≠ q := ne_of_none hp hq
  refine rEq_nil (xs := sgs st) (SqL.of (by rw [upd_ne npq]; exact hp)) (sgs_ok hb) upd_same ⟨_, rfl, ?_⟩
  rw [sgs_isEmpty]
  exact h _ fun b o e => by rw [upd_ne (ne_of_none e hq)]; exact e
theorem tst_nnil {σ : L2.St} {H : Hp} {i : Nat} {p : Addr} {st : List Nat} {Q : Bool → Hp → Prop} (hi : σ[i]? = some (some (.ref p))) (hp : H p = some (.lst (sgs st))) (hb : ∀ b ∈ st, Brk b) (h : ∀ H', Same H H' → Q (!st.isEmpty) H') :
    tTest (tOp (rNeD K) (tVar i) (tLst tNil)) σ H Q := by
  refine ⟨_, hi, Nat.zero_le _, fun q hq => ?_⟩
  have npq : p ≠ q := ne_of_none hp hq
  refine rNe_nil (xs := sgs st) (SqL.of (by rw [upd_ne npq]; exact hp)) (sgs_ok hb) upd_same ⟨_, rfl, ?_⟩
  rw [sgs_isEmpty]
  exact h _ fun b o e => by rw [upd_ne (ne_of_none e hq)]; exact e
/-- _law_open_now == [] or _law_open_now[-1] == '.' : the top is not told so | != -/
theorem tst_top {σ : L2.St} {H : Hp} {i : Nat} {p : Addr} {st : List Nat} {z : Str} {d : Nat} {Q : Bool → Hp → Prop} (hz : z = sg d) (hi : σ[i]? = some (some (.ref p))) (hp : H p = some (.lst (sgs st))) (hb : ∀ b ∈ st, Brk b) (h : ∀ H', Same H H' → Q (st.isEmpty || st.getLast? == some d) H') :
    tOr (tTest (tOp (rEqD K) (tVar i) (tLst tNil))) (tTest (tOp rEq (tOp (rIxL K) (tVar i) (tUn (rU fun i => .int (-i)) (tC (.int 1)))) (tC (.str z)))) σ H Q := by
  refine tst_nil hi hp hb fun H1 s1 => ?_
  have k := h H1 s1
  have hp1 := s1 p _ hp
  cases he : st.isEmpty with
  | true =>
    rw [he] at k
    exact iteT k
  | false =>
    refine iteF ?_
    rw [he, Bool.false_or] at k
    obtain ⟨t, ht⟩ : ∃ t, st.getLast? = some t := by
      cases st with
      | nil => cases he
      | cons a r => exact ⟨_, List.getLast?_cons⟩
    refine ⟨_, hi, 1, rfl, p, sgs st, -1, _, rfl, rfl, SqL.of hp1, sgs_last ht, rfl, _, rfl, ?_⟩
    rw [hz, dec_sg]
    rw [ht] at k
    exact k
theorem tst_topN {σ : L2.St} {H : Hp} {i : Nat} {p : Addr} {st : List Nat} {z : Str} {d : Nat} {Q : Bool → Hp → Prop} (hz : z = sg d) (hi : σ[i]? = some (some (.ref p))) (hp : H p = some (.lst (sgs st))) (hb : ∀ b ∈ st, Brk b) (h : ∀ H', Same H H' → Q (!(st.getLast? == some d)) H') :
    tOr (tTest (tOp (rEqD K) (tVar i) (tLst tNil))) (tTest (tOp rNe (tOp (rIxL K) (tVar i) (tUn (rU fun i => .int (-i)) (tC (.int 1)))) (tC (.str z)))) σ H Q := by
  refine tst_nil hi hp hb fun H1 s1 => ?_
  have k := h H1 s1
  have hp1 := s1 p _ hp
  cases he : st.isEmpty with
  | true =>
    have e : st = [] := by simpa using he
    subst e
    exact iteT k
  | false =>
    refine iteF ?_
    obtain ⟨t, ht⟩ : ∃ t, st.getLast? = some t := by
      cases st with
      | nil => cases he
      | cons a r => exact ⟨_, List.getLast?_cons⟩
    refine ⟨_, hi, 1, rfl, p, sgs st, -1, _, rfl, rfl, SqL.of hp1, sgs_last ht, rfl, _, rfl, ?_⟩
    rw [hz, dec_sg]
    rw [ht] at k
    exact k
theorem brk_last {st : List Nat} (hb : ∀ b ∈ st, Brk b) {t : Nat} (h : st.getLast? = some t) : Brk t := hb t (List.mem_of_getLast? h)
theorem sgs_set {st : List Nat} {t : Nat} (h : st.getLast? = some t) (d : Nat) : (sgs st).set (st.length - 1) (.str (sg d)) = sgs (st.dropLast ++ [d]) := by
  rcases List.eq_nil_or_concat st with e | ⟨r, a, e⟩
  · subst e; cases h
  · subst e
    rw [List.concat_eq_append]
    have e1 : (r ++ [a]).length - 1 = r.length := by simp
    rw [e1]
    simp [sgs, List.dropLast_concat, List.set_append]

theorem ixN_last {st : List Nat} (h : st.isEmpty = false) : ixN (sgs st).length (-1) = some (st.length - 1) := by
  have hl : 1 ≤ st.length := by
    cases st with
    | nil => cases h
    | cons a r => simp
  rw [sgs_len]
  unfold ixN
  rw [if_neg (by omega), if_pos (by omega)]
  congr 1
  omega
theorem ok__law_place (T : Txt K mg A) : FnG P w K mg base 1 A.f__law_place A.fd__law_place ["_law_page"] (spBrk) := by
  refine T.F__law_place.okG sc__law_place (fun vs H Q E h => ?_) (fun cdv A0 outer s H vs Q E hr hgd0 h => ?_)
  · obtain ⟨x, rfl, _⟩ := h
    rfl
  · have hgd := hgd0
    obtain ⟨x, rfl, hx, kQ⟩ := h
    refine ⟨_, (pss_cons (ps_par (i := 1) (j := 2) rfl sc__law_place.nd rfl rfl (by decide) rfl rfl (by exact (pa_cons (pe_lst pa_nil) (pa_cons pe_bl pa_nil))) (by rfl))
  (pss_cons (ps_for PassesOwn.never rfl (pi_enumS (by rfl) T.n_enumerate (by exact (pa_cons (pv 0) pa_nil))) (pg_tup (by rfl) (pgs_cons (pg_name (i := 3) sc__law_place.nd rfl (Or.inl rfl)) (pgs_cons (pg_name (i := 4) sc__law_place.nd rfl (Or.inl rfl)) pgs_nil)))
  (pss_cons (ps_if (PW.pt (pw_and (pt_val (pv 2)) (pw_and1 (pt_cmpR op_ne (pv 4) pe_str (nomark _)))))
  (pss_one (ps_ret (pv 3)))
  pss_nil)
  (pss_cons (ps_if (PW.pt (pw_and (pt_cmpR op_eq (pv 4) pe_str (nomark _)) (pw_and1 (pt_not (pt_val (pv 2))))))
  (pss_one (ps_ret (pv 3)))
  pss_nil)
  (pss_cons (ps_set (i := 2) sc__law_place.nd rfl (Or.inl rfl) pe_bl)
  (pss_one (ps_if (PW.pt (pw_or (pt_cmpR op_eq (pv 4) pe_str (nomark _)) (pw_or1 (pt_cmpR op_eq (pv 4) pe_str (nomark _)))))
  (pss_one (ps_expr (pe_bm PySem.F.plainAttrs_list PySem.F.slot_list_append PySem.F.type_list_append mt_append (pv 1) (pa_cons (pv 4) pa_nil))))
  (pss_one (ps_if (pt_cmpR op_eq (pv 4) pe_str (nomark _))
  (pss_cons (ps_if (PW.pt (pw_or (pt_cmpR (op_eqD hr.units) (pv 1) (pe_lst pa_nil) (nomark _)) (pw_or1 (pt_cmpR op_eq (pe_ix ix_list (pv 1) (pe_un un_neg pe_int) (fun _ _ => rfl)) pe_str (nomark _)))))
  (pss_one (ps_ret (pv 3)))
  pss_nil)
  (pss_one (ps_asg pe_str (pg_sub (pv 1) (pe_un un_neg pe_int) set_list))))
  (pss_one (ps_if (pt_cmpR op_eq (pv 4) pe_str (nomark _))
  (pss_cons (ps_if (PW.pt (pw_or (pt_cmpR (op_eqD hr.units) (pv 1) (pe_lst pa_nil) (nomark _)) (pw_or1 (pt_cmpR op_ne (pe_ix ix_list (pv 1) (pe_un un_neg pe_int) (fun _ _ => rfl)) pe_str (nomark _)))))
  (pss_one (ps_ret (pv 3)))
  pss_nil)
  (pss_one (ps_expr (pe_bm0 PySem.F.plainAttrs_list PySem.F.slot_list_pop PySem.F.type_list_pop mt_pop (pv 1)))))
  (pss_one (ps_if (pt_cmpR op_eq (pv 4) pe_str (nomark _))
  (pss_cons (ps_if (PW.pt (pw_or (pt_cmpR (op_eqD hr.units) (pv 1) (pe_lst pa_nil) (nomark _)) (pw_or1 (pt_cmpR op_ne (pe_ix ix_list (pv 1) (pe_un un_neg pe_int) (fun _ _ => rfl)) pe_str (nomark _)))))
  (pss_one (ps_ret (pv 3)))
  pss_nil)
  (pss_cons (ps_expr (pe_bm0 PySem.F.plainAttrs_list PySem.F.slot_list_pop PySem.F.type_list_pop mt_pop (pv 1)))
  (pss_one (ps_set (i := 2) sc__law_place.nd rfl (Or.inl rfl) pe_bl))))
  (pss_one (ps_if (PW.pt (pw_and (pt_cmpR op_ne (pv 4) pe_str (nomark _)) (pw_and1 (pt_not (pt_chain op_le_str op_le_str pe_str (pv 4) pe_str)))))
  (pss_one (ps_ret (pv 3)))
  pss_nil))))))))))))))
  (pss_one (ps_ret (pe_ifExp (PW.pt (pw_or (pt_cmpR (op_neD hr.units) (pv 1) (pe_lst pa_nil) (nomark _)) (pw_or1 (pt_val (pv 2))))) (pe_callB (call_len_str) (by rfl) T.n_len (by decide +kernel) (by exact (pa_cons (pv 0) pa_nil))) pe_non))))), ?_⟩
    refine ⟨Nat.zero_le _, fun p np => ?_⟩
    refine ⟨_, _, rfl, ?_⟩
    have s0 : Same H (upd H p (.lst [])) := fun b o e => by rw [upd_ne (ne_of_none e np)]; exact e
    refine ⟨_, rfl, x, rfl, ?_⟩
    refine for_it walk_enumS (fun i σ H' => ∃ (st : List Nat) (v3 v4 : Option V), σ = [some (.str x), some (.ref p), some (.bl (starAt (cp x) i)), v3, v4] ∧ Same H H' ∧ H' p = some (.lst (sgs st)) ∧
      place (cp x) = scan st (starAt (cp x) i) i ((cp x).drop i) ∧ (∀ b ∈ st, Brk b) ∧ st.length ≤ i ∧ i ≤ (cp x).length)
      ⟨[], none, none, rfl, s0, upd_same, rfl, (fun b hb => by cases hb), Nat.le_refl _, Nat.zero_le _⟩ (fun _ _ _ _ _ => trivial) ?_ ?_
    · rintro i y σ H1 H2 hi ⟨st, v3, v4, rfl, s1, hp, hsc, hb, hl, hix⟩ ⟨T1, c, rfl, nT, hc, rfl⟩
      have hc' := get_cp hc
      have hlen : i < (cp x).length := (List.getElem?_eq_some_iff.mp hc').1
      have hbig : (cp x).length ≤ 100000 := by rw [← len_cp]; exact hx
      have npT : p ≠ T1 := ne_of_none hp nT
      have hp2 : (upd H1 T1 (.tup [.int (i : Nat), .str ⟨#[c]⟩])) p = some (.lst (sgs st)) := by rw [upd_ne npT]; exact hp
      have hT2 : (upd H1 T1 (.tup [.int (i : Nat), .str ⟨#[c]⟩])) T1 = some (.tup [.int (i : Nat), .str ⟨#[c]⟩]) := upd_same
      have s2 : Same H (upd H1 T1 (.tup [.int (i : Nat), .str ⟨#[c]⟩])) := fun b o e => by
        rw [upd_ne (ne_of_none (s1 b o e) nT)]
        exact s1 b o e
      generalize (upd H1 T1 (.tup [.int (i : Nat), .str ⟨#[c]⟩])) = H2 at hp2 s2 hT2
      rw [drop_at hc'] at hsc
      have hbadk : ∀ H', Same H H' → bad c st (starAt (cp x) i) = true → Q (.int (i : Nat)) H' := fun H' s hbad => by
        have e : place (cp x) = some i := by
          rw [hsc]
          show (if bad c st (starAt (cp x) i) = true then some i else _) = some i
          rw [if_pos hbad]
        have k := kQ _ s
        rw [e] at k
        exact k
      have hnext : bad c st (starAt (cp x) i) = false → place (cp x) = scan (push c st) (starAt (cp x) (i + 1)) (i + 1) ((cp x).drop (i + 1)) := fun hbad => by
        rw [hsc, starAt_succ hc']
        show (if bad c st (starAt (cp x) i) = true then some i else _) = _
        rw [hbad, if_neg Bool.false_ne_true]
      have hpb := push_brk (c := c) hb
      have hpl := push_len (c := c) (st := st)
      have hstep : ∀ (st' : List Nat) (σ : L2.St) (H' : Hp), bad c st (starAt (cp x) i) = false → st' = push c st → σ = [some (.str x), some (.ref p), some (.bl (c == 41)), some (.int (i : Nat)), some (.str (sg c))] → Same H H' → H' p = some (.lst (sgs st')) →
          ∃ (st : List Nat) (v3 v4 : Option V), σ = [some (.str x), some (.ref p), some (.bl (starAt (cp x) (i + 1))), v3, v4] ∧ Same H H' ∧ H' p = some (.lst (sgs st)) ∧
            place (cp x) = scan st (starAt (cp x) (i + 1)) (i + 1) ((cp x).drop (i + 1)) ∧ (∀ b ∈ st, Brk b) ∧ st.length ≤ i + 1 ∧ i + 1 ≤ (cp x).length := by
        rintro st' σ H' hbad rfl rfl s hp'
        exact ⟨push c st, _, _, by rw [starAt_succ hc'], s, hp', hnext hbad, hpb, by omega, by omega⟩
      refine ⟨T1, _, rfl, SqT.of hT2, rfl, _, _, rfl, _, _, rfl, rfl, ?_⟩
      -- star and sign != '*'
      generalize hs : starAt (cp x) i = star at *
      refine ⟨_, rfl, _, rfl, ?_⟩
      have e42 : ∀ b : Bool, b = star → ((c == 42) != b) = true → bad c st star = true := fun b hb1 hb2 => by
        subst hb1
        unfold bad
        rw [hb2, Bool.true_or]
      cases star with
      | true =>
        refine iteT ?_
        refine ⟨_, rfl, rfl, _, rfl, ?_⟩
        first | rw [o42, dec_sg] | rw [dec_sg]
        cases h42 : (c == 42) with
        | false =>
          refine iteT ?_
          exact ⟨_, rfl, hbadk _ s2 (e42 _ rfl (by rw [h42]; rfl))⟩
        | true =>
          have hc42 : c = 42 := by simpa using h42
          subst hc42
          refine iteF ?_
          refine ⟨_, rfl, rfl, _, rfl, ?_⟩
          first | rw [o42, dec_sg] | rw [dec_sg]
          refine iteT ?_
          refine ⟨_, rfl, _, rfl, iteF ?_⟩
          -- the sign is *, behind a loop: nothing changes
          refine ⟨_, rfl, rfl, _, rfl, ?_⟩
          first | rw [o91, dec_sg] | rw [dec_sg]
          refine iteF ?_
          refine ⟨_, rfl, rfl, _, rfl, ?_⟩
          first | rw [o40, dec_sg] | rw [dec_sg]
          refine iteF ?_
          refine ⟨_, rfl, rfl, _, rfl, ?_⟩
          first | rw [o124, dec_sg] | rw [dec_sg]
          refine iteF ?_
          refine ⟨_, rfl, rfl, _, rfl, ?_⟩
          first | rw [o93, dec_sg] | rw [dec_sg]
          refine iteF ?_
          refine ⟨_, rfl, rfl, _, rfl, ?_⟩
          first | rw [o41, dec_sg] | rw [dec_sg]
          refine iteF ?_
          refine ⟨_, rfl, rfl, _, rfl, ?_⟩
          first | rw [o42, dec_sg] | rw [dec_sg]
          refine iteF ?_
          refine iteF ?_
          exact hstep st _ _ (by unfold bad may; simp [isL]) (by unfold push; simp) rfl s2 hp2
      | false =>
        refine iteF ?_
        refine iteF ?_
        refine ⟨_, rfl, rfl, _, rfl, ?_⟩
        first | rw [o42, dec_sg] | rw [dec_sg]
        cases h42 : (c == 42) with
        | true =>
          refine iteT ?_
          refine ⟨_, rfl, _, rfl, iteT ?_⟩
          exact ⟨_, rfl, hbadk _ s2 (e42 _ rfl (by rw [h42]; rfl))⟩
        | false =>
          refine iteF ?_
          refine iteF ?_
          have hc42 : ¬ c = 42 := by simpa using h42
          have hbm : bad c st false = !may c st.getLast? := by
            unfold bad
            rw [h42]
            rfl
          -- star = False, then by the sign
          refine ⟨_, rfl, rfl, _, rfl, ?_⟩
          first | rw [o91, dec_sg] | rw [dec_sg]
          cases h91 : (c == 91) with
          | true =>
            have hc91 : c = 91 := by simpa using h91
            subst hc91
            refine iteT (iteT ?_)
            refine ⟨_, rfl, .inl ⟨rfl, _, SqL.of hp2⟩, _, rfl, p, _, _, rfl, rfl, hp2, ?_, ?_⟩
            · rw [sgs_len]
              exact Nat.lt_of_le_of_lt (show st.length ≤ 100000 by omega) (by decide)
            exact hstep (st ++ [91]) _ _ (by rw [hbm]; unfold may; simp) (by unfold push; simp) rfl (fun b o e => by rw [upd_ne (ne_of_none e np)]; exact s2 b o e) (by rw [upd_same, sgs_app])
          | false =>
          have hc91 : ¬ c = 91 := by simpa using h91
          refine iteF ?_
          refine ⟨_, rfl, rfl, _, rfl, ?_⟩
          first | rw [o40, dec_sg] | rw [dec_sg]
          cases h40 : (c == 40) with
          | true =>
            have hc40 : c = 40 := by simpa using h40
            subst hc40
            refine iteT ?_
            refine ⟨_, rfl, .inl ⟨rfl, _, SqL.of hp2⟩, _, rfl, p, _, _, rfl, rfl, hp2, ?_, ?_⟩
            · rw [sgs_len]
              exact Nat.lt_of_le_of_lt (show st.length ≤ 100000 by omega) (by decide)
            exact hstep (st ++ [40]) _ _ (by rw [hbm]; unfold may; simp) (by unfold push; simp) rfl (fun b o e => by rw [upd_ne (ne_of_none e np)]; exact s2 b o e) (by rw [upd_same, sgs_app])
          | false =>
          have hc40 : ¬ c = 40 := by simpa using h40
          refine iteF ?_
          refine ⟨_, rfl, rfl, _, rfl, ?_⟩
          first | rw [o124, dec_sg] | rw [dec_sg]
          cases h124 : (c == 124) with
          | true =>
            have hc124 : c = 124 := by simpa using h124
            subst hc124
            refine iteT ?_
            refine tst_top (d := 40) o40 rfl hp2 hb fun H3 s3 => ?_
            have s4 := s2.trans s3
            have hp3 := s3 p _ hp2
            cases ht : st.getLast? with
            | none =>
              have e : st = [] := by simpa using ht
              subst e
              refine iteT ?_
              exact ⟨_, rfl, hbadk _ s4 (by rw [hbm]; rfl)⟩
            | some t =>
              have hne : st.isEmpty = false := by
                cases st with
                | nil => cases ht
                | cons a r => rfl
              rw [hne, Bool.false_or]
              have hbt := brk_last hb ht
              rcases hbt with rfl | rfl | rfl
              · refine iteF ?_
                refine ⟨_, rfl, 1, rfl, p, _, -1, st.length - 1, rfl, rfl, hp3, ?_, ?_⟩
                · exact ixN_last hne
                exact hstep (st.dropLast ++ [124]) _ _ (by rw [hbm, ht]; rfl) (by unfold push; simp) rfl (fun b o e => by rw [upd_ne (ne_of_none e np)]; exact s4 b o e) (by rw [upd_same, sgs_set ht])
              · refine iteT ?_
                exact ⟨_, rfl, hbadk _ s4 (by rw [hbm, ht]; rfl)⟩
              · refine iteF ?_
                refine ⟨_, rfl, 1, rfl, p, _, -1, st.length - 1, rfl, rfl, hp3, ?_, ?_⟩
                · exact ixN_last hne
                exact hstep (st.dropLast ++ [124]) _ _ (by rw [hbm, ht]; rfl) (by unfold push; simp) rfl (fun b o e => by rw [upd_ne (ne_of_none e np)]; exact s4 b o e) (by rw [upd_same, sgs_set ht])
          | false =>
          have hc124 : ¬ c = 124 := by simpa using h124
          refine iteF ?_
          refine ⟨_, rfl, rfl, _, rfl, ?_⟩
          first | rw [o93, dec_sg] | rw [dec_sg]
          cases h93 : (c == 93) with
          | true =>
            have hc93 : c = 93 := by simpa using h93
            subst hc93
            refine iteT ?_
            refine tst_topN (d := 124) o124 rfl hp2 hb fun H3 s3 => ?_
            have s4 := s2.trans s3
            have hp3 := s3 p _ hp2
            cases ht : (st.getLast? == some 124) with
            | false =>
              refine iteT ?_
              exact ⟨_, rfl, hbadk _ s4 (by rw [hbm]; unfold may; simp [ht])⟩
            | true =>
              have ht' : st.getLast? = some 124 := by simpa using ht
              refine iteF ?_
              refine ⟨_, rfl, .inl ⟨rfl, _, SqL.of hp3⟩, p, sgs st, _, rfl, rfl, hp3, sgs_end ht', ?_⟩
              exact hstep st.dropLast _ _ (by rw [hbm]; unfold may; simp [ht']) (by unfold push; simp) rfl (fun b o e => by rw [upd_ne (ne_of_none e np)]; exact s4 b o e) (by rw [upd_same, sgs_drop])
          | false =>
          have hc93 : ¬ c = 93 := by simpa using h93
          refine iteF ?_
          refine ⟨_, rfl, rfl, _, rfl, ?_⟩
          first | rw [o41, dec_sg] | rw [dec_sg]
          cases h41 : (c == 41) with
          | true =>
            have hc41 : c = 41 := by simpa using h41
            subst hc41
            refine iteT ?_
            refine tst_topN (d := 40) o40 rfl hp2 hb fun H3 s3 => ?_
            have s4 := s2.trans s3
            have hp3 := s3 p _ hp2
            cases ht : (st.getLast? == some 40) with
            | false =>
              refine iteT ?_
              exact ⟨_, rfl, hbadk _ s4 (by rw [hbm]; unfold may; simp [ht])⟩
            | true =>
              have ht' : st.getLast? = some 40 := by simpa using ht
              refine iteF ?_
              refine ⟨_, rfl, .inl ⟨rfl, _, SqL.of hp3⟩, p, sgs st, _, rfl, rfl, hp3, sgs_end ht', ?_⟩
              exact hstep st.dropLast _ _ (by rw [hbm]; unfold may; simp [ht']) (by unfold push; simp) rfl (fun b o e => by rw [upd_ne (ne_of_none e np)]; exact s4 b o e) (by rw [upd_same, sgs_drop])
          | false =>
          have hc41 : ¬ c = 41 := by simpa using h41
          refine iteF ?_
          refine ⟨_, rfl, rfl, _, rfl, ?_⟩
          first | rw [o42, dec_sg, h42] | rw [dec_sg, h42] | rw [h42]
          refine iteT ?_
          have hmay : may c st.getLast? = isL c := by
            unfold may
            rw [if_neg hc124, if_neg hc93, if_neg hc41, h91, h40, h42]
            simp
          have hpush : push c st = st := by
            unfold push
            rw [if_neg (by omega), if_neg (by omega), List.append_nil]
          refine ⟨_, rfl, _, _, rfl, rfl, _, rfl, ?_⟩
          rw [o97, lt_sg]
          cases h97 : decide (c < 97) with
          | true =>
            refine iteF ?_
            refine ⟨_, rfl, iteT ?_⟩
            have hl : isL c = false := by
              unfold isL
              have : c < 97 := by simpa using h97
              simp
              omega
            exact ⟨_, rfl, hbadk _ s2 (by rw [hbm, hmay, hl]; rfl)⟩
          | false =>
            refine iteT ?_
            refine ⟨_, _, rfl, rfl, _, rfl, ?_⟩
            rw [o122, lt_sg]
            have h97' : ¬ c < 97 := by simpa using h97
            cases h122 : decide (122 < c) with
            | true =>
              refine iteT ?_
              have hl : isL c = false := by
                unfold isL
                have : 122 < c := by simpa using h122
                simp
                omega
              exact ⟨_, rfl, hbadk _ s2 (by rw [hbm, hmay, hl]; rfl)⟩
            | false =>
              refine iteF ?_
              have h122' : ¬ 122 < c := by simpa using h122
              have hl : isL c = true := by
                unfold isL
                simp
                omega
              exact hstep st _ _ (by rw [hbm, hmay, hl]; rfl) hpush.symm (by rw [h41]; rfl) s2 hp2
    · rintro σ H' ⟨st, v3, v4, rfl, s1, hp, hsc, hb, hl, hix⟩
      have hn : x.cps.size = (cp x).length := len_cp x
      have hd : (cp x).drop x.cps.size = [] := by rw [hn]; exact List.drop_length
      rw [hd] at hsc
      refine tst_nnil rfl hp hb fun H2 s2 => ?_
      have k := kQ _ (s1.trans s2)
      cases st with
      | cons a r =>
        refine iteT (iteT ?_)
        refine ⟨_, rfl, x, rfl, Nat.le_trans hx (by decide), ?_⟩
        have e : place (cp x) = some x.length := by
          rw [hsc]
          show (if _ then some x.cps.size else none) = some x.cps.size
          rw [if_pos (Or.inl (List.cons_ne_nil a r))]
        rw [e] at k
        exact k
      | nil =>
        refine iteF ?_
        refine ⟨_, rfl, _, rfl, ?_⟩
        generalize starAt (cp x) x.cps.size = star at *
        cases star with
        | true =>
          refine iteT ?_
          refine ⟨_, rfl, x, rfl, Nat.le_trans hx (by decide), ?_⟩
          have e : place (cp x) = some x.length := by
            rw [hsc]
            show (if _ then some x.cps.size else none) = some x.cps.size
            rw [if_pos (Or.inr rfl)]
          rw [e] at k
          exact k
        | false =>
          refine iteF ?_
          have e : place (cp x) = none := by
            rw [hsc]
            show (if _ then some x.cps.size else none) = none
            rw [if_neg (by simp)]
          rw [e] at k
          exact k

end
end K17
set_option Elab.async false
set_option linter.all false
set_option maxRecDepth 100000
set_option maxHeartbeats 4000000
namespace K17
open PySem PySem.Spec L2
open PySem.W (Frag)
section
variable {P : Program} {w : World} {K : Frag} {mg : Str → Option Value} {base : Heap} {A : Adr}

/-- the law's own stack: a choice stays [ -/
def nm (st : List Nat) : List Nat := st.map fun c => if c = 124 then 91 else c
theorem nm_app (st : List Nat) (c : Nat) : nm (st ++ [c]) = nm st ++ [if c = 124 then 91 else c] := by simp [nm]
theorem nm_len (st : List Nat) : (nm st).length = st.length := List.length_map ..
theorem cnt_nm : ∀ st : List Nat, (sgs (nm st)).countP (fun z => eqV z (.str (sg 40))) = st.count 40
  | [] => rfl
  | c :: st => by
    have ih := cnt_nm st
    show ((V.str (sg (if c = 124 then 91 else c))) :: sgs (nm st)).countP _ = _
    rw [List.countP_cons, ih, List.count_cons, eqV_sg]
    by_cases h : c = 124
    · subst h; rfl
    · rw [if_neg h]
      by_cases h2 : c = 40
      · subst h2; rfl
      · have e1 : (40 == c) = false := by simpa using fun z : 40 = c => h2 z.symm
        have e2 : (c == 40) = false := by simpa using h2
        rw [e1, e2]
theorem in_open {c : Nat} : decide (c ∈ (Str.ofString "([").cps.toList) = (c == 40 || c == 91) := by
  have e : (Str.ofString "([").cps.toList = [40, 91] := by decide +kernel
  rw [e, Bool.eq_iff_iff]
  simp
theorem in_shut {c : Nat} : decide (c ∈ (Str.ofString ")]").cps.toList) = (c == 41 || c == 93) := by
  have e : (Str.ofString ")]").cps.toList = [41, 93] := by decide +kernel
  rw [e, Bool.eq_iff_iff]
  simp
theorem last_split {st : List Nat} {t : Nat} (h : st.getLast? = some t) : st = st.dropLast ++ [t] := by
  rcases List.eq_nil_or_concat st with e | ⟨r, a, e⟩
  · subst e; cases h
  · subst e
    rw [List.concat_eq_append] at h ⊢
    have e2 : a = t := by simpa using h
    subst e2
    simp
def spDepth : Sp := fun vs H Q _ => ∃ x, vs = [.str x] ∧ x.length ≤ 100000 ∧ place (cp x) = none ∧ ∀ H', Same H H' → Q (.int (dep 0 0 (cp x))) H'

theorem sgs_nm {st : List Nat} (h : ∀ b ∈ st, Brk b) : (sgs (nm st)).all okV = true := by
  refine sgs_ok fun b hb => ?_
  obtain ⟨c, hc, rfl⟩ := List.mem_map.mp hb
  rcases h c hc with rfl | rfl | rfl
  · exact Or.inl rfl
  · exact Or.inr (Or.inl rfl)
  · exact Or.inl rfl
theorem ok__law_depth (T : Txt K mg A) : FnG P w K mg base 1 A.f__law_depth A.fd__law_depth ["_law_page"] (spDepth) := by
  refine T.F__law_depth.okG sc__law_depth (fun vs H Q E h => ?_) (fun cdv A0 outer s H vs Q E hr hgd0 h => ?_)
  · obtain ⟨x, rfl, _⟩ := h
    rfl
  · have hgd := hgd0
    obtain ⟨x, rfl, hx, hpl, kQ⟩ := h
    refine ⟨_, (pss_cons (ps_par (i := 1) (j := 2) rfl sc__law_depth.nd rfl rfl (by decide) rfl rfl (by exact (pa_cons (pe_lst pa_nil) (pa_cons pe_int pa_nil))) (by rfl))
  (pss_cons (ps_for PassesOwn.never rfl (pi_str (pv 0)) (pg_name (i := 3) sc__law_depth.nd rfl (Or.inl rfl))
  (pss_cons (ps_if (pt_cmpR op_in_sign (pv 3) pe_str rfl)
  (pss_one (ps_expr (pe_bm PySem.F.plainAttrs_list PySem.F.slot_list_append PySem.F.type_list_append mt_append (pv 1) (pa_cons (pv 3) pa_nil))))
  (pss_one (ps_if (pt_cmpR op_in_sign (pv 3) pe_str rfl)
  (pss_one (ps_expr (pe_bm0 PySem.F.plainAttrs_list PySem.F.slot_list_pop PySem.F.type_list_pop mt_pop (pv 1))))
  pss_nil)))
  (pss_one (ps_set (i := 2) sc__law_depth.nd rfl (Or.inl rfl) (pe_callB (call_max2 rfl) (by rfl) T.n_max (by decide +kernel) (by exact (pa_cons (pv 2) (pa_cons (pe_bm PySem.F.plainAttrs_list PySem.F.slot_list_count PySem.F.type_list_count mt_countV (pv 1) (pa_cons pe_str pa_nil)) pa_nil))))))))
  (pss_one (ps_ret (pv 2))))), ?_⟩
    refine ⟨Nat.zero_le _, fun p np => ?_⟩
    refine ⟨_, _, rfl, ?_⟩
    have s0 : Same H (upd H p (.lst [])) := fun b o e => by rw [upd_ne (ne_of_none e np)]; exact e
    refine ⟨_, rfl, x, rfl, ?_⟩
    refine for_it walk_str (fun i σ H' => ∃ (st : List Nat) (most : Int) (v3 : Option V), σ = [some (.str x), some (.ref p), some (.int most), v3] ∧ Same H H' ∧ H' p = some (.lst (sgs (nm st))) ∧
      scan st (starAt (cp x) i) i ((cp x).drop i) = none ∧ (∀ b ∈ st, Brk b) ∧ dep 0 0 (cp x) = dep (st.count 40 : Nat) most ((cp x).drop i) ∧ st.length ≤ i ∧ i ≤ (cp x).length)
      ⟨[], 0, none, rfl, s0, upd_same, hpl, (fun b hb => by cases hb), rfl, Nat.le_refl _, Nat.zero_le _⟩ (fun _ _ _ _ _ => trivial) ?_ ?_
    · rintro i y σ H1 H2 hi ⟨st, most, v3, rfl, s1, hp, hsc, hb, hd, hl, hix⟩ ⟨rfl, c, hc, rfl⟩
      have hc' := get_cp hc
      have hlen : i < (cp x).length := (List.getElem?_eq_some_iff.mp hc').1
      have hbig : (cp x).length ≤ 100000 := by rw [← len_cp]; exact hx
      rw [drop_at hc'] at hsc hd
      have hsc2 : (if bad c st (starAt (cp x) i) = true then some i else scan (push c st) (c == 41) (i + 1) ((cp x).drop (i + 1))) = none := hsc
      have hbad : bad c st (starAt (cp x) i) = false := by
        cases q : bad c st (starAt (cp x) i) with
        | false => rfl
        | true => rw [q, if_pos rfl] at hsc2; cases hsc2
      rw [hbad, if_neg Bool.false_ne_true] at hsc2
      rw [← starAt_succ hc'] at hsc2
      have hmay : may c st.getLast? = true := by
        unfold bad at hbad
        rw [Bool.or_eq_false_iff] at hbad
        simpa using hbad.2
      have hd2 : dep 0 0 (cp x) = dep (depC c (st.count 40 : Nat)) (max most (depC c (st.count 40 : Nat))) ((cp x).drop (i + 1)) := hd
      have hpb := push_brk (c := c) hb
      have hpl' := push_len (c := c) (st := st)
      -- the rest of the turn: most = max(most, count)
      have fin : ∀ (σ' : L2.St) (H' : Hp), σ' = [some (.str x), some (.ref p), some (.int most), some (.str (sg c))] → Same H H' → H' p = some (.lst (sgs (nm (push c st)))) → ((push c st).count 40 : Nat) = depC c (st.count 40 : Nat) →
          tAsg (tCB (fun xs H Q => ∃ i j, xs = [.int i, .int j] ∧ Q (.int (if j > i then j else i)) H) (tCons (tVar 2) (tCons (tBM K "list" (rCountV K) (tVar 1) (tCons (tC (.str "(")) tNil)) tNil))) (gName 2)
            { nx := fun σ H' => ∃ (st : List Nat) (most : Int) (v3 : Option V), σ = [some (.str x), some (.ref p), some (.int most), v3] ∧ Same H H' ∧ H' p = some (.lst (sgs (nm st))) ∧
                scan st (starAt (cp x) (i + 1)) (i + 1) ((cp x).drop (i + 1)) = none ∧ (∀ b ∈ st, Brk b) ∧ dep 0 0 (cp x) = dep (st.count 40 : Nat) most ((cp x).drop (i + 1)) ∧ st.length ≤ i + 1 ∧ i + 1 ≤ (cp x).length, rt := Q } σ' H' := by
        rintro σ' H' rfl s hp' hcount
        refine ⟨_, rfl, _, rfl, .inl ⟨rfl, _, SqL.of hp'⟩, p, _, _, rfl, rfl, SqL.of hp', rfl, okV_all (sgs_nm hpb), ?_⟩
        refine ⟨_, _, rfl, ?_⟩
        rw [o40, cnt_nm]
        refine ⟨push c st, _, _, rfl, s, hp', hsc2, hpb, ?_, by omega, by omega⟩
        rw [hd2, hcount]
        congr 1
        by_cases q : depC c (st.count 40 : Nat) > most
        · rw [if_pos q, Int.max_eq_right (Int.le_of_lt q)]
        · rw [if_neg q, Int.max_eq_left (Int.not_lt.mp q)]
      refine ⟨_, rfl, c, _, rfl, rfl, _, rfl, ?_⟩
      rw [in_open]
      refine ite2 (fun h1 => ?_) (fun h1 => ?_)
      · have h1' : c = 40 ∨ c = 91 := by simpa [Bool.or_eq_true] using h1
        have epush : push c st = st ++ [c] := by
          unfold push
          rw [if_neg (by omega), if_pos (by omega)]
        refine ⟨_, rfl, .inl ⟨rfl, _, SqL.of hp⟩, _, rfl, p, _, _, rfl, rfl, hp, ?_, ?_⟩
        · rw [sgs_len, nm_len]
          exact Nat.lt_of_le_of_lt (show st.length ≤ 100000 by omega) (by decide)
        refine fin _ _ rfl (fun b o e => by rw [upd_ne (ne_of_none e np)]; exact s1 b o e) ?_ ?_
        · rw [upd_same, epush, nm_app, if_neg (by omega), sgs_app]
        · rw [epush, List.count_append]
          rcases h1' with rfl | rfl
          · show (((st.count 40 + 1 : Nat)) : Int) = (if (40 : Nat) = 40 then _ else _)
            rw [if_pos rfl]
            omega
          · show (((st.count 40 + 0 : Nat)) : Int) = _
            unfold depC
            rw [if_neg (by omega), if_neg (by omega)]
            omega
      · have h1' : ¬ (c = 40 ∨ c = 91) := by simpa [Bool.or_eq_true] using h1
        refine ⟨_, rfl, c, _, rfl, rfl, _, rfl, ?_⟩
        rw [in_shut]
        refine ite2 (fun h2 => ?_) (fun h2 => ?_)
        · have h2' : c = 41 ∨ c = 93 := by simpa [Bool.or_eq_true] using h2
          have epush : push c st = st.dropLast := by
            unfold push
            rw [if_pos (by omega), if_neg (by omega), List.append_nil]
          obtain ⟨t, ht⟩ := top_of_may hmay (by omega)
          have hsp := last_split ht
          have htn : (nm st).getLast? = some (if t = 124 then 91 else t) := by
            rw [hsp, nm_app]
            simp
          refine ⟨_, rfl, .inl ⟨rfl, _, SqL.of hp⟩, p, _, _, rfl, rfl, hp, sgs_end htn, ?_⟩
          refine fin _ _ rfl (fun b o e => by rw [upd_ne (ne_of_none e np)]; exact s1 b o e) ?_ ?_
          · rw [upd_same, sgs_drop, epush]
            congr 3
            unfold nm
            rw [List.map_dropLast]
          · rw [epush]
            have ec : st.count 40 = st.dropLast.count 40 + [t].count 40 := by
              conv => lhs; rw [hsp]
              rw [List.count_append]
            rw [ht] at hmay
            rcases h2' with rfl | rfl
            · have et : t = 40 := by
                unfold may at hmay
                simpa using hmay
              subst et
              unfold depC
              rw [if_neg (by omega), if_pos rfl]
              have : ([40] : List Nat).count 40 = 1 := rfl
              omega
            · have et : t = 124 := by
                unfold may at hmay
                simpa using hmay
              subst et
              unfold depC
              rw [if_neg (by omega), if_neg (by omega)]
              have : ([124] : List Nat).count 40 = 0 := rfl
              omega
        · have h2' : ¬ (c = 41 ∨ c = 93) := by simpa [Bool.or_eq_true] using h2
          have edep : depC c (st.count 40 : Nat) = (st.count 40 : Nat) := by
            unfold depC
            rw [if_neg (by omega), if_neg (by omega)]
          by_cases h3 : c = 124
          · subst h3
            obtain ⟨t, ht⟩ := top_of_may hmay (by omega)
            have hsp := last_split ht
            have epush : push 124 st = st.dropLast ++ [124] := by
              unfold push
              rw [if_pos (by omega), if_pos (by omega)]
            rw [ht] at hmay
            have et : t = 91 ∨ t = 124 := by
              unfold may at hmay
              simpa [Bool.or_eq_true] using hmay
            refine fin _ _ rfl s1 ?_ ?_
            · rw [hp, epush, nm_app, if_pos rfl]
              congr 3
              conv => lhs; rw [hsp]
              rw [nm_app]
              congr 2
              rcases et with rfl | rfl <;> rfl
            · rw [epush, edep, List.count_append]
              have ec : st.count 40 = st.dropLast.count 40 + [t].count 40 := by
                conv => lhs; rw [hsp]
                rw [List.count_append]
              have e1 : ([124] : List Nat).count 40 = 0 := rfl
              have e2 : ([t] : List Nat).count 40 = 0 := by rcases et with rfl | rfl <;> rfl
              omega
          · have epush : push c st = st := by
              unfold push
              rw [if_neg (by omega), if_neg (by omega), List.append_nil]
            refine fin _ _ rfl s1 ?_ ?_
            · rw [epush]; exact hp
            · rw [epush, edep]
    · rintro σ H' ⟨st, most, v3, rfl, s1, hp, hsc, hb, hd, hl, hix⟩
      have hn : x.cps.size = (cp x).length := len_cp x
      rw [hn, List.drop_length] at hd
      refine ⟨_, rfl, ?_⟩
      have k := kQ _ s1
      rw [hd] at k
      exact k

end
end K17
set_option Elab.async false
set_option linter.all false
set_option maxRecDepth 100000
set_option maxHeartbeats 4000000
namespace K17
open PySem PySem.Spec L2
open PySem.W (Frag)
section
variable {P : Program} {w : World} {K : Frag} {mg : Str → Option Value} {base : Heap} {A : Adr}

theorem kb1 {x qual p : Str} {st : Stmt} {f : Addr} {fd : FuncData} (F : Fun K x qual st f fd)
    (h1 : ∀ (kV doc pm : Value) (an : Option Addr) (cdv ct u : Value), bindArgs (PySem.W.fnOf x qual (defArgs st) (defBody st) (defScope st) .none kV doc pm an cdv ct) ⟨[u], []⟩ = pure [(p, u)])
    (h2 : ∀ (kV doc pm : Value) (an : Option Addr) (cdv ct u : Value), bindArgs (PySem.W.fnOf x qual (defArgs st) (defBody st) (defScope st) .none kV doc pm an cdv ct) ⟨[], [(p, u)]⟩ = pure [(p, u)]) :
    KBinds K fd [p] [p] (fun us ws => us ++ ws) (fun vs zs => vs ++ zs) := by
  obtain ⟨oc, od, kV, doc, pm, an, cdv, ct, osl, rfl, lk, hcd⟩ := F.ex
  refine ⟨fun s us ws _ hl => ?_, fun r1 r2 => r1.append r2⟩
  rcases us with _ | ⟨u, _ | ⟨u2, us⟩⟩
  · rcases ws with _ | ⟨u, _ | ⟨u2, ws⟩⟩
    · cases hl
    · exact BindsTo.of_eq (h2 _ _ _ _ _ _ u)
    · cases hl
  · rcases ws with _ | ⟨u2, ws⟩
    · exact BindsTo.of_eq (h1 _ _ _ _ _ _ u)
    · simp at hl
  · simp at hl
theorem Txt.kb_check_script_text (T : Txt K mg A) : KBinds K A.fd_check_script ["text"] ["text"] (fun us ws => us ++ ws) (fun vs zs => vs ++ zs) := kb1 T.F_check_script (fun _ _ _ _ _ _ _ => rfl) fun _ _ _ _ _ _ _ => rfl
theorem Txt.kb_is_script_thing (T : Txt K mg A) : KBinds K A.fd_is_script ["thing"] ["thing"] (fun us ws => us ++ ws) (fun vs zs => vs ++ zs) := kb1 T.F_is_script (fun _ _ _ _ _ _ _ => rfl) fun _ _ _ _ _ _ _ => rfl
/-- what is told of a value -/
def spHeard (K : Frag) : Sp := fun vs H Q _ => ∃ v b, vs = [v, .bl b] ∧ Asked K H v ∧ (chk v = none → ∀ H', Same H H' → Q .non H') ∧
  (∀ k, chk v = some k → ∀ H' l, Same H H' → H l = none → H' l = some (.lst [.int k, .bl true]) → Q (.ref l) H')
theorem ok__law_heard (T : Txt K mg A) : FnG P w K mg base 4 A.f__law_heard A.fd__law_heard ["_law_it", "_law_is_named"] (spHeard K) := by
  refine T.F__law_heard.okG sc__law_heard (fun vs H Q E h => ?_) (fun cdv A0 outer s H vs Q E hr hgd0 h => ?_)
  · obtain ⟨v, b, rfl, _⟩ := h
    rfl
  · have hgd := hgd0
    have G_check_script : FnG P w K mg base 3 A.f_check_script A.fd_check_script ["text"] (spChk K A.c_BadScript) := ok_check_script T
    have kb_check_script_text := T.kb_check_script_text
    obtain ⟨v, b, rfl, hv, kN, kL⟩ := h
    refine ⟨_, (pss_cons (ps_set (i := 2) sc__law_heard.nd rfl (Or.inl rfl) pe_str)
  (pss_cons (ps_try_as (i := 3) rfl rfl sc__law_heard.nd rfl rfl ⟨rfl, by decide, .inl T.x_BadScript.gC⟩ takes0 (fun W pn xe tk _ => (pss_one (ps_set (i := 2) sc__law_heard.nd rfl (Or.inl rfl) (pe_ifExp (pt_val (pv 1)) (pe_callK0G G_check_script hr hgd rfl T.m_check_script T.F_check_script.kp kb_check_script_text (fun σ => passAt tk σ) (pk_cons (pv 0) pk_nil)) (pe_callG G_check_script hr hgd rfl T.m_check_script T.F_check_script.kp T.b_check_script .nil (fun σ => passAt tk σ) (by exact (pa_cons (pv 0) pa_nil)))))))
  (fun a oe cls d pn hz hf => (pss_one (ps_set (i := 2) sc__law_heard.nd rfl (Or.inl rfl) (pe_lst (pa_cons (pe_xf (xfc_BadScript T.x_BadScript) T.x_BadScript.noN hz hf (pv 3)) (pa_cons (pe_callB (call_isED T.e_BadScript hz hf) (by rfl) T.n_isinstance (by decide +kernel) (by exact (pa_cons (pv 3) (pa_cons (pe_glob (v := .ref A.c_LoomError) rfl T.g_LoomError rfl) pa_nil)))) pa_nil)))))))
  (pss_one (ps_ret (pv 2))))), ?_⟩
    refine ⟨_, rfl, ?_⟩
    have fin : ∀ (σ : L2.St), σ = [some v, some (.bl b), some (.str "odd"), none] → spChk K A.c_BadScript [v] H (fun x H1 => gName 2 x σ H1 (tRet (tVar 2) { nx := fun x H' => Q V.non H', rt := Q })) (WE
      (wAs K (Value.ref A.c_BadScript) 3
        (fun a cls d => tAsg (tLst (tCons (tXf a cls d A.c_BadScript "place" (tVar 3)) (tCons (tCB (fun xs H_1 Q => cls = Value.ref A.c_BadScript ∧ (∃ d_1 fs, d = some d_1 ∧ H_1 d_1 = some (HO.xd fs)) ∧ rIsE K A.c_BadScript a xs H_1 Q) (tCons (tVar 3) (tCons (tC (V.ref A.c_LoomError)) tNil))) tNil))) (gName 2))
        (fun x x_1 x_2 x_3 => False)
        { nx := tRet (tVar 2) { nx := fun x H' => Q V.non H', rt := Q }, rt := Q }) σ) := by
      rintro σ rfl
      refine ⟨v, rfl, hv, fun hn H' hs => ⟨_, rfl, kN hn H' hs⟩, fun k hk H' d hs hd => ?_⟩
      refine ⟨true, T.te_BadScript, fun _ a ha => ?_, fun z => by cases z⟩
      refine ⟨_, rfl, rfl, rfl, d, _, .int k, rfl, upd_same, rfl, ?_⟩
      refine ⟨_, rfl, rfl, ⟨d, _, rfl, upd_same⟩, .ref A.c_LoomError, .ref A.c_LoomError, true, rfl, (fun u r => r), T.ki_BadScript, ?_⟩
      refine ⟨by show 2 ≤ sizeLine; decide, fun p np => ?_⟩
      refine ⟨_, rfl, ?_⟩
      refine kL k hk _ p (fun c o e => ?_) ?_ upd_same
      · rw [upd_ne (ne_of_none (show upd H' d _ c = some o by rw [upd_ne (ne_of_none (hs c o e) hd)]; exact hs c o e) np), upd_ne (ne_of_none (hs c o e) hd)]
        exact hs c o e
      · refine Same.free hs ?_
        by_cases q : p = d
        · subst q; rw [upd_same] at np; cases np
        · rw [upd_ne q] at np; exact np
    cases b with
    | true => exact ⟨_, rfl, iteT ⟨_, rfl, fin _ rfl⟩⟩
    | false => exact ⟨_, rfl, iteF ⟨_, rfl, fin _ rfl⟩⟩

end
end K17
set_option Elab.async false
set_option linter.all false
set_option maxRecDepth 100000
set_option maxHeartbeats 4000000
namespace K17
open PySem PySem.Spec L2
open PySem.W (Frag)
section
variable {P : Program} {w : World} {K : Frag} {mg : Str → Option Value} {base : Heap} {A : Adr}

theorem Asked.same {H H' : Hp} (e : Same H H') {v : V} (h : Asked K H v) : Asked K H' v := by
  rcases h with h | h
  · exact .inl h
  · exact .inr (h.same e)
theorem scan_le : ∀ (l : List Nat) (st : List Nat) (star : Bool) (k n : Nat), scan st star k l = some n → n ≤ k + l.length
  | [], st, star, k, n, h => by
    unfold scan at h
    split at h
    · cases h; exact Nat.le_refl _
    · cases h
  | c :: r, st, star, k, n, h => by
    unfold scan at h
    split at h
    · cases h; exact Nat.le_add_right _ _
    · have := scan_le r _ _ _ _ h
      rw [List.length_cons]
      omega
theorem place_le {l : List Nat} {n : Nat} (h : place l = some n) : n ≤ l.length := by
  have := scan_le l _ _ _ _ h
  omega
theorem chk_small {H : Hp} {v : V} (h : Asked K H v) : ∀ k, chk v = some k → k.natAbs.log2 < 1920 := by
  intro k hk
  rcases h with ⟨x, rfl, hx⟩ | h
  · have hk' : (place (cp x)).map Int.ofNat = some k := hk
    cases hp : place (cp x) with
    | none => rw [hp] at hk'; cases hk'
    | some n =>
      rw [hp] at hk'
      have e : k = (n : Int) := (Option.some.inj hk').symm
      have hn : n ≤ (cp x).length := place_le hp
      rw [e]
      show n.log2 < 1920
      have : n < 2 ^ 20 := by rw [← len_cp] at hn; exact Nat.lt_of_le_of_lt (Nat.le_trans hn hx) (by decide)
      have h2 : n.log2 ≤ 20 := by
        rcases Nat.eq_zero_or_pos n with z | z
        · subst z; decide
        · exact Nat.le_of_lt ((Nat.log2_lt (by omega)).mpr this)
      omega
  · rw [chk_not h] at hk
    cases hk
    decide
theorem heard_of {H : Hp} {v : V} {b : Bool} {Q : VK} {E : XK} (ha : Asked K H v) (h : ∀ u H', Same H H' → Dp K H' u (tellD (chk v)) → Q u H') : spHeard K [v, .bl b] H Q E := by
  refine ⟨v, b, rfl, ha, fun hc H' s => h _ _ s (by rw [hc]; exact .non), fun k hc H' l s _ e => h _ _ s (by rw [hc]; exact .lst (SqL.of e) (.cons (.int k) (.cons (.bl true) .nil)))⟩
theorem heard_rd {σ : L2.St} {H : Hp} {v : V} {b : Bool} {Q : VK} (h0 : σ[0]? = some (some v)) (ha : Asked K H v) (h : ∀ u H', Same H H' → Dp K H' u (tellD (chk v)) → Q u H') :
    tCallG (spHeard K) [] (fun σ => E0) (tCons (tVar 0) (tCons (tC (.bl b)) tNil)) σ H Q := by
  obtain ⟨v', b', e, r⟩ := heard_of (b := b) (E := E0) ha h
  exact ⟨v, h0, v', b', e, r⟩
def spRight (K : Frag) : Sp := fun vs H Q _ => ∃ v d, vs = [v] ∧ Asked K H v ∧ Rp K H v d ∧ d.showable = true ∧ d.depth ≤ 60 ∧ d.shown.length ≤ sizeLine ∧ ∀ H', Same H H' → Q (.bl true) H'
def oI : Option Int → V
  | none => .non
  | some k => .int k
theorem chk_iff {v : V} {H : Hp} (h : Asked K H v) : (placeV v == none) = (chk v == none) := by
  rcases h with ⟨x, rfl, _⟩ | h
  · show (place (cp x) == none) = ((place (cp x)).map Int.ofNat == none)
    cases place (cp x) <;> rfl
  · rw [placeV_not h, chk_not h]; rfl
/-- the place, as the law finds it -/
theorem place_rd {σ : L2.St} {H : Hp} {v : V} {Q : VK} (h0 : σ[0]? = some (some v)) (hv : Asked K H v) (h : ∀ H', Same H H' → Q (oI (chk v)) H') :
    tIf (tB (tCB (rIsi K) (tCons (tVar 0) (tCons (tC (V.ty "str")) tNil)))) (tCallG spBrk [] (fun σ => E0) (tCons (tVar 0) tNil)) (tUn (rU fun i => V.int (-i)) (tC (V.int 1))) σ H Q := by
  rcases hv with ⟨x, rfl, hx⟩ | hv
  · refine ⟨_, h0, _, _, .type "str", .type "str", true, rfl, .ty _, .base (.str x), kit_ty (by decide +kernel), ?_⟩
    refine ⟨_, rfl, ?_⟩
    refine iteT ?_
    refine ⟨_, h0, x, rfl, hx, fun H' hs => ?_⟩
    have e : oI (chk (.str x)) = oV (place (cp x)) := by
      show oI ((place (cp x)).map Int.ofNat) = _
      cases place (cp x) <;> rfl
    rw [← e]
    exact h H' hs
  · obtain ⟨tv, hv1, hv2⟩ := id hv
    refine ⟨_, h0, _, _, tv, .type "str", false, rfl, .ty _, hv1, hv2, ?_⟩
    refine ⟨_, rfl, ?_⟩
    refine iteF ?_
    refine ⟨1, rfl, ?_⟩
    have k := h H (Same.refl _)
    rw [chk_not hv] at k
    exact k
theorem same_new {H H' : Hp} {p : Addr} {o : HO} (s : Same H H') (np : H' p = none) : Same H (upd H' p o) := fun c q e => by
  rw [upd_ne (ne_of_none (s c q e) np)]
  exact s c q e
theorem due_rd {σ : L2.St} {H : Hp} {r : Option Int} {Q : VK} (h2 : σ[2]? = some (some (oI r))) (h : ∀ u H', Same H H' → Dp K H' u (tellD r) → Q u H') :
    tIf (tTest (tOp (fun x y H Q => y = V.non ∧ Q (V.bl (decide (x = V.non))) H) (tVar 2) (tC V.non))) (tC V.non) (tLst (tCons (tVar 2) (tCons (tC (V.bl true)) tNil))) σ H Q := by
  refine ⟨_, h2, rfl, _, rfl, ?_⟩
  cases r with
  | none => exact iteT (h _ _ (Same.refl _) .non)
  | some k =>
    refine iteF ⟨_, h2, by show 2 ≤ sizeLine; decide, fun p np => ?_⟩
    exact h _ _ (same_new (Same.refl _) np) (.lst (SqL.of upd_same) (.cons (.int k) (.cons (.bl true) .nil)))
theorem rp2 {H : Hp} {p : Addr} {u u' : V} {dd : PyData} (np : H p = none) (h1 : Dp K H u dd) (h2 : Dp K H u' dd) (hf : (PyData.list [dd, dd]).hasDict = false) : Rp K (upd H p (.lst [u, u'])) (.ref p) (.list [dd, dd]) := by
  have s := same_new (o := .lst [u, u']) (Same.refl _) np
  exact .inl ⟨.lst (SqL.of upd_same) (.cons (h1.same s) (.cons (h2.same s) .nil)), hf⟩
theorem ok__law_right (T : Txt K mg A) : FnG P w K mg base 5 A.f__law_right A.fd__law_right ["_law_it"] (spRight K) := by
  refine T.F__law_right.okG sc__law_right (fun vs H Q E h => ?_) (fun cdv A0 outer s H vs Q E hr hgd0 h => ?_)
  · obtain ⟨v, d, rfl, _⟩ := h
    rfl
  · have hgd := hgd0
    have G__law_place : FnG P w K mg base 1 A.f__law_place A.fd__law_place ["_law_page"] spBrk := ok__law_place T
    have G__law_heard : FnG P w K mg base 4 A.f__law_heard A.fd__law_heard ["_law_it", "_law_is_named"] (spHeard K) := ok__law_heard T
    have G_is_script : FnG P w K mg base 3 A.f_is_script A.fd_is_script ["thing"] (spIs K) := ok_is_script T
    have kb_is_script_thing := T.kb_is_script_thing
    obtain ⟨v, d, rfl, hv, hR, hsh, hdp, hlen, kQ⟩ := h
    refine ⟨_, (pss_cons (ps_par (i := 1) (j := 2) rfl sc__law_right.nd rfl rfl (by decide) rfl rfl (by exact (pa_cons (pe_callB (call_reprD hgd hr.units) (by rfl) T.n_repr (by decide +kernel) (by exact (pa_cons (pv 0) pa_nil))) (pa_cons (pe_ifExp (pt_val (pe_callB (call_isi) (by rfl) T.n_isinstance (by decide +kernel) (by exact (pa_cons (pv 0) (pa_cons (pe_bltn (v := .ty "str") (u := .type "str") (by rfl) T.n_str (by decide +kernel) rfl) pa_nil))))) (pe_callG G__law_place (hr.mono (by decide)) hgd rfl T.m__law_place T.F__law_place.kp T.b__law_place .nil noX (by exact (pa_cons (pv 0) pa_nil))) (pe_un un_neg pe_int)) pa_nil))) (by rfl))
  (pss_cons (ps_set (i := 3) sc__law_right.nd rfl (Or.inl rfl) (pe_ifExp (pt_cmpR op_isN (pv 2) pe_non (nomark _)) pe_non (pe_lst (pa_cons (pv 2) (pa_cons pe_bl pa_nil)))))
  (pss_cons (ps_if (pt_cmpR op_ne (pe_callB (call_reprD hgd hr.units) (by rfl) T.n_repr (by decide +kernel) (by exact (pa_cons (pe_lst (pa_cons (pe_callG G__law_heard (hr.mono (by decide)) hgd rfl T.m__law_heard T.F__law_heard.kp T.b__law_heard .nil noX (by exact (pa_cons (pv 0) (pa_cons pe_bl pa_nil)))) (pa_cons (pe_callG G__law_heard (hr.mono (by decide)) hgd rfl T.m__law_heard T.F__law_heard.kp T.b__law_heard .nil noX (by exact (pa_cons (pv 0) (pa_cons pe_bl pa_nil)))) pa_nil))) pa_nil))) (pe_callB (call_reprD hgd hr.units) (by rfl) T.n_repr (by decide +kernel) (by exact (pa_cons (pe_lst (pa_cons (pv 3) (pa_cons (pv 3) pa_nil))) pa_nil))) (nomark _))
  (pss_one (ps_ret pe_bl))
  pss_nil)
  (pss_cons (ps_set (i := 4) sc__law_right.nd rfl (Or.inl rfl) (pe_cmpR op_isN (pv 2) pe_non (nomark _)))
  (pss_one (ps_ret (pe_and (pe_cmpR op_eq (pe_callB (call_reprD hgd hr.units) (by rfl) T.n_repr (by decide +kernel) (by exact (pa_cons (pe_lst (pa_cons (pe_callG G_is_script (hr.mono (by decide)) hgd rfl T.m_is_script T.F_is_script.kp T.b_is_script .nil noX (by exact (pa_cons (pv 0) pa_nil))) (pa_cons (pe_callK0G G_is_script (hr.mono (by decide)) hgd rfl T.m_is_script T.F_is_script.kp kb_is_script_thing noX (pk_cons (pv 0) pk_nil)) pa_nil))) pa_nil))) (pe_callB (call_reprD hgd hr.units) (by rfl) T.n_repr (by decide +kernel) (by exact (pa_cons (pe_lst (pa_cons (pv 4) (pa_cons (pv 4) pa_nil))) pa_nil))) (nomark _)) (pe_one (pe_cmpR op_eq (pe_callB (call_reprD hgd hr.units) (by rfl) T.n_repr (by decide +kernel) (by exact (pa_cons (pv 0) pa_nil))) (pv 1) (nomark _)))))))))), ?_⟩
    refine ⟨_, rfl, v, d, rfl, hR, hsh, hdp, hlen, ?_⟩
    refine place_rd rfl hv fun H1 s1 => ?_
    refine ⟨_, _, rfl, ?_⟩
    refine due_rd (K := K) rfl fun du H2 s2 dd2 => ?_
    have s12 := s1.trans s2
    refine heard_rd rfl (hv.same s12) fun u1 H3 s3 d1 => ?_
    have s13 := s12.trans s3
    refine heard_rd rfl (hv.same s13) fun u2 H4 s4 d2 => ?_
    have s14 := s13.trans s4
    obtain ⟨o1, o2, o3, o4⟩ := two_ok tellD_flat (tellD_ok (chk_small hv))
    refine ⟨by show 2 ≤ sizeLine; decide, fun p np => ?_⟩
    refine ⟨_, _, rfl, rp2 np (d1.same s4) d2 o1, o2, o3, o4, ?_⟩
    have s15 := same_new (o := .lst [u1, u2]) s14 np
    have s25 := same_new (o := .lst [u1, u2]) (s3.trans s4) np
    refine ⟨_, rfl, _, rfl, by show 2 ≤ sizeLine; decide, fun p2 np2 => ?_⟩
    refine ⟨_, _, rfl, rp2 np2 (dd2.same s25) (dd2.same s25) o1, o2, o3, o4, ?_⟩
    have s16 := same_new (o := .lst [du, du]) s15 np2
    refine ⟨rfl, _, rfl, ?_⟩
    refine ite2 (fun z => ?_) (fun _ => ?_)
    · simp at z
    refine ⟨_, rfl, rfl, ?_⟩
    have eso : decide (oI (chk v) = V.non) = (placeV v == none) := by
      rw [chk_iff hv]
      cases chk v with
      | none => rfl
      | some k => rfl
    rw [eso]
    refine ⟨_, rfl, v, rfl, hv.same s16, fun H5 s5 => ?_⟩
    have s17 := s16.trans s5
    refine ⟨_, rfl, v, rfl, hv.same s17, fun H6 s6 => ?_⟩
    have s18 := s17.trans s6
    refine ⟨by show 2 ≤ sizeLine; decide, fun p3 np3 => ?_⟩
    have hb : (PyData.bool (placeV v == none)).hasDict = false ∧ (PyData.bool (placeV v == none)).depth ≤ 1 := ⟨rfl, Nat.zero_le _⟩
    have hb2 : (PyData.bool (placeV v == none)).showable = true ∧ (PyData.bool (placeV v == none)).shown.length ≤ 2000 := by
      cases placeV v == none <;> exact ⟨rfl, by decide⟩
    obtain ⟨q1, q2, q3, q4⟩ := two_ok hb hb2
    refine ⟨_, _, rfl, rp2 np3 (.bl _) (.bl _) q1, q2, q3, q4, ?_⟩
    have s19 := same_new (o := .lst [.bl (placeV v == none), .bl (placeV v == none)]) s18 np3
    refine ⟨_, rfl, _, rfl, by show 2 ≤ sizeLine; decide, fun p4 np4 => ?_⟩
    refine ⟨_, _, rfl, rp2 np4 (.bl _) (.bl _) q1, q2, q3, q4, ?_⟩
    have s20 := same_new (o := .lst [.bl (placeV v == none), .bl (placeV v == none)]) s19 np4
    refine ⟨rfl, _, rfl, ?_⟩
    refine ite2 (fun _ => ?_) (fun z => ?_)
    · refine ⟨_, rfl, v, d, rfl, hR.same s20, hsh, hdp, hlen, ?_⟩
      refine ⟨_, rfl, rfl, ?_⟩
      have k := kQ _ s20
      have e : decide (V.str d.shown = V.str d.shown) = true := decide_eq_true rfl
      rw [e]
      exact k
    · simp at z

end
end K17
set_option Elab.async false
set_option linter.all false
set_option maxRecDepth 100000
set_option maxHeartbeats 4000000
namespace K17
open PySem PySem.Spec L2
open PySem.W (Frag)
section
variable {P : Program} {w : World} {K : Frag} {mg : Str → Option Value} {base : Heap} {A : Adr}

/-! ### the deck -/
abbrev DKL (l : Addr) (m t : Int) : List (Key × V) := [(.inr "cells", .ref l), (.inr "mixed", .int m), (.inr "draws", .int t)]
def Deck (H : Hp) (d l : Addr) (n : Nat) : Prop := ∃ (ns : List Int) (m t : Int), H d = some (.dK (DKL l m t)) ∧ H l = some (.lst (ns.map V.int)) ∧ ns.length ≤ 63 ∧ (0 ≤ m ∧ m < 2147483647) ∧ 0 ≤ t ∧ t ≤ n
/-- all but the deck stays -/
def Keep (d l : Addr) (H H' : Hp) : Prop := ∀ b o, b ≠ d → b ≠ l → H b = some o → H' b = some o
theorem Keep.refl {d l : Addr} {H : Hp} : Keep d l H H := fun _ _ _ _ e => e
theorem Keep.trans {d l : Addr} {H H1 H2 : Hp} (a : Keep d l H H1) (b : Keep d l H1 H2) : Keep d l H H2 := fun x o h1 h2 e => b x o h1 h2 (a x o h1 h2 e)
theorem Same.keep {d l : Addr} {H H' : Hp} (s : Same H H') : Keep d l H H' := fun b o _ _ e => s b o e
theorem Deck.ne {H : Hp} {d l : Addr} {n : Nat} (h : Deck H d l n) : d ≠ l := by
  obtain ⟨ns, m, t, h1, h2, _⟩ := h
  rintro rfl
  rw [h1] at h2
  cases h2
theorem Deck.same {H H' : Hp} {d l : Addr} {n : Nat} (s : Same H H') (h : Deck H d l n) : Deck H' d l n := by
  obtain ⟨ns, m, t, h1, h2, r⟩ := h
  exact ⟨ns, m, t, s _ _ h1, s _ _ h2, r⟩
theorem Deck.mono {H : Hp} {d l : Addr} {n k : Nat} (h : Deck H d l n) (hn : n ≤ k) : Deck H d l k := by
  obtain ⟨ns, m, t, h1, h2, h3, h4, h5, h6⟩ := h
  exact ⟨ns, m, t, h1, h2, h3, h4, h5, by omega⟩
theorem Deck.ne_d {H : Hp} {d l : Addr} {n : Nat} (h : Deck H d l n) {p : Addr} (np : H p = none) : p ≠ d ∧ p ≠ l := by
  obtain ⟨ns, m, t, h1, h2, _⟩ := h
  refine ⟨?_, ?_⟩
  · rintro rfl
    rw [h1] at np
    cases np
  · rintro rfl
    rw [h2] at np
    cases np
theorem put_draws {l : Addr} {m t u : Int} : putK (DKL l m t) (.inr "draws") (.int u) = DKL l m u := by rfl
theorem val_cells {l : Addr} {m t : Int} : valV (DKL l m t) (.inr "cells") = some (.ref l) := by rfl
theorem val_mixed {l : Addr} {m t : Int} : valV (DKL l m t) (.inr "mixed") = some (.int m) := by rfl
theorem val_draws {l : Addr} {m t : Int} : valV (DKL l m t) (.inr "draws") = some (.int t) := by rfl
theorem get_cells {H : Hp} {d l : Addr} {m t : Int} (h : H d = some (.dK (DKL l m t))) : DGet H d (.str "cells") (some (.ref l)) := .inl ⟨_, .inr "cells", .inl h, rfl, val_cells.symm⟩
theorem get_mixed {H : Hp} {d l : Addr} {m t : Int} (h : H d = some (.dK (DKL l m t))) : DGet H d (.str "mixed") (some (.int m)) := .inl ⟨_, .inr "mixed", .inl h, rfl, val_mixed.symm⟩
theorem get_draws {H : Hp} {d l : Addr} {m t : Int} (h : H d = some (.dK (DKL l m t))) : DGet H d (.str "draws") (some (.int t)) := .inl ⟨_, .inr "draws", .inl h, rfl, val_draws.symm⟩
theorem put_draws' {H : Hp} {d l : Addr} {m t u : Int} (h : H d = some (.dK (DKL l m t))) : DPut H d (.str "draws") (.int u) (upd H d (.dK (DKL l m u))) := .inl ⟨_, .inr "draws", h, rfl, by show 3 < sizeLine; decide, by rw [put_draws]⟩
theorem ints_ok (ns : List Int) : (ns.map V.int).all okV = true := by
  rw [List.all_eq_true]
  intro x hx
  obtain ⟨i, _, rfl⟩ := List.mem_map.mp hx
  rfl
abbrev rMd : R2 := rI (fun x j => 0 < j) fun i j => V.int (i % j)
abbrev rMl : R2 := rI CMul fun i j => V.int (i * j)
abbrev rAd : R2 := rI0 fun i j => V.int (i + j)
abbrev rNt : List V → Hp → VK → Prop := fun xs H Q => (∃ i, xs = [V.int i] ∧ Q (V.int i) H) ∨ ∃ k, xs = [V.bl k] ∧ Q (V.int (if k = true then 1 else 0)) H
abbrev drawTail : TS := tSeq (tAsg (tOp rMd (tOp rMl (tCB rNt (tCons (tOp rAd (tOp rAd (tOp rMd (tCB rNt (tCons (tVar 3) tNil)) (tC (V.int 2147483629))) (tOp rMl (tOp rMl (tC (V.int 60623)) (tVar 2)) (tVar 2))) (tC (V.int 327))) tNil)) (tC (V.int 40692))) (tC (V.int 2147483647))) (gName 3))
  (tSeq (tAsg (tOp rMd (tCB rNt (tCons (tOp rAd (tOp rAd (tOp rMl (tVar 3) (tVar 3)) (tOp rMl (tC (V.int 69621)) (tVar 2))) (tC (V.int 327))) tNil)) (tC (V.int 2147483579))) (gName 3))
    (tRet (tOp rMd (tOp (rI CDivN fun i j => V.int (i.fdiv j)) (tOp rMd (tCB rNt (tCons (tOp rMl (tVar 3) (tC (V.int 39373))) tNil)) (tC (V.int 2147483549))) (tC (V.int 64))) (tVar 1))))
theorem cmulL {i j : Int} (h : 0 ≤ i ∧ i < 18446744073709551616) : CMul i j := .inl ⟨by omega, by omega⟩
theorem cmulR {i j : Int} (h : 0 ≤ j ∧ j < 18446744073709551616) : CMul i j := .inr ⟨by omega, by omega⟩
theorem md_lt (x : Int) {j : Int} (h : 0 < j) : 0 ≤ x % j ∧ x % j < j := ⟨Int.emod_nonneg _ (by omega), Int.emod_lt_of_pos _ h⟩
theorem draw_tail {a c : Option V} {j t F : Int} {D : Ends} {H : Hp} {σ : L2.St} (hσ : σ = [a, some (.int j), some (.int t), some (.int F), c]) (hj : 0 < j) (ht : 0 ≤ t ∧ t < 18446744073709551616) (h : ∀ r, 0 ≤ r → r < j → D.rt (.int r) H) : drawTail D σ H := by
  subst hσ
  refine ⟨_, rfl, .inl ⟨_, rfl, ?_⟩⟩
  refine ⟨_, _, rfl, rfl, (by decide : (0 : Int) < 2147483629), ?_⟩
  refine ⟨_, rfl, _, _, rfl, rfl, cmulL (by decide), ?_⟩
  refine ⟨_, rfl, _, _, rfl, rfl, cmulR ht, ?_⟩
  refine ⟨_, _, rfl, rfl, ?_⟩
  refine ⟨_, _, rfl, rfl, .inl ⟨_, rfl, ?_⟩⟩
  refine ⟨_, _, rfl, rfl, cmulR (by decide), ?_⟩
  refine ⟨_, _, rfl, rfl, (by decide : (0 : Int) < 2147483647), ?_⟩
  refine ⟨_, rfl, _, rfl, _, _, rfl, rfl, cmulL ⟨(md_lt _ (by decide)).1, Int.lt_trans (md_lt _ (by decide)).2 (by decide)⟩, ?_⟩
  refine ⟨_, rfl, _, _, rfl, rfl, cmulL (by decide), ?_⟩
  refine ⟨_, _, rfl, rfl, ?_⟩
  refine ⟨_, _, rfl, rfl, .inl ⟨_, rfl, ?_⟩⟩
  refine ⟨_, _, rfl, rfl, (by decide : (0 : Int) < 2147483579), ?_⟩
  refine ⟨_, rfl, _, _, rfl, rfl, cmulR (by decide), .inl ⟨_, rfl, ?_⟩⟩
  refine ⟨_, _, rfl, rfl, (by decide : (0 : Int) < 2147483549), ?_⟩
  refine ⟨_, _, rfl, rfl, ⟨by decide, by decide⟩, ?_⟩
  refine ⟨_, rfl, _, _, rfl, rfl, hj, ?_⟩
  exact h _ (md_lt _ hj).1 (md_lt _ hj).2
def spDraw : Sp := fun vs H Q _ => ∃ d l n j, vs = [.ref d, .int j] ∧ Deck H d l n ∧ n ≤ 1073741824 ∧ 0 < j ∧ j < 1073741824 ∧ ∀ r H', 0 ≤ r → r < j → Deck H' d l (n + 1) → Keep d l H H' → Q (.int r) H'
theorem ok__law_draw (T : Txt K mg A) : FnG P w K mg base 1 A.f__law_draw A.fd__law_draw ["_law_deck_here", "_law_below"] (spDraw) := by
  refine T.F__law_draw.okG sc__law_draw (fun vs H Q E h => ?_) (fun cdv A0 outer s H vs Q E hr hgd0 h => ?_)
  · obtain ⟨d, l, n, j, rfl, _⟩ := h
    rfl
  · have hgd := hgd0
    obtain ⟨d, l, n, j, rfl, hdk, hn, hj0, hj, kQ⟩ := h
    obtain ⟨ns, m, t, h1, h2, h3, h4, h5, h6⟩ := id hdk
    refine ⟨_, (pss_cons (ps_dput (hu_of hr) (pv 0) pe_str (pe_op op_add (pe_dget (hu_of hr) (pv 0) pe_str (fun _ _ => rfl)) pe_int) rfl)
  (pss_cons (ps_par (i := 2) (j := 3) rfl sc__law_draw.nd rfl rfl (by decide) rfl rfl (by exact (pa_cons (pe_dget (hu_of hr) (pv 0) pe_str (fun _ _ => rfl)) (pa_cons (pe_dget (hu_of hr) (pv 0) pe_str (fun _ _ => rfl)) pa_nil))) (by rfl))
  (pss_cons (ps_if (pt_cmpR (op_neD hr.units) (pe_dget (hu_of hr) (pv 0) pe_str (fun _ _ => rfl)) (pe_lst pa_nil) (nomark _))
  (pss_cons (ps_set (i := 4) sc__law_draw.nd rfl (Or.inl rfl) (pe_callTy (call_int1) (by rfl) T.n_int (by decide +kernel) (by exact (pa_cons (pe_bm0 PySem.F.plainAttrs_list PySem.F.slot_list_pop PySem.F.type_list_pop mt_pop (pe_dget (hu_of hr) (pv 0) pe_str (fun _ _ => rfl))) pa_nil))))
  (pss_cons (ps_if (pt_cmpR op_ge (pv 4) (pe_op op_pow pe_int pe_int) (nomark _))
  (pss_cons (ps_expr (pe_bm PySem.F.plainAttrs_list PySem.F.slot_list_append PySem.F.type_list_append mt_append (pe_dget (hu_of hr) (pv 0) pe_str (fun _ _ => rfl)) (pa_cons (pe_op op_fdivN (pv 4) (pv 1)) pa_nil)))
  (pss_one (ps_ret (pe_op op_mod (pv 4) (pv 1)))))
  pss_nil)
  (pss_one (ps_set (i := 3) sc__law_draw.nd rfl (Or.inl rfl) (pe_op op_add (pv 3) (pe_op op_mod (pv 4) pe_int))))))
  pss_nil)
  (pss_cons (ps_set (i := 3) sc__law_draw.nd rfl (Or.inl rfl) (pe_op op_mod (pe_op op_mul (pe_callTy (call_int1) (by rfl) T.n_int (by decide +kernel) (by exact (pa_cons (pe_op op_add (pe_op op_add (pe_op op_mod (pe_callTy (call_int1) (by rfl) T.n_int (by decide +kernel) (by exact (pa_cons (pv 3) pa_nil))) pe_int) (pe_op op_mul (pe_op op_mul pe_int (pv 2)) (pv 2))) pe_int) pa_nil))) pe_int) pe_int))
  (pss_cons (ps_set (i := 3) sc__law_draw.nd rfl (Or.inl rfl) (pe_op op_mod (pe_callTy (call_int1) (by rfl) T.n_int (by decide +kernel) (by exact (pa_cons (pe_op op_add (pe_op op_add (pe_op op_mul (pv 3) (pv 3)) (pe_op op_mul pe_int (pv 2))) pe_int) pa_nil))) pe_int))
  (pss_one (ps_ret (pe_op op_mod (pe_op op_fdivN (pe_op op_mod (pe_callTy (call_int1) (by rfl) T.n_int (by decide +kernel) (by exact (pa_cons (pe_op op_mul (pv 3) pe_int) pa_nil))) pe_int) pe_int) (pv 1))))))))), ?_⟩
    refine ⟨_, rfl, d, _, rfl, get_draws h1, ?_⟩
    refine ⟨_, _, rfl, rfl, ?_⟩
    refine ⟨_, rfl, d, _, rfl, put_draws' h1, ?_⟩
    have hne : d ≠ l := hdk.ne
    have g1 : upd H d (.dK (DKL l m (t + 1))) d = some (.dK (DKL l m (t + 1))) := upd_same
    have g2 : upd H d (.dK (DKL l m (t + 1))) l = some (.lst (ns.map V.int)) := by rw [upd_ne (Ne.symm hne)]; exact h2
    refine ⟨_, rfl, d, _, rfl, get_draws g1, ?_⟩
    refine ⟨_, rfl, d, _, rfl, get_mixed g1, ?_⟩
    refine ⟨_, _, rfl, ?_⟩
    have ht : 0 ≤ t + 1 ∧ t + 1 < 18446744073709551616 := by omega
    have hdk0 : ∀ (H' : Hp) (ns' : List Int), H' d = some (.dK (DKL l m (t + 1))) → H' l = some (.lst (ns'.map V.int)) → ns'.length ≤ 63 → Deck H' d l (n + 1) := fun H' ns' e1 e2 e3 => ⟨ns', m, t + 1, e1, e2, e3, h4, by omega, by omega⟩
    have k0 : Keep d l H (upd H d (.dK (DKL l m (t + 1)))) := fun b o n1 n2 e => by rw [upd_ne n1]; exact e
    refine ⟨_, rfl, d, _, rfl, get_cells g1, Nat.zero_le _, fun p np => ?_⟩
    have pd : p ≠ d := fun z => by rw [z, g1] at np; cases np
    have pl : p ≠ l := fun z => by rw [z, g2] at np; cases np
    have g3 : upd (upd H d (.dK (DKL l m (t + 1)))) p (.lst []) d = some (.dK (DKL l m (t + 1))) := by rw [upd_ne (Ne.symm pd)]; exact g1
    have g4 : upd (upd H d (.dK (DKL l m (t + 1)))) p (.lst []) l = some (.lst (ns.map V.int)) := by rw [upd_ne (Ne.symm pl)]; exact g2
    have k1 : Keep d l H (upd (upd H d (.dK (DKL l m (t + 1)))) p (.lst [])) := k0.trans (Same.keep (same_new (Same.refl _) np))
    refine rNe_nil (SqL.of g4) (ints_ok ns) upd_same ?_
    refine ⟨_, rfl, ?_⟩
    refine ite2 (fun hne0 => ?_) (fun hne0 => ?_)
    · rcases List.eq_nil_or_concat ns with z | ⟨r, c, z⟩
      · rw [z] at hne0
        cases hne0
      rw [List.concat_eq_append] at z
      subst z
      rw [List.length_append, List.length_singleton] at h3
      have g4' : upd (upd H d (.dK (DKL l m (t + 1)))) p (.lst []) l = some (.lst (r.map V.int ++ [.int c])) := by rw [g4, List.map_append]; rfl
      have hget : (r.map V.int ++ [V.int c])[(r.map V.int ++ [V.int c]).length - 1]? = some (.int c) := by simp
      have hdrop : (r.map V.int ++ [V.int c]).dropLast = r.map V.int := by simp
      refine ⟨_, rfl, d, _, rfl, get_cells g3, .inl ⟨rfl, _, SqL.of g4'⟩, l, _, .int c, rfl, rfl, g4', hget, .inl ⟨_, rfl, ?_⟩⟩
      rw [hdrop]
      have g5 : upd (upd (upd H d (.dK (DKL l m (t + 1)))) p (.lst [])) l (.lst (r.map V.int)) d = some (.dK (DKL l m (t + 1))) := by rw [upd_ne hne]; exact g3
      have g6 : upd (upd (upd H d (.dK (DKL l m (t + 1)))) p (.lst [])) l (.lst (r.map V.int)) l = some (.lst (r.map V.int)) := upd_same
      have k2 : Keep d l H (upd (upd (upd H d (.dK (DKL l m (t + 1)))) p (.lst [])) l (.lst (r.map V.int))) := k1.trans fun b o n1 n2 e => by rw [upd_ne n2]; exact e
      refine ⟨_, rfl, _, _, rfl, rfl, ⟨by decide, by decide, by decide⟩, _, _, rfl, rfl, ?_⟩
      refine ⟨_, rfl, ?_⟩
      refine ite2 (fun hbig => ?_) (fun hbig => ?_)
      · refine ⟨_, rfl, d, _, rfl, get_cells g5, .inl ⟨rfl, _, SqL.of g6⟩, _, rfl, _, rfl, _, _, rfl, rfl, ⟨by omega, by omega⟩, l, _, _, rfl, rfl, g6, ?_, ?_⟩
        · rw [List.length_map]
          exact Nat.lt_of_le_of_lt (show r.length ≤ 63 by omega) (by decide)
        refine ⟨_, rfl, _, rfl, _, _, rfl, rfl, hj0, ?_⟩
        refine kQ _ _ (md_lt _ hj0).1 (md_lt _ hj0).2 (hdk0 _ (r ++ [c.fdiv j]) ?_ ?_ ?_) (k2.trans fun b o n1 n2 e => by rw [upd_ne n2]; exact e)
        · rw [upd_ne hne]; exact g5
        · rw [upd_same, List.map_append]; rfl
        · rw [List.length_append, List.length_singleton]; omega
      · refine ⟨_, rfl, _, rfl, _, _, rfl, rfl, (by decide : (0 : Int) < 2147483563), ?_⟩
        refine ⟨_, _, rfl, rfl, ?_⟩
        exact draw_tail rfl hj0 ht fun x h0 hr2 => kQ x _ h0 hr2 (hdk0 _ r g5 g6 (by omega)) k2
    · exact draw_tail rfl hj0 ht fun r h0 hr2 => kQ r _ h0 hr2 (hdk0 _ ns g3 g4 h3) k1

end
end K17
set_option Elab.async false
set_option linter.all false
set_option maxRecDepth 100000
set_option maxHeartbeats 4000000
namespace K17
open PySem PySem.Spec L2
open PySem.W (Frag)
section
variable {P : Program} {w : World} {K : Frag} {mg : Str → Option Value} {base : Heap} {A : Adr}

theorem cut_take {ns : List Int} {k : Nat} : cutV (ns.map V.int) none (some (k : Int)) = (ns.take k).map V.int := by
  unfold cutV
  rw [HT.sIx_none, HT.sIx_nat, List.drop_zero, Nat.sub_zero, ← List.map_take, List.length_map]
  congr 1
  rcases Nat.le_total k ns.length with z | z
  · rw [Nat.min_eq_left z]
  · rw [Nat.min_eq_right z, List.take_length, List.take_of_length_le z]
def spDeck (K : Frag) : Sp := fun vs H Q _ => ∃ (a : Addr) (ns : List Int), vs = [.ref a] ∧ SqL K H a (ns.map V.int) ∧ ∀ d l H', Same H H' → H d = none → H l = none → Deck H' d l 0 → Q (.ref d) H'
theorem ok__law_deck (T : Txt K mg A) : FnG P w K mg base 1 A.f__law_deck A.fd__law_deck ["_law_script_here"] (spDeck K) := by
  refine T.F__law_deck.okG sc__law_deck (fun vs H Q E h => ?_) (fun cdv A0 outer s H vs Q E hr hgd0 h => ?_)
  · obtain ⟨a, ns, rfl, _⟩ := h
    rfl
  · have hgd := hgd0
    obtain ⟨a, ns, rfl, ha, kQ⟩ := h
    refine ⟨_, (pss_cons (ps_par (i := 1) (j := 2) rfl sc__law_deck.nd rfl rfl (by decide) rfl rfl (by exact (pa_cons (pe_callTy (call_list_of) (by rfl) T.n_list (by decide +kernel) (by exact (pa_cons (pe_slice sl_list (pv 0) po_none (po_some pe_int)) pa_nil))) (pa_cons (pe_op op_add pe_int (pe_op op_mod (pe_callTy (call_int1) (by rfl) T.n_int (by decide +kernel) (by exact (pa_cons (pe_callB (cr_sum rfl) (by rfl) T.n_sum (by decide +kernel) (by exact (pa_cons (pe_slice sl_list (pv 0) po_none (po_some pe_int)) pa_nil))) pa_nil))) pe_int)) pa_nil))) (by rfl))
  (pss_cons (ps_for PassesOwn.never rfl (pi_list (pv 1)) (pg_name (i := 3) sc__law_deck.nd rfl (Or.inl rfl))
  (pss_one (ps_set (i := 2) sc__law_deck.nd rfl (Or.inl rfl) (pe_op op_mod (pe_callTy (call_int1) (by rfl) T.n_int (by decide +kernel) (by exact (pa_cons (pe_op op_add (pe_op op_add (pe_op op_mul (pv 2) pe_int) (pe_op op_mod (pe_callTy (call_int1) (by rfl) T.n_int (by decide +kernel) (by exact (pa_cons (pv 3) pa_nil))) pe_int)) pe_int) pa_nil))) pe_int))))
  (pss_one (ps_ret (pe_disp (pps_cons pe_str (pe_revL (pv 1)) (pps_cons pe_str (pv 2) (pps_cons pe_str pe_int pps_nil))) (by rfl) (by rfl) (fun z => by cases z) (by decide)))))), ?_⟩
    have e63 : cutV (ns.map V.int) none (some 63) = (ns.take 63).map V.int := cut_take (k := 63)
    have e1 : cutV (ns.map V.int) none (some 1) = (ns.take 1).map V.int := cut_take (k := 1)
    refine ⟨_, rfl, 63, rfl, a, _, rfl, ha, fun p np => ?_⟩
    rw [e63]
    refine ⟨p, _, rfl, .inl (SqL.of upd_same), fun l nl => ?_⟩
    have s1 := same_new (o := .lst ((ns.take 63).map V.int)) (Same.refl H) np
    have s2 := same_new (o := .lst ((ns.take 63).map V.int)) s1 nl
    refine ⟨_, rfl, 1, rfl, a, _, rfl, s2.seq ha, fun q nq => ?_⟩
    rw [e1]
    refine ⟨q, ns.take 1, rfl, SqL.of upd_same, ?_⟩
    refine .inl ⟨_, rfl, ?_⟩
    refine ⟨_, _, rfl, rfl, (by decide : (0 : Int) < 1000003), ?_⟩
    refine ⟨_, _, rfl, rfl, ?_⟩
    refine ⟨_, _, rfl, ?_⟩
    have s3 := same_new (o := .lst ((ns.take 1).map V.int)) s2 nq
    have ll : upd (upd (upd H p (.lst ((ns.take 63).map V.int))) l (.lst ((ns.take 63).map V.int))) q (.lst ((ns.take 1).map V.int)) l = some (.lst ((ns.take 63).map V.int)) := by
      rw [upd_ne, upd_same]
      rintro rfl
      rw [upd_same] at nq
      cases nq
    have hl0 : H l = none := Same.free s1 nl
    generalize hH : upd (upd (upd H p (.lst ((ns.take 63).map V.int))) l (.lst ((ns.take 63).map V.int))) q (.lst ((ns.take 1).map V.int)) = H3 at *
    refine ⟨_, rfl, l, rfl, ⟨_, SqL.of ll⟩, ?_⟩
    refine for_it (walk_list (xs := (ns.take 63).map V.int)) (fun i σ H' => ∃ (m : Int) (v : Option V), σ = [some (.ref a), some (.ref l), some (.int m), v] ∧ H' = H3 ∧ 0 ≤ m ∧ m < 2147483647)
      ⟨_, none, rfl, rfl, ?_, ?_⟩ (fun i σ H' _ h => ?_) ?_ ?_
    · have := md_lt ((ns.take 1).sum) (show (0 : Int) < 1000003 by decide)
      omega
    · have := md_lt ((ns.take 1).sum) (show (0 : Int) < 1000003 by decide)
      omega
    · obtain ⟨m, v, _, rfl, _⟩ := h
      exact SqL.of ll
    · rintro i y σ H1 H2 hi ⟨m, v, rfl, rfl, hm0, hm1⟩ ⟨rfl, hy⟩
      rw [List.getElem?_map] at hy
      cases hc : (ns.take 63)[i]? with
      | none => rw [hc] at hy; cases hy
      | some c =>
        rw [hc] at hy
        obtain rfl : V.int c = y := Option.some.inj hy
        refine ⟨_, rfl, _, _, rfl, rfl, cmulR (by decide), ?_⟩
        refine ⟨_, rfl, .inl ⟨_, rfl, ?_⟩⟩
        refine ⟨_, _, rfl, rfl, (by decide : (0 : Int) < 2147483629), ?_⟩
        refine ⟨_, _, rfl, rfl, ?_⟩
        refine ⟨_, _, rfl, rfl, .inl ⟨_, rfl, ?_⟩⟩
        refine ⟨_, _, rfl, rfl, (by decide : (0 : Int) < 2147483587), ?_⟩
        exact ⟨_, _, rfl, rfl, (md_lt _ (by decide)).1, Int.lt_trans (md_lt _ (by decide)).2 (by decide)⟩
    · rintro σ H1 ⟨m, v, rfl, rfl, hm0, hm1⟩
      intro d nd
      have nel : l ≠ d := by rintro rfl; rw [ll] at nd; cases nd
      have s4 := same_new (o := .dK []) s3 nd
      refine ⟨_, rfl, l, _, rfl, SqL.of (by rw [upd_ne nel]; exact ll), fun l2 nl2 => ?_⟩
      have ne2 : d ≠ l2 := by rintro rfl; rw [upd_same] at nl2; cases nl2
      refine ⟨_, rfl, ?_⟩
      refine ⟨by rw [upd_ne ne2]; exact upd_same, DKL l2 m 0, rfl, by show 3 ≤ 15; decide, ?_⟩
      have s5 := same_new (o := .lst ((ns.take 63).map V.int).reverse) s4 nl2
      have hd0 : H d = none := Same.free s3 nd
      have hl20 : H l2 = none := Same.free s4 nl2
      refine kQ d l2 _ (fun b o e => ?_) hd0 hl20 ⟨(ns.take 63).reverse, m, 0, upd_same, ?_, ?_, ⟨hm0, hm1⟩, Int.le_refl _, Int.le_refl _⟩
      · rw [upd_ne (ne_of_none e hd0)]; exact s5 b o e
      · rw [upd_ne (Ne.symm ne2), upd_same, List.map_reverse]
      · rw [List.length_reverse, List.length_take]
        exact Nat.min_le_left _ _

end
end K17
set_option Elab.async false
set_option linter.all false
set_option maxRecDepth 100000
set_option maxHeartbeats 4000000
namespace K17
open PySem PySem.Spec L2
open PySem.W (Frag)
section
variable {P : Program} {w : World} {K : Frag} {mg : Str → Option Value} {base : Heap} {A : Adr}

theorem Keep.seq {d l p : Addr} {H H' : Hp} {xs : List V} (k : Keep d l H H') (h1 : p ≠ d) (h2 : p ≠ l) (h : SqL K H p xs) : SqL K H' p xs := by
  rcases h with (h | ⟨o, h⟩) | h
  · exact .inl (.inl (k _ _ h1 h2 h))
  · exact .inl (.inr ⟨o, k _ _ h1 h2 h⟩)
  · exact .inr h
/-- one of a list, or a sign of a text -/
def spPick (K : Frag) : Sp := fun vs H Q _ => ∃ d l n, Deck H d l n ∧ n ≤ 1073741824 ∧
  ((∃ (p : Addr) (xs : List V), vs = [.ref d, .ref p] ∧ SqL K H p xs ∧ p ≠ d ∧ p ≠ l ∧ 0 < xs.length ∧ xs.length < 1000 ∧ ∀ (y : V) H', y ∈ xs → Deck H' d l (n + 1) → Keep d l H H' → Q y H') ∨
   (∃ (x : Str), vs = [.ref d, .str x] ∧ 0 < x.length ∧ x.length < 1000 ∧ ∀ (c : Nat) H', c ∈ cp x → Deck H' d l (n + 1) → Keep d l H H' → Q (.str (sg c)) H'))
theorem ok__law_pick (T : Txt K mg A) : FnG P w K mg base 2 A.f__law_pick A.fd__law_pick ["_law_deck_here", "_law_some"] (spPick K) := by
  refine T.F__law_pick.okG sc__law_pick (fun vs H Q E h => ?_) (fun cdv A0 outer s H vs Q E hr hgd0 h => ?_)
  · obtain ⟨d, l, n, hdk, hn, ⟨p, xs, rfl, _⟩ | ⟨x, rfl, _⟩⟩ := h <;>
    rfl
  · have hgd := hgd0
    have G__law_draw : FnG P w K mg base 1 A.f__law_draw A.fd__law_draw ["_law_deck_here", "_law_below"] spDraw := ok__law_draw T
    obtain ⟨d, l, n, hdk, hn, h⟩ := h
    refine ⟨_, (pss_one (ps_ret (pe_ix ix_seq (pv 1) (pe_callG G__law_draw (hr.mono (by first | decide | omega)) hgd rfl T.m__law_draw T.F__law_draw.kp T.b__law_draw .nil noX (by exact (pa_cons (pv 0) (pa_cons (pe_callB (CallR.or call_len_seq call_len_str) (by rfl) T.n_len (by decide +kernel) (by exact (pa_cons (pv 1) pa_nil))) pa_nil)))) (fun _ _ => rfl)))), ?_⟩
    rcases h with ⟨p, xs, rfl, hs, hpd, hpl, h0, h1, kQ⟩ | ⟨x, rfl, h0, h1, kQ⟩
    · refine ⟨_, rfl, _, rfl, _, rfl, .inl ⟨p, xs, rfl, .inl hs, ?_⟩⟩
      refine ⟨d, l, n, (xs.length : Int), rfl, hdk, hn, by omega, by omega, fun r H' r0 r1 dk' kp => ?_⟩
      obtain ⟨i, rfl⟩ := Int.eq_ofNat_of_zero_le r0
      have hi : i < xs.length := by omega
      have hy : xs[i]? = some xs[i] := by simp [hi]
      exact .inl ⟨p, xs, _, _, rfl, rfl, kp.seq hpd hpl hs, atI_nat hy, kQ _ _ (List.getElem_mem hi) dk' kp⟩
    · refine ⟨_, rfl, _, rfl, _, rfl, .inr ⟨x, rfl, Nat.le_of_lt (small1000 (Nat.le_of_lt h1)), ?_⟩⟩
      refine ⟨d, l, n, (x.length : Int), rfl, hdk, hn, by omega, by omega, fun r H' r0 r1 dk' kp => ?_⟩
      obtain ⟨i, rfl⟩ := Int.eq_ofNat_of_zero_le r0
      have hi : i < (cp x).length := by rw [← len_cp]; exact Int.ofNat_lt.mp r1
      have hy : (cp x)[i]? = some (cp x)[i] := by simp [hi]
      exact .inr (.inr ⟨x, _, _, rfl, rfl, Nat.le_of_lt (small1000 (Nat.le_of_lt h1)), atI_nat hy, kQ _ _ (List.getElem_mem hi) dk' kp⟩)

end
end K17
set_option Elab.async false
set_option linter.all false
set_option maxRecDepth 100000
set_option maxHeartbeats 4000000
namespace K17
open PySem PySem.Spec L2
open PySem.W (Frag)
section
variable {P : Program} {w : World} {K : Frag} {mg : Str → Option Value} {base : Heap} {A : Adr}

def stp : Nat → Nat
  | 0 => 1
  | k + 1 => 3 * (4 * stp k) + 5
def drs : Nat → Nat
  | 0 => 2
  | k + 1 => 2 + 3 * (1 + 4 * drs k)
abbrev SL (k : Nat) : Nat := 4 * stp k
abbrev DB (k : Nat) : Nat := 1 + 4 * drs k
theorem SL_le {k : Nat} (h : k ≤ 3) : SL k ≤ 20000 := by
  have : k = 0 ∨ k = 1 ∨ k = 2 ∨ k = 3 := by omega
  rcases this with rfl | rfl | rfl | rfl <;> decide
def Asc (x : Str) : Prop := ∀ c ∈ cp x, c < 128
theorem cp_app (x y : Str) : cp (x ++ y) = cp x ++ cp y := by
  show (x.cps ++ y.cps).toList = _
  simp
theorem Asc.app {x y : Str} (h1 : Asc x) (h2 : Asc y) : Asc (x ++ y) := by
  intro c hc
  rw [cp_app] at hc
  rcases List.mem_append.mp hc with h | h
  · exact h1 c h
  · exact h2 c h
theorem Asc.nil : Asc Str.empty := fun c hc => by cases hc
theorem Asc.sg {c : Nat} (h : c < 128) : Asc (sg c) := fun b hb => by
  rw [List.mem_singleton.mp (show b ∈ [c] from hb)]
  exact h
theorem Asc.join {s : Str} (hs : Asc s) : ∀ {ys : List Str}, (∀ y ∈ ys, Asc y) → Asc (Str.join s ys)
  | [], _ => Asc.nil
  | [x], h => h x (List.mem_singleton.mpr rfl)
  | x :: y :: r, h => ((h x List.mem_cons_self).app hs).app (Asc.join hs fun z hz => h z (List.mem_cons_of_mem _ hz))
theorem asc_of (x : Str) (h : (cp x).all (fun c => decide (c < 128)) = true) : Asc x := fun c hc => of_decide_eq_true (List.all_eq_true.mp h c hc)
theorem sum_le {ys : List Str} {m : Nat} (h : ∀ y ∈ ys, y.length ≤ m) : (ys.map fun x => x.length).sum ≤ ys.length * m := by
  induction ys with
  | nil => exact Nat.zero_le _
  | cons y r ih =>
    have h1 := h y List.mem_cons_self
    have h2 := ih fun z hz => h z (List.mem_cons_of_mem _ hz)
    rw [List.map_cons, List.sum_cons, List.length_cons, Nat.succ_mul]
    omega
def spScr : Nat → Sp
  | 0 => fun _ _ _ _ => False
  | k + 1 => fun vs H Q _ => ∃ (d l : Addr) (n : Nat) (x : Str), vs = [.ref d, .str x, .int (k : Nat)] ∧ Deck H d l n ∧ n + DB k ≤ 1073741824 ∧ 0 < x.length ∧ x.length < 1000 ∧ Asc x ∧
      ∀ y H', y.length ≤ SL k → Asc y → Deck H' d l (n + DB k) → Keep d l H H' → Q (.str y) H'
theorem pick_lit {σ : L2.St} {H : Hp} {Q : VK} {d l : Addr} {n : Nat} {t : TA} {xs : List V} (h0 : σ[0]? = some (some (.ref d))) (hdk : Deck H d l n) (hn : n ≤ 1073741824) (ht : ∀ R : List V → Hp → Prop, R xs H → t σ H R)
    (hl : 0 < xs.length) (hl2 : xs.length < 1000) (h : ∀ (y : V) H', y ∈ xs → Deck H' d l (n + 1) → Keep d l H H' → Q y H') :
    tCallG (spPick K) [] (fun σ => E0) (tCons (tVar 0) (tCons (tLst t) tNil)) σ H Q := by
  refine ⟨_, h0, ht _ ⟨Nat.le_of_lt (small1000 (Nat.le_of_lt hl2)), fun p np => ?_⟩⟩
  have s := same_new (o := .lst xs) (Same.refl H) np
  obtain ⟨pd, pl⟩ := hdk.ne_d np
  exact ⟨d, l, n, hdk.same s, hn, .inl ⟨p, xs, rfl, SqL.of upd_same, pd, pl, hl, hl2, fun y H' hy dk kp => h y H' hy dk ((Same.keep s).trans kp)⟩⟩
theorem lits4 {y : V} (h : y ∈ [V.int 0, .int 1, .int 1, .int 2, .int 2, .int 3, .int 4]) : ∃ r : Nat, y = .int (r : Int) ∧ r ≤ 4 := by
  simp only [List.mem_cons, List.not_mem_nil, or_false] at h
  rcases h with rfl | rfl | rfl | rfl | rfl | rfl | rfl
  · exact ⟨0, rfl, by decide⟩
  · exact ⟨1, rfl, by decide⟩
  · exact ⟨1, rfl, by decide⟩
  · exact ⟨2, rfl, by decide⟩
  · exact ⟨2, rfl, by decide⟩
  · exact ⟨3, rfl, by decide⟩
  · exact ⟨4, rfl, by decide⟩
theorem lits3 {y : V} (h : y ∈ [V.int 2, .int 2, .int 3]) : ∃ r : Nat, y = .int (r : Int) ∧ r ≤ 3 := by
  simp only [List.mem_cons, List.not_mem_nil, or_false] at h
  rcases h with rfl | rfl | rfl
  · exact ⟨2, rfl, by decide⟩
  · exact ⟨2, rfl, by decide⟩
  · exact ⟨3, rfl, by decide⟩
theorem line_ge : 16777216 ≤ sizeLine := by decide
theorem ok__law_script (T : Txt K mg A) (k : Nat) (hk : k ≤ 3) (G__law_script : FnG P w K mg base (k + 2) A.f__law_script A.fd__law_script ["_law_deck_here", "_law_signs", "_law_deep"] (spScr k)) : FnG P w K mg base (k + 3) A.f__law_script A.fd__law_script ["_law_deck_here", "_law_signs", "_law_deep"] (spScr (k + 1)) := by
  refine T.F__law_script.okG sc__law_script (fun vs H Q E h => ?_) (fun cdv A0 outer s H vs Q E hr hgd0 h => ?_)
  · obtain ⟨d, l, n, x, rfl, _⟩ := h
    rfl
  · have hgd := hgd0
    have G__law_draw : FnG P w K mg base 1 A.f__law_draw A.fd__law_draw ["_law_deck_here", "_law_below"] spDraw := ok__law_draw T
    have G__law_pick : FnG P w K mg base 2 A.f__law_pick A.fd__law_pick ["_law_deck_here", "_law_some"] (spPick K) := ok__law_pick T
    obtain ⟨d, l, n, x, rfl, hdk, hn, hx0, hx1, hxa, kQ⟩ := h
    refine ⟨_, (pss_cons (ps_set (i := 3) sc__law_script.nd rfl (Or.inl rfl) pe_str)
  (pss_cons (ps_for PassesOwn.never rfl (pi_range1 (by rfl) T.n_range (by exact (pa_cons (pe_callG G__law_pick (hr.mono (by first | decide | omega)) hgd rfl T.m__law_pick T.F__law_pick.kp T.b__law_pick .nil noX (by exact (pa_cons (pv 0) (pa_cons (pe_lst (pa_cons pe_int (pa_cons pe_int (pa_cons pe_int (pa_cons pe_int (pa_cons pe_int (pa_cons pe_int (pa_cons pe_int pa_nil)))))))) pa_nil)))) pa_nil))) (pg_name (i := 4) sc__law_script.nd rfl (Or.inl rfl))
  (pss_cons (ps_set (i := 5) sc__law_script.nd rfl (Or.inl rfl) (pe_ifExp (pt_cmpR op_gt (pv 2) pe_int (nomark _)) (pe_callG G__law_draw (hr.mono (by first | decide | omega)) hgd rfl T.m__law_draw T.F__law_draw.kp T.b__law_draw .nil noX (by exact (pa_cons (pv 0) (pa_cons pe_int pa_nil)))) pe_int))
  (pss_one (ps_if (pt_cmpR op_gt (pv 5) pe_int (nomark _))
  (pss_one (ps_set (i := 3) sc__law_script.nd rfl (Or.inl rfl) (pe_op op_add_str (pe_op op_add_str (pe_op op_add_str (pv 3) pe_str) (pe_callG G__law_script (hr.mono (by first | decide | omega)) hgd rfl T.m__law_script T.F__law_script.kp T.b__law_script .nil noX (by exact (pa_cons (pv 0) (pa_cons (pv 1) (pa_cons (pe_op op_sub (pv 2) pe_int) pa_nil)))))) pe_str)))
  (pss_one (ps_if (pt_cmpR op_eq (pv 5) pe_int (nomark _))
  (pss_cons (ps_setLc (i := 6) (own := [("_law_k", 7)]) (g := gName 7) rfl sc__law_script.nd rfl rfl (sw_true rfl rfl rfl (by decide +kernel)) (pi_range1 (by rfl) T.n_range (by exact (pa_cons (pe_callG G__law_pick (hr.mono (by first | decide | omega)) hgd rfl T.m__law_pick T.F__law_pick.kp T.b__law_pick .nil noX (by exact (pa_cons (pv 0) (pa_cons (pe_lst (pa_cons pe_int (pa_cons pe_int (pa_cons pe_int pa_nil)))) pa_nil)))) pa_nil))) (blkOk_by (own := [("_law_k", 7)]) (N := ["_law_deck_here", "_law_signs", "_law_deep", "_law_page", "_law_go", "_law_way", "_law_lots", "_law_k"]) (sc := defScope s__law_script) (by decide +kernel)) (fun _ _ _ _ _ => (pg_name (i := 7) sc__law_script.nd rfl (Or.inl rfl))) (fun _ _ _ _ _ => pts_nil) (fun _ _ _ _ _ => (pe_callG G__law_script (hr.mono (by first | decide | omega)) hgd rfl T.m__law_script T.F__law_script.kp T.b__law_script .nil noX (by exact (pa_cons (pv 0) (pa_cons (pv 1) (pa_cons (pe_op op_sub (pv 2) pe_int) pa_nil)))))))
  (pss_one (ps_set (i := 3) sc__law_script.nd rfl (Or.inl rfl) (pe_op op_add_str (pe_op op_add_str (pe_op op_add_str (pv 3) pe_str) (pe_join pe_str (pv 6))) pe_str))))
  (pss_one (ps_set (i := 3) sc__law_script.nd rfl (Or.inl rfl) (pe_op op_add_str (pv 3) (pe_callG G__law_pick (hr.mono (by first | decide | omega)) hgd rfl T.m__law_pick T.F__law_pick.kp T.b__law_pick .nil noX (by exact (pa_cons (pv 0) (pa_cons (pv 1) pa_nil)))))))))))))
  (pss_one (ps_ret (pv 3))))), ?_⟩
    have hS := SL_le hk
    have hline := line_ge
    have eS : SL k = 4 * stp k := rfl
    have eD : DB k = 1 + 4 * drs k := rfl
    refine pick_lit rfl hdk (by omega) (fun R r => r) (by decide) (by decide) fun y H1 hy dk1 kp1 => ?_
    obtain ⟨r, rfl, hr4⟩ := lits4 hy
    refine ⟨_, rfl, by omega, by omega, ?_⟩
    refine for_it walk_range (fun i σ H' => ∃ (page : Str) (v4 v5 v6 v7 : Option V), σ = [some (.ref d), some (.str x), some (.int (k : Nat)), some (.str page), v4, v5, v6, v7] ∧ page.length ≤ i * stp k ∧ Asc page ∧ Deck H' d l (n + 1 + i * drs k) ∧ Keep d l H H')
      ⟨_, none, none, none, none, rfl, Nat.zero_le _, Asc.nil, by rw [Nat.zero_mul]; exact dk1, kp1⟩ (fun _ _ _ _ _ => trivial) ?_ ?_
    · rintro i y σ H2 H3 hi ⟨page, v4, v5, v6, v7, rfl, hpl, hpa, dk2, kp2⟩ ⟨rfl, rfl⟩
      have hi4 : i < 4 := by
        have : ((r : Int)).toNat = r := by omega
        omega
      have em : (i + 1) * stp k = i * stp k + stp k := Nat.succ_mul ..
      have ed : (i + 1) * drs k = i * drs k + drs k := Nat.succ_mul ..
      have hp4 : i * stp k + stp k ≤ 4 * stp k := by rw [← em]; exact Nat.mul_le_mul_right _ (by omega)
      have hd4 : i * drs k + drs k ≤ 4 * drs k := by rw [← ed]; exact Nat.mul_le_mul_right _ (by omega)
      -- one sign more
      have hone : ∀ (m : Nat) (H4 : Hp) (v5 : Option V), Deck H4 d l m → m + 1 ≤ n + 1 + (i + 1) * drs k → Keep d l H H4 → 1 ≤ stp k →
          spPick K [.ref d, .str x] H4 (fun y H5 => ∃ i1 j1, V.str page = .str i1 ∧ y = .str j1 ∧ i1.length + j1.length ≤ sizeLine ∧ ∃ (page : Str) (v4 v5' v6' v7' : Option V), [some (.ref d), some (.str x), some (.int (k : Nat)), some (.str (i1 ++ j1)), some (.int ((0 : Int) + i)), v5, v6, v7] = [some (.ref d), some (.str x), some (.int (k : Nat)), some (.str page), v4, v5', v6', v7'] ∧ page.length ≤ (i + 1) * stp k ∧ Asc page ∧ Deck H5 d l (n + 1 + (i + 1) * drs k) ∧ Keep d l H H5) E0 := by
        intro m H4 v5 dk4 hm kp4 h1
        refine ⟨d, l, m, dk4, by omega, .inr ⟨x, rfl, hx0, hx1, fun c H5 hc dk5 kp5 => ?_⟩⟩
        refine ⟨page, sg c, rfl, rfl, ?_, page ++ sg c, _, _, _, _, rfl, ?_, hpa.app (Asc.sg (hxa c hc)), dk5.mono hm, kp4.trans kp5⟩
        · have : (sg c).length = 1 := rfl
          omega
        · rw [Str.length_append, em]
          have : (sg c).length = 1 := rfl
          omega
      cases k with
      | zero =>
        refine ⟨_, rfl, _, _, rfl, rfl, _, rfl, ?_⟩
        refine ite2 (fun z => ?_) (fun _ => ?_)
        · simp at z
        refine ⟨_, rfl, _, _, rfl, rfl, _, rfl, iteF ?_⟩
        refine ⟨_, rfl, rfl, _, rfl, ?_⟩
        refine ite2 (fun z => ?_) (fun _ => ?_)
        · simp at z
        obtain ⟨d', l', m', hh⟩ := hone _ H3 _ dk2 (by rw [ed]; show _ ≤ _ + (_ + 2); omega) kp2 (by decide)
        exact ⟨_, rfl, _, rfl, _, rfl, d', l', m', hh⟩
      | succ k =>
        refine ⟨_, rfl, _, _, rfl, rfl, _, rfl, ?_⟩
        refine ite2 (fun _ => ?_) (fun z => ?_)
        · refine ⟨_, rfl, d, l, _, 5, rfl, dk2, by omega, by decide, by decide, fun way H4 w0 w1 dk4 kp4 => ?_⟩
          have kp24 := kp2.trans kp4
          have es : stp (k + 1) = 3 * (4 * stp k) + 5 := rfl
          have edr : drs (k + 1) = 2 + 3 * (1 + 4 * drs k) := rfl
          have ek : (((k + 1 : Nat) : Int)) - 1 = (k : Nat) := by omega
          have eSk : SL k = 4 * stp k := rfl
          have eDk : DB k = 1 + 4 * drs k := rfl
          refine ⟨_, rfl, _, _, rfl, rfl, _, rfl, ?_⟩
          refine ite2 (fun _ => ?_) (fun _ => ?_)
          · refine ⟨_, rfl, _, _, rfl, rfl, ?_, ?_⟩
            · have : (Str.ofString "(").length = 1 := rfl
              omega
            refine ⟨_, rfl, _, rfl, _, rfl, _, _, rfl, rfl, d, l, _, x, congrArg (fun z => [V.ref d, V.str x, V.int z]) ek, dk4, by omega, hx0, hx1, hxa, fun y H5 hyl hya dk5 kp5 => ?_⟩
            refine ⟨_, _, rfl, rfl, ?_, ?_⟩
            · rw [Str.length_append]
              have : (Str.ofString "(").length = 1 := rfl
              omega
            refine ⟨_, _, rfl, rfl, ?_, ?_⟩
            · rw [Str.length_append, Str.length_append]
              have : (Str.ofString "(").length = 1 := rfl
              have : (Str.ofString ")*").length = 2 := rfl
              omega
            refine ⟨_, _, _, _, _, rfl, ?_, ((hpa.app (asc_of _ (by decide +kernel))).app hya).app (asc_of _ (by decide +kernel)), dk5.mono (by omega), kp24.trans kp5⟩
            rw [Str.length_append, Str.length_append, Str.length_append]
            have : (Str.ofString "(").length = 1 := rfl
            have : (Str.ofString ")*").length = 2 := rfl
            omega
          · refine ⟨_, rfl, rfl, _, rfl, ?_⟩
            refine ite2 (fun _ => ?_) (fun _ => ?_)
            · refine pick_lit rfl dk4 (by omega) (fun R r => r) (by decide) (by decide) fun y H5 hy dk5 kp5 => ?_
              obtain ⟨r2, rfl, hr3⟩ := lits3 hy
              refine ⟨_, rfl, by omega, by omega, fun D nD => ?_⟩
              have kp25 := kp24.trans kp5
              have sD := same_new (o := .lst []) (Same.refl H5) nD
              obtain ⟨nd, nl⟩ := dk5.ne_d nD
              have er : ((r2 : Int)).toNat = r2 := by omega
              refine lc_it walk_range (fun i2 H' => ∃ ys : List Str, H' D = some (.lst (ys.map V.str)) ∧ ys.length = i2 ∧ (∀ y ∈ ys, y.length ≤ SL k ∧ Asc y) ∧ Deck H' d l (n + 1 + i * drs (k + 1) + 1 + 1 + i2 * DB k) ∧ Keep d l H H')
                ⟨[], upd_same, rfl, (fun y hy => by cases hy), by rw [Nat.zero_mul]; exact dk5.same sD, kp25.trans (Same.keep sD)⟩ (fun _ _ _ _ => trivial) ?_ ?_
              · rintro i2 y H6 H7 hi2 ⟨ys, hD, hly, hys, dk6, kp6⟩ ⟨rfl, rfl⟩
                have hi3 : i2 < 3 := by omega
                have e1 : (i2 + 1) * DB k = i2 * DB k + DB k := Nat.succ_mul ..
                have e3 : i2 * DB k + DB k ≤ 3 * DB k := by rw [← e1]; exact Nat.mul_le_mul_right _ (by omega)
                have eDk : DB k = 1 + 4 * drs k := rfl
                refine ⟨rfl, ?_⟩
                unfold tYes
                refine iteT ?_
                refine ⟨_, rfl, _, rfl, _, rfl, _, _, rfl, rfl, d, l, _, x, congrArg (fun z => [V.ref d, V.str x, V.int z]) ek, dk6, by omega, hx0, hx1, hxa, fun y H8 hyl hya dk7 kp7 => ?_⟩
                have hD8 : H8 D = some (.lst (ys.map V.str)) := kp7 D _ nd nl hD
                refine ⟨_, hD8, ?_, ys ++ [y], by rw [upd_same, List.map_append]; rfl, by rw [List.length_append, hly]; rfl, ?_, ?_, ?_⟩
                · rw [List.length_map]
                  exact small1000 (by omega)
                · intro z hz
                  rcases List.mem_append.mp hz with h | h
                  · exact hys z h
                  · rw [List.mem_singleton.mp h]; exact ⟨hyl, hya⟩
                · obtain ⟨ns, m, t, q1, q2, q3⟩ := dk7.mono (show _ ≤ n + 1 + i * drs (k + 1) + 1 + 1 + (i2 + 1) * DB k by omega)
                  exact ⟨ns, m, t, by rw [upd_ne (Ne.symm nd)]; exact q1, by rw [upd_ne (Ne.symm nl)]; exact q2, q3⟩
                · intro b o nb1 nb2 e
                  have hb : b ≠ D := by
                    rintro rfl
                    have := kp25 b o nb1 nb2 e
                    rw [nD] at this
                    cases this
                  rw [upd_ne hb]
                  exact kp7 b o nb1 nb2 (kp6 b o nb1 nb2 e)
              · rintro H6 ⟨ys, hD, hly, hys, dk6, kp6⟩
                rw [er] at hly dk6
                have e3 : r2 * DB k ≤ 3 * DB k := Nat.mul_le_mul_right _ hr3
                have eDk : DB k = 1 + 4 * drs k := rfl
                have eSk : SL k = 4 * stp k := rfl
                have hsum := sum_le (ys := ys) (m := SL k) fun y hy => (hys y hy).1
                have hsum3 : ys.length * SL k ≤ 3 * SL k := Nat.mul_le_mul_right _ (by omega)
                have h1 : (Str.ofString "[").length = 1 := rfl
                have h2 : (Str.ofString "]").length = 1 := rfl
                have h3 : (Str.ofString "|").length = 1 := rfl
                have hj := StrLaws.join_length_le (Str.ofString "|") ys
                rw [h3] at hj
                refine ⟨_, rfl, _, _, rfl, rfl, by omega, ?_⟩
                refine ⟨⟨_, rfl⟩, _, rfl, _, D, ys, rfl, rfl, .inl (SqL.of hD), by rw [h3]; omega, ?_⟩
                rw [show Txt.join (Str.ofString "|") ys = Str.join (Str.ofString "|") ys from StrLaws.glued_eq_join _ _]
                refine ⟨_, _, rfl, rfl, by rw [Str.length_append]; omega, ?_⟩
                refine ⟨_, _, rfl, rfl, by rw [Str.length_append, Str.length_append]; omega, ?_⟩
                refine ⟨_, _, _, _, _, rfl, ?_, ((hpa.app (asc_of _ (by decide +kernel))).app (Asc.join (asc_of _ (by decide +kernel)) fun y hy => (hys y hy).2)).app (asc_of _ (by decide +kernel)), dk6.mono (by omega), kp6⟩
                rw [Str.length_append, Str.length_append, Str.length_append]
                omega
            · obtain ⟨d', l', m', hh⟩ := hone _ H4 _ dk4 (by omega) kp24 (by omega)
              exact ⟨_, rfl, _, rfl, _, rfl, d', l', m', hh⟩
        · simp at z
    · rintro σ H' ⟨page, v4, v5, v6, v7, rfl, hpl, hpa, dk, kp⟩
      have er : ((r : Int)).toNat = r := by omega
      rw [er] at hpl dk
      refine ⟨_, rfl, kQ page H' (Nat.le_trans hpl (Nat.mul_le_mul_right _ hr4)) hpa (dk.mono ?_) kp⟩
      have := Nat.mul_le_mul_right (drs k) hr4
      omega

end
end K17
set_option Elab.async false
set_option linter.all false
set_option maxRecDepth 100000
set_option maxHeartbeats 4000000
namespace K17
open PySem PySem.Spec L2
open PySem.W (Frag)
section
variable {P : Program} {w : World} {K : Frag} {mg : Str → Option Value} {base : Heap} {A : Adr}

theorem fnG_false {k : Nat} {f : Addr} {fd : FuncData} {ps : List Str} : FnG P w K mg base k f fd ps (fun _ _ _ _ => False) := ⟨fun _ _ _ _ h => h.elim, fun _ _ _ _ _ _ _ _ _ _ _ _ _ _ h => h.elim⟩
theorem ok_scr (T : Txt K mg A) : ∀ k : Nat, k ≤ 4 → FnG P w K mg base (k + 2) A.f__law_script A.fd__law_script ["_law_deck_here", "_law_signs", "_law_deep"] (spScr k)
  | 0, _ => fnG_false
  | k + 1, h => ok__law_script T k (by omega) (ok_scr T k (by omega))
theorem small1000' {n : Nat} (h : n ≤ 100000) : n ≤ sizeLine := Nat.le_trans h (by decide)
def spAny : Sp := fun vs H Q E => ∃ k, k ≤ 3 ∧ spScr (k + 1) vs H Q E
theorem ok_any (T : Txt K mg A) : FnG P w K mg base 6 A.f__law_script A.fd__law_script ["_law_deck_here", "_law_signs", "_law_deep"] spAny := by
  refine ⟨?_, ?_⟩
  · rintro vs H Q E ⟨k, hk, h⟩
    exact (ok_scr (base := base) (P := P) (w := w) T (k + 1) (by omega)).arity _ _ _ _ h
  · rintro A0 outer s H args us vs Q E hr hgd e0 hb r ⟨k, hk, h⟩
    exact (ok_scr (base := base) (P := P) (w := w) T (k + 1) (by omega)).runs _ _ _ _ _ _ _ _ _ (hr.mono (by omega)) hgd e0 hb r h
theorem DB_le {k : Nat} (h : k ≤ 3) : DB k ≤ 20000 := by
  have : k = 0 ∨ k = 1 ∨ k = 2 ∨ k = 3 := by omega
  rcases this with rfl | rfl | rfl | rfl <;> decide
def spLong : Sp := fun vs H Q _ => ∃ (d l : Addr) (n k : Nat) (x : Str), vs = [.ref d, .str x, .int (k : Nat)] ∧ k ≤ 3 ∧ Deck H d l n ∧ n + 80001 ≤ 1073741824 ∧ 0 < x.length ∧ x.length < 1000 ∧ Asc x ∧
  ∀ y H', y.length ≤ 20000 → Asc y → Deck H' d l (n + 80001) → Keep d l H H' → Q (.str y) H'
theorem lits0333 {y : V} (h : y ∈ [V.int 0, .int 3, .int 3, .int 3]) : ∃ r : Nat, y = .int (r : Int) ∧ r ≤ 3 := by
  simp only [List.mem_cons, List.not_mem_nil, or_false] at h
  rcases h with rfl | rfl | rfl | rfl
  · exact ⟨0, rfl, by decide⟩
  · exact ⟨3, rfl, by decide⟩
  · exact ⟨3, rfl, by decide⟩
  · exact ⟨3, rfl, by decide⟩
theorem ok__law_long_script (T : Txt K mg A) : FnG P w K mg base 7 A.f__law_long_script A.fd__law_long_script ["_law_deck_here", "_law_signs", "_law_deep"] (spLong) := by
  refine T.F__law_long_script.okG sc__law_long_script (fun vs H Q E h => ?_) (fun cdv A0 outer s H vs Q E hr hgd0 h => ?_)
  · obtain ⟨d, l, n, k, x, rfl, _⟩ := h
    rfl
  · have hgd := hgd0
    have G__law_script : FnG P w K mg base 6 A.f__law_script A.fd__law_script ["_law_deck_here", "_law_signs", "_law_deep"] spAny := ok_any T
    have G__law_pick : FnG P w K mg base 2 A.f__law_pick A.fd__law_pick ["_law_deck_here", "_law_some"] (spPick K) := ok__law_pick T
    obtain ⟨d, l, n, k, x, rfl, hk, hdk, hn, hx0, hx1, hxa, kQ⟩ := h
    refine ⟨_, (pss_cons (ps_set (i := 3) sc__law_long_script.nd rfl (Or.inl rfl) (pe_callG G__law_script (hr.mono (by first | decide | omega)) hgd rfl T.m__law_script T.F__law_script.kp T.b__law_script .nil noX (by exact (pa_cons (pv 0) (pa_cons (pv 1) (pa_cons (pv 2) pa_nil))))))
  (pss_cons (ps_for PassesOwn.never rfl (pi_range1 (by rfl) T.n_range (by exact (pa_cons (pe_callG G__law_pick (hr.mono (by first | decide | omega)) hgd rfl T.m__law_pick T.F__law_pick.kp T.b__law_pick .nil noX (by exact (pa_cons (pv 0) (pa_cons (pe_lst (pa_cons pe_int (pa_cons pe_int (pa_cons pe_int (pa_cons pe_int pa_nil))))) pa_nil)))) pa_nil))) (pg_name (i := 4) sc__law_long_script.nd rfl (Or.inl rfl))
  (pss_one (ps_if (pt_not (pt_chain op_lt op_lt pe_int (pe_callB (call_len_str) (by rfl) T.n_len (by decide +kernel) (by exact (pa_cons (pv 3) pa_nil))) pe_int))
  (pss_one (ps_set (i := 3) sc__law_long_script.nd rfl (Or.inl rfl) (pe_callG G__law_script (hr.mono (by first | decide | omega)) hgd rfl T.m__law_script T.F__law_script.kp T.b__law_script .nil noX (by exact (pa_cons (pv 0) (pa_cons (pv 1) (pa_cons (pv 2) pa_nil)))))))
  pss_nil)))
  (pss_one (ps_ret (pv 3))))), ?_⟩
    have hS := SL_le hk
    have hB := DB_le hk
    refine ⟨_, rfl, _, rfl, _, rfl, k, hk, d, l, n, x, rfl, hdk, by omega, hx0, hx1, hxa, fun y H1 hyl hya dk1 kp1 => ?_⟩
    refine pick_lit rfl dk1 (by omega) (fun R r => r) (by decide) (by decide) fun z H2 hz dk2 kp2 => ?_
    obtain ⟨r, rfl, hr3⟩ := lits0333 hz
    refine ⟨_, rfl, by omega, by omega, ?_⟩
    refine for_it walk_range (fun i σ H' => ∃ (page : Str) (v4 : Option V), σ = [some (.ref d), some (.str x), some (.int (k : Nat)), some (.str page), v4] ∧ page.length ≤ 20000 ∧ Asc page ∧ Deck H' d l (n + 20001 + i * 20000) ∧ Keep d l H H')
      ⟨y, none, rfl, by omega, hya, dk2.mono (by omega), kp1.trans kp2⟩ (fun _ _ _ _ _ => trivial) ?_ ?_
    · rintro i y2 σ H3 H4 hi ⟨page, v4, rfl, hpl, hpa, dk3, kp3⟩ ⟨rfl, rfl⟩
      have hi3 : i < 3 := by
        have : ((r : Int)).toNat = r := by omega
        omega
      have ed : (i + 1) * 20000 = i * 20000 + 20000 := Nat.succ_mul ..
      have keep : ∃ (page' : Str) (v4 : Option V), [some (V.ref d), some (V.str x), some (V.int (k : Nat)), some (V.str page), some (V.int ((0 : Int) + i))] = [some (.ref d), some (.str x), some (.int (k : Nat)), some (.str page'), v4] ∧ page'.length ≤ 20000 ∧ Asc page' ∧ Deck H4 d l (n + 20001 + (i + 1) * 20000) ∧ Keep d l H H4 :=
        ⟨page, _, rfl, hpl, hpa, dk3.mono (by omega), kp3⟩
      have again : spAny [.ref d, .str x, .int (k : Nat)] H4 (fun y H5 => ∃ (page' : Str) (v4 : Option V), [some (V.ref d), some (V.str x), some (V.int (k : Nat)), some y, some (V.int ((0 : Int) + i))] = [some (.ref d), some (.str x), some (.int (k : Nat)), some (.str page'), v4] ∧ page'.length ≤ 20000 ∧ Asc page' ∧ Deck H5 d l (n + 20001 + (i + 1) * 20000) ∧ Keep d l H H5) E0 :=
        ⟨k, hk, d, l, _, x, rfl, dk3, by omega, hx0, hx1, hxa, fun y H5 hyl hya dk5 kp5 => ⟨y, _, rfl, by omega, hya, dk5.mono (by omega), kp3.trans kp5⟩⟩
      refine ⟨_, rfl, page, rfl, small1000' (by omega), _, _, rfl, rfl, _, rfl, ?_⟩
      refine ite2 (fun _ => ?_) (fun _ => ?_)
      · refine ⟨_, _, rfl, rfl, _, rfl, ?_⟩
        refine ite2 (fun _ => ?_) (fun _ => ?_)
        · obtain ⟨k', h'⟩ := again
          exact ⟨_, rfl, _, rfl, _, rfl, k', h'⟩
        · exact keep
      · refine ⟨_, rfl, ?_⟩
        refine ite2 (fun _ => ?_) (fun _ => ?_)
        · obtain ⟨k', h'⟩ := again
          exact ⟨_, rfl, _, rfl, _, rfl, k', h'⟩
        · exact keep
    · rintro σ H' ⟨page, v4, rfl, hpl, hpa, dk, kp⟩
      have er : ((r : Int)).toNat = r := by omega
      rw [er] at dk
      exact ⟨_, rfl, kQ page H' hpl hpa (dk.mono (by omega)) kp⟩

end
end K17
set_option Elab.async false
set_option linter.all false
set_option maxRecDepth 100000
set_option maxHeartbeats 4000000
namespace K17
open PySem PySem.Spec L2
open PySem.W (Frag)
section
variable {P : Program} {w : World} {K : Frag} {mg : Str → Option Value} {base : Heap} {A : Adr}

def spOther : Sp := fun vs H Q _ => ∃ (d l : Addr) (n : Nat) (x : Str), vs = [.ref d, .str x] ∧ Deck H d l n ∧ n + 7 ≤ 1073741824 ∧ x.length ≤ 20000 ∧ Asc x ∧
  ∀ y H', y.length ≤ 80012 → Asc y → Deck H' d l (n + 7) → Keep d l H H' → Q (.str y) H'
abbrev odd17 : List V := [.str "a", .str "z", .str "(", .str ")", .str "*", .str ")*", .str "[", .str "]", .str "|", .str "", .str "A", .str " ", .str "0", .str "\n", .str "-", .str "()*", .str "[|]"]
theorem odd17_ok {y : V} (h : y ∈ odd17) : ∃ z : Str, y = .str z ∧ z.length ≤ 3 ∧ Asc z := by
  have h2 : odd17.all (fun v => match v with | .str z => decide (z.length ≤ 3) && (cp z).all (fun c => decide (c < 128)) | _ => false) = true := by decide +kernel
  have h3 := List.all_eq_true.mp h2 y h
  cases y with
  | str z =>
    have h4 : (decide (z.length ≤ 3) && (cp z).all (fun c => decide (c < 128))) = true := h3
    rw [Bool.and_eq_true] at h4
    exact ⟨z, rfl, of_decide_eq_true h4.1, asc_of z h4.2⟩
  | _ => cases h3
theorem cutS_len (z : Str) (lo hi : Option Int) : (cutS z lo hi).length ≤ z.length := by
  unfold cutS
  rw [len_cp, len_cp z]
  simp [List.length_take, List.length_drop]
  omega
theorem Asc.cut {z : Str} (h : Asc z) (lo hi : Option Int) : Asc (cutS z lo hi) := by
  intro c hc
  unfold cutS at hc
  exact h c (List.mem_of_mem_drop (List.mem_of_mem_take (by simpa using hc)))
theorem ix0112 {w : Int} (h0 : 0 ≤ w) (h1 : w < 4) : ∃ j : Int, atI [V.int 0, .int 1, .int 1, .int 2] w = some (.int j) := by
  have : w = 0 ∨ w = 1 ∨ w = 2 ∨ w = 3 := by omega
  rcases this with rfl | rfl | rfl | rfl
  · exact ⟨0, rfl⟩
  · exact ⟨1, rfl⟩
  · exact ⟨1, rfl⟩
  · exact ⟨2, rfl⟩
theorem ok__law_other (T : Txt K mg A) : FnG P w K mg base 3 A.f__law_other A.fd__law_other ["_law_deck_here", "_law_page"] (spOther) := by
  refine T.F__law_other.okG sc__law_other (fun vs H Q E h => ?_) (fun cdv A0 outer s H vs Q E hr hgd0 h => ?_)
  · obtain ⟨d, l, n, x, rfl, _⟩ := h
    rfl
  · have hgd := hgd0
    have G__law_draw : FnG P w K mg base 1 A.f__law_draw A.fd__law_draw ["_law_deck_here", "_law_below"] spDraw := ok__law_draw T
    have G__law_pick : FnG P w K mg base 2 A.f__law_pick A.fd__law_pick ["_law_deck_here", "_law_some"] (spPick K) := ok__law_pick T
    obtain ⟨d, l, n, x, rfl, hdk, hn, hx1, hxa, kQ⟩ := h
    refine ⟨_, (pss_cons (ps_for PassesOwn.never rfl (pi_range1 (by rfl) T.n_range (by exact (pa_cons (pe_op op_add pe_int (pe_callG G__law_draw (hr.mono (by first | decide | omega)) hgd rfl T.m__law_draw T.F__law_draw.kp T.b__law_draw .nil noX (by exact (pa_cons (pv 0) (pa_cons pe_int pa_nil))))) pa_nil))) (pg_name (i := 2) sc__law_other.nd rfl (Or.inl rfl))
  (pss_cons (ps_par (i := 3) (j := 4) rfl sc__law_other.nd rfl rfl (by decide) rfl rfl (by exact (pa_cons (pe_callG G__law_draw (hr.mono (by first | decide | omega)) hgd rfl T.m__law_draw T.F__law_draw.kp T.b__law_draw .nil noX (by exact (pa_cons (pv 0) (pa_cons (pe_op op_add (pe_callB (call_len_str) (by rfl) T.n_len (by decide +kernel) (by exact (pa_cons (pv 1) pa_nil))) pe_int) pa_nil)))) (pa_cons (pe_callG G__law_draw (hr.mono (by first | decide | omega)) hgd rfl T.m__law_draw T.F__law_draw.kp T.b__law_draw .nil noX (by exact (pa_cons (pv 0) (pa_cons pe_int pa_nil)))) pa_nil))) (by rfl))
  (pss_cons (ps_set (i := 5) sc__law_other.nd rfl (Or.inl rfl) (pe_lst (pa_cons pe_str (pa_cons pe_str (pa_cons pe_str (pa_cons pe_str (pa_cons pe_str (pa_cons pe_str (pa_cons pe_str (pa_cons pe_str (pa_cons pe_str (pa_cons pe_str (pa_cons pe_str (pa_cons pe_str (pa_cons pe_str (pa_cons pe_str (pa_cons pe_str (pa_cons pe_str (pa_cons pe_str pa_nil)))))))))))))))))))
  (pss_cons (ps_set (i := 6) sc__law_other.nd rfl (Or.inl rfl) (pe_callG G__law_pick (hr.mono (by first | decide | omega)) hgd rfl T.m__law_pick T.F__law_pick.kp T.b__law_pick .nil noX (by exact (pa_cons (pv 0) (pa_cons (pv 5) pa_nil)))))
  (pss_one (ps_set (i := 1) sc__law_other.nd rfl (Or.inl rfl) (pe_op op_add_str (pe_op op_add_str (pe_slice sl_str (pv 1) po_none (po_some (pv 3))) (pv 6)) (pe_slice sl_str (pv 1) (po_some (pe_op op_add (pv 3) (pe_ix ix_list (pe_lst (pa_cons pe_int (pa_cons pe_int (pa_cons pe_int (pa_cons pe_int pa_nil))))) (pv 4) (fun _ _ => rfl)))) po_none))))))))
  (pss_one (ps_ret (pv 1)))), ?_⟩
    refine ⟨_, rfl, d, l, n, 2, rfl, hdk, by omega, by decide, by decide, fun r H1 r0 r1 dk1 kp1 => ?_⟩
    refine ⟨_, _, rfl, rfl, ?_⟩
    refine ⟨_, rfl, by omega, by omega, ?_⟩
    refine for_it walk_range (fun i σ H' => ∃ (page : Str) (v2 v3 v4 v5 v6 : Option V), σ = [some (.ref d), some (.str page), v2, v3, v4, v5, v6] ∧ page.length + 3 ≤ 20003 * 2 ^ i ∧ Asc page ∧ Deck H' d l (n + 1 + i * 3) ∧ Keep d l H H')
      ⟨x, none, none, none, none, none, rfl, by omega, hxa, dk1, kp1⟩ (fun _ _ _ _ _ => trivial) ?_ ?_
    · rintro i y2 σ H3 H4 hi ⟨page, v2, v3, v4, v5, v6, rfl, hpl, hpa, dk3, kp3⟩ ⟨rfl, rfl⟩
      have hi3 : i < 2 := by
        have : (1 + r).toNat ≤ 2 := by omega
        omega
      have hpw : 2 ^ (i + 1) = 2 * 2 ^ i := by rw [Nat.pow_succ, Nat.mul_comm]
      have hpw2 : 2 ^ i ≤ 2 := by
        have : i = 0 ∨ i = 1 := by omega
        rcases this with rfl | rfl <;> decide
      refine ⟨_, rfl, _, rfl, page, rfl, small1000' (by omega), _, _, rfl, rfl, d, l, _, _, rfl, dk3, by omega, by omega, by omega, fun at_ H5 a0 a1 dk5 kp5 => ?_⟩
      refine ⟨_, rfl, d, l, _, 4, rfl, dk5, by omega, by decide, by decide, fun way H6 w0 w1 dk6 kp6 => ?_⟩
      refine ⟨_, _, rfl, ?_⟩
      refine ⟨Nat.le_of_lt (small1000 (by decide)), fun p np => ?_⟩
      have s1 := same_new (o := .lst odd17) (Same.refl H6) np
      obtain ⟨pd, pl⟩ := dk6.ne_d np
      refine ⟨_, rfl, _, rfl, d, l, _, dk6.same s1, by omega, .inl ⟨p, odd17, rfl, SqL.of upd_same, pd, pl, by decide, by decide, fun y H7 hy dk7 kp7 => ?_⟩⟩
      obtain ⟨z, rfl, hz3, hza⟩ := odd17_ok hy
      have kp37 := (((kp3.trans kp5).trans kp6).trans (Same.keep s1)).trans kp7
      have hl1 := cutS_len page none (some at_)
      refine ⟨_, rfl, _, rfl, _, rfl, page, rfl, small1000' (by omega), ?_⟩
      refine ⟨_, rfl, _, _, rfl, rfl, small1000' (by omega), ?_⟩
      obtain ⟨j, hj⟩ := ix0112 w0 w1
      refine ⟨_, rfl, ?_⟩
      refine ⟨_, rfl, Nat.le_of_lt (small1000 (by decide)), fun p2 np2 => ?_⟩
      refine ⟨_, rfl, p2, _, way, _, rfl, rfl, SqL.of upd_same, hj, ?_⟩
      refine ⟨_, _, rfl, rfl, _, rfl, page, rfl, small1000' (by omega), ?_⟩
      have hl2 := cutS_len page (some (at_ + j)) none
      refine ⟨_, _, rfl, rfl, small1000' (by rw [Str.length_append]; omega), ?_⟩
      have s2 := same_new (o := .lst [V.int 0, .int 1, .int 1, .int 2]) (Same.refl H7) np2
      refine ⟨_, _, _, _, _, _, rfl, ?_, ((hpa.cut _ _).app hza).app (hpa.cut _ _), (dk7.same s2).mono (by omega), kp37.trans (Same.keep s2)⟩
      rw [Str.length_append, Str.length_append]
      omega
    · rintro σ H' ⟨page, v2, v3, v4, v5, v6, rfl, hpl, hpa, dk, kp⟩
      have hr : (1 + r).toNat ≤ 2 := by omega
      have hp : 2 ^ (1 + r).toNat ≤ 2 ^ 2 := Nat.pow_le_pow_right (by decide) hr
      exact ⟨_, rfl, kQ page H' (by omega) hpa (dk.mono (by omega)) kp⟩

end
end K17
set_option Elab.async false
set_option linter.all false
set_option maxRecDepth 100000
set_option maxHeartbeats 4000000
namespace K17
open PySem PySem.Spec L2
open PySem.W (Frag)
section
variable {P : Program} {w : World} {K : Frag} {mg : Str → Option Value} {base : Heap} {A : Adr}

open CwR
def spLaw (K : Frag) : Sp := fun vs H Q _ => ∃ (a : Addr) (ns : List Int), vs = [.ref a] ∧ SqL K H a (ns.map V.int) ∧ ∀ H', Q (.bl true) H'
theorem rep_len {x : Str} (h : Asc x) (hl : x.length ≤ 100000) : (PyData.str x).shown.length ≤ sizeLine := by
  have h1 := PySem.StrLaws.reprText_len x fun c hc => Nat.lt_of_lt_of_le (h c hc) (by decide)
  show (reprText x).length ≤ sizeLine
  exact Nat.le_trans (show _ ≤ 1000002 by omega) (by decide)
theorem dep_bd : ∀ (l : List Nat) (cur most : Int), most ≤ dep cur most l ∧ dep cur most l ≤ max most (cur + l.length)
  | [], cur, most => by
    show most ≤ most ∧ most ≤ max most _
    omega
  | c :: r, cur, most => by
    have ih := dep_bd r (depC c cur) (max most (depC c cur))
    have hc : depC c cur ≤ cur + 1 := by
      unfold depC
      split
      · omega
      · split <;> omega
    have e : dep cur most (c :: r) = dep (depC c cur) (max most (depC c cur)) r := rfl
    rw [e, List.length_cons]
    omega
theorem dep_small {x : Str} (h : x.length ≤ 100000) : (dep 0 0 (cp x)).natAbs.log2 < 1920 := by
  have hb := dep_bd (cp x) 0 0
  rw [← len_cp] at hb
  obtain ⟨n, hn⟩ := Int.eq_ofNat_of_zero_le hb.1
  rw [hn] at hb ⊢
  have h1 : n ≤ 100000 := by omega
  show n.log2 < 1920
  rcases Nat.eq_zero_or_pos n with z | z
  · subst z; decide
  · have : n.log2 < 20 := (Nat.log2_lt (by omega)).mpr (Nat.lt_of_le_of_lt h1 (by decide))
    omega
theorem int_rp {H : Hp} {i : Int} (h : i.natAbs.log2 < 1920) : Rp K H (.int i) (.int i) ∧ (PyData.int i).showable = true ∧ (PyData.int i).depth ≤ 60 ∧ (PyData.int i).shown.length ≤ sizeLine :=
  ⟨.inl ⟨.int i, rfl⟩, by simpa [PyData.showable] using h, Nat.zero_le _, Nat.le_trans (PyProof.Rows.int_text_len_1921 h) (by decide)⟩
theorem depth_rd {σ : L2.St} {H : Hp} {D : Ends} {page : Str} (h3 : σ[3]? = some (some (.str page))) (hl : page.length ≤ 20000) (h : ∀ H', Same H H' → D.nx σ H') :
  tIfS (tAnd (tTest (tOp (fun x y H Q => y = V.non ∧ Q (V.bl (decide (x = V.non))) H) (tCallG spBrk [] (fun σ => E0) (tCons (tVar 3) tNil)) (tC V.non)))
      (tTest (tOp (rI0 fun i j => V.bl (decide (i < j))) (tCB (fun xs H Q => ∃ z, xs = [V.str z] ∧ z.length ≤ sizeLine ∧ Q (V.int z.length) H) (tCons (tVar 3) tNil)) (tC (V.int 41)))))
    (tIfS (tTest (tOp rNe (tCB (rRepr K) (tCons (tCallG spLoop [] (fun σ => E0) (tCons (tVar 3) tNil)) tNil)) (tCB (rRepr K) (tCons (tCallG spDepth [] (fun σ => E0) (tCons (tVar 3) tNil)) tNil)))) (tRet (tC (V.bl false))) tNext) tNext D σ H := by
  refine ⟨_, h3, page, rfl, by omega, fun H1 s1 => ?_⟩
  refine ⟨rfl, _, rfl, ?_⟩
  refine ite2 (fun hp => ?_) (fun _ => ?_)
  · have hpl : place (cp page) = none := by
      cases hc : place (cp page) with
      | none => rfl
      | some k => rw [hc] at hp; simp [oV] at hp
    refine ⟨_, h3, page, rfl, small1000' (by omega), _, _, rfl, rfl, _, rfl, ?_⟩
    refine ite2 (fun _ => ?_) (fun _ => ?_)
    · refine ⟨_, h3, page, rfl, by omega, fun H2 s2 => ?_⟩
      obtain ⟨r1, r2, r3, r4⟩ := int_rp (K := K) (H := H2) (dep_small (x := page) (by omega))
      refine ⟨_, _, rfl, r1, r2, r3, r4, ?_⟩
      refine ⟨_, h3, page, rfl, by omega, hpl, fun H3 s3 => ?_⟩
      obtain ⟨r1, r2, r3, r4⟩ := int_rp (K := K) (H := H3) (dep_small (x := page) (by omega))
      refine ⟨_, _, rfl, r1, r2, r3, r4, ?_⟩
      refine ⟨rfl, _, rfl, ?_⟩
      refine ite2 (fun z => ?_) (fun _ => ?_)
      · simp at z
      · exact h _ ((s1.trans s2).trans s3)
    · exact h _ s1
  · exact h _ s1
theorem pick_lit1 {σ : L2.St} {H : Hp} {Q : VK} {d l : Addr} {n : Nat} {t : TA} {xs : List V} (h0 : σ[1]? = some (some (.ref d))) (hdk : Deck H d l n) (hn : n ≤ 1073741824) (ht : ∀ R : List V → Hp → Prop, R xs H → t σ H R)
    (hl : 0 < xs.length) (hl2 : xs.length < 1000) (h : ∀ (y : V) H', y ∈ xs → Deck H' d l (n + 1) → Keep d l H H' → Q y H') :
    tCallG (spPick K) [] (fun σ => E0) (tCons (tVar 1) (tCons (tLst t) tNil)) σ H Q := by
  refine ⟨_, h0, ht _ ⟨Nat.le_of_lt (small1000 (Nat.le_of_lt hl2)), fun p np => ?_⟩⟩
  have s := same_new (o := .lst xs) (Same.refl H) np
  obtain ⟨pd, pl⟩ := hdk.ne_d np
  exact ⟨d, l, n, hdk.same s, hn, .inl ⟨p, xs, rfl, SqL.of upd_same, pd, pl, hl, hl2, fun y H' hy dk kp => h y H' hy dk ((Same.keep s).trans kp)⟩⟩
def txts (l : List V) : Bool := l.all fun v => match v with | .str z => (decide (0 < z.length) && decide (z.length < 1000)) && (cp z).all (fun c => decide (c < 128)) | _ => false
theorem txts_mem {l : List V} (h : txts l = true) {y : V} (hy : y ∈ l) : ∃ z : Str, y = .str z ∧ 0 < z.length ∧ z.length < 1000 ∧ Asc z := by
  have h3 := List.all_eq_true.mp h y hy
  cases y with
  | str z =>
    have h4 : ((decide (0 < z.length) && decide (z.length < 1000)) && (cp z).all (fun c => decide (c < 128))) = true := h3
    rw [Bool.and_eq_true, Bool.and_eq_true] at h4
    exact ⟨z, rfl, of_decide_eq_true h4.1.1, of_decide_eq_true h4.1.2, asc_of z h4.2⟩
  | _ => cases h3
/-- a value that the law asks about -/
def Good (K : Frag) (H : Hp) (v : V) : Prop := Asked K H v ∧ ∃ d, Rp K H v d ∧ d.showable = true ∧ d.depth ≤ 60 ∧ d.shown.length ≤ sizeLine
theorem Good.same {H H' : Hp} (s : Same H H') {v : V} (h : Good K H v) : Good K H' v := by
  obtain ⟨h1, d, h2, h3⟩ := h
  exact ⟨h1.same s, d, h2.same s, h3⟩
theorem Good.str {H : Hp} {x : Str} (ha : Asc x) (hl : x.length ≤ 100000) : Good K H (.str x) := ⟨.inl ⟨x, rfl, hl⟩, .str x, .inl ⟨.str x, rfl⟩, rfl, Nat.zero_le _, rep_len ha hl⟩
abbrev odd1 (t0 l1 t1 d0 : Addr) : List V := [.non, .int 0, .bl true, .ref t0, .ref l1, .ref t1, .ref d0, .str "", .str "()*", .str "[|]", .str "[a|]", .str "[]", .str "[a]", .str "(a)", .str "(a)b", .str "a*", .str ")"]
def txts0 (l : List V) : Bool := l.all fun v => match v with | .str z => decide (z.length < 1000) && (cp z).all (fun c => decide (c < 128)) | _ => false
theorem txts0_good {H : Hp} {l : List V} (h : txts0 l = true) {y : V} (hy : y ∈ l) : Good K H y := by
  have h3 := List.all_eq_true.mp h y hy
  cases y with
  | str z =>
    have h4 : (decide (z.length < 1000) && (cp z).all (fun c => decide (c < 128))) = true := h3
    rw [Bool.and_eq_true] at h4
    have := of_decide_eq_true h4.1
    exact Good.str (asc_of z h4.2) (by omega)
  | _ => cases h3
theorem good_one {H : Hp} {v : V} {d : PyData} (h1 : NotStr K H v) (h2 : Rp K H v d) (h3 : d.showable = true) (h4 : d.depth ≤ 60) (h5 : d.shown.length ≤ sizeLine) : Good K H v := ⟨.inr h1, d, h2, h3, h4, h5⟩
theorem odd1_good {H : Hp} {t0 l1 t1 d0 : Addr} (e0 : H t0 = some (.tup [])) (e1 : H l1 = some (.lst [.str "a"])) (e2 : H t1 = some (.tup [.str "a"])) (e3 : H d0 = some (.dK [])) :
    ∀ y ∈ odd1 t0 l1 t1 d0, Good K H y := by
  intro y hy
  rcases List.mem_cons.mp hy with rfl | hy
  · exact good_one .non (.inl ⟨.non, rfl⟩) rfl (by decide) (by decide)
  rcases List.mem_cons.mp hy with rfl | hy
  · exact good_one .int (.inl ⟨.int 0, rfl⟩) rfl (by decide) (by decide)
  rcases List.mem_cons.mp hy with rfl | hy
  · exact good_one .bl (.inl ⟨.bl true, rfl⟩) rfl (by decide) (by decide)
  rcases List.mem_cons.mp hy with rfl | hy
  · exact good_one (.tup e0) (.inl ⟨.tup (.inl (.inl e0)) .nil, rfl⟩) rfl (by decide) (by decide)
  rcases List.mem_cons.mp hy with rfl | hy
  · exact good_one (.lst e1) (.inl ⟨.lst (SqL.of e1) (.cons (.str "a") .nil), rfl⟩) rfl (by decide) (by decide +kernel)
  rcases List.mem_cons.mp hy with rfl | hy
  · exact good_one (.tup e2) (.inl ⟨.tup (.inl (.inl e2)) (.cons (.str "a") .nil), rfl⟩) rfl (by decide) (by decide +kernel)
  rcases List.mem_cons.mp hy with rfl | hy
  · exact good_one (.dK e3) (.inr ⟨d0, rfl, e3, rfl⟩) rfl (by decide) (by decide)
  exact txts0_good (by decide +kernel) hy
abbrev litsB : List V := [.str "]", .str "|", .str "((()*)*)*", .str "[()*|(a)*]"]
abbrev litsC : List V := [.str "a|b", .str "((a)*b)*", .str "(((())*)*)*", .str "[a|b|c]", .str "[a|(b|c)*]", .str "(*)*", .str (PySem.Txt.mul "a" 300), .str (PySem.Txt.mul "(" 150 ++ PySem.Txt.mul ")*" 150)]
theorem ok_law (T : Txt K mg A) : FnG P w K mg base 8 A.f_law A.fd_law ["_law_script_here"] (spLaw K) := by
  refine T.F_law.okG sc_law (fun vs H Q E h => ?_) (fun cdv A0 outer s H vs Q E hr hgd0 h => ?_)
  · obtain ⟨a, ns, rfl, _⟩ := h
    rfl
  · have hgd := hgd0
    have G__law_deck : FnG P w K mg base 1 A.f__law_deck A.fd__law_deck ["_law_script_here"] (spDeck K) := ok__law_deck T
    have G__law_draw : FnG P w K mg base 1 A.f__law_draw A.fd__law_draw ["_law_deck_here", "_law_below"] spDraw := ok__law_draw T
    have G__law_pick : FnG P w K mg base 2 A.f__law_pick A.fd__law_pick ["_law_deck_here", "_law_some"] (spPick K) := ok__law_pick T
    have G__law_long_script : FnG P w K mg base 7 A.f__law_long_script A.fd__law_long_script ["_law_deck_here", "_law_signs", "_law_deep"] spLong := ok__law_long_script T
    have G__law_right : FnG P w K mg base 5 A.f__law_right A.fd__law_right ["_law_it"] (spRight K) := ok__law_right T
    have G__law_place : FnG P w K mg base 1 A.f__law_place A.fd__law_place ["_law_page"] spBrk := ok__law_place T
    have G__law_depth : FnG P w K mg base 1 A.f__law_depth A.fd__law_depth ["_law_page"] spDepth := ok__law_depth T
    have G_loop_depth : FnG P w K mg base 1 A.f_loop_depth A.fd_loop_depth ["script"] spLoop := ok_loop_depth T
    have G__law_other : FnG P w K mg base 3 A.f__law_other A.fd__law_other ["_law_deck_here", "_law_page"] spOther := ok__law_other T
    obtain ⟨a, ns, rfl, ha, kQ⟩ := h
    refine ⟨_, (pss_cons (ps_set (i := 1) sc_law.nd rfl (Or.inr rfl) (pe_callG G__law_deck (hr.mono (by first | decide | omega)) hgd rfl T.m__law_deck T.F__law_deck.kp T.b__law_deck .nil noX (by exact (pa_cons (pv 0) pa_nil))))
  (pss_cons (ps_for PassesOwn.never rfl (pi_range1 (by rfl) T.n_range (by exact (pa_cons pe_int pa_nil))) (pg_name (i := 2) sc_law.nd rfl (Or.inl rfl))
  (pss_cons (ps_set (i := 3) sc_law.nd rfl (Or.inl rfl) (pe_slice sl_str (pe_callG G__law_long_script (hr.mono (by first | decide | omega)) hgd rfl T.m__law_long_script T.F__law_long_script.kp T.b__law_long_script .nil noX (by exact (pa_cons (pv 1) (pa_cons (pe_callG G__law_pick (hr.mono (by first | decide | omega)) hgd rfl T.m__law_pick T.F__law_pick.kp T.b__law_pick .nil noX (by exact (pa_cons (pv 1) (pa_cons (pe_lst (pa_cons pe_str (pa_cons pe_str (pa_cons pe_str (pa_cons pe_str pa_nil))))) pa_nil)))) (pa_cons (pe_op op_add pe_int (pe_callG G__law_draw (hr.mono (by first | decide | omega)) hgd rfl T.m__law_draw T.F__law_draw.kp T.b__law_draw .nil noX (by exact (pa_cons (pv 1) (pa_cons pe_int pa_nil))))) pa_nil))))) po_none (po_some pe_int)))
  (pss_cons (ps_if (pt_not (pt_val (pe_callG G__law_right (hr.mono (by first | decide | omega)) hgd rfl T.m__law_right T.F__law_right.kp T.b__law_right .nil noX (by exact (pa_cons (pv 3) pa_nil)))))
  (pss_one (ps_ret pe_bl))
  pss_nil)
  (pss_cons (ps_if (PW.pt (pw_and (pt_cmpR op_isN (pe_callG G__law_place (hr.mono (by first | decide | omega)) hgd rfl T.m__law_place T.F__law_place.kp T.b__law_place .nil noX (by exact (pa_cons (pv 3) pa_nil))) pe_non (nomark _)) (pw_and1 (pt_cmpR op_lt (pe_callB (call_len_str) (by rfl) T.n_len (by decide +kernel) (by exact (pa_cons (pv 3) pa_nil))) pe_int (nomark _)))))
  (pss_one (ps_if (pt_cmpR op_ne (pe_callB (call_reprD hgd hr.units) (by rfl) T.n_repr (by decide +kernel) (by exact (pa_cons (pe_callG G_loop_depth (hr.mono (by first | decide | omega)) hgd rfl T.m_loop_depth T.F_loop_depth.kp T.b_loop_depth .nil noX (by exact (pa_cons (pv 3) pa_nil))) pa_nil))) (pe_callB (call_reprD hgd hr.units) (by rfl) T.n_repr (by decide +kernel) (by exact (pa_cons (pe_callG G__law_depth (hr.mono (by first | decide | omega)) hgd rfl T.m__law_depth T.F__law_depth.kp T.b__law_depth .nil noX (by exact (pa_cons (pv 3) pa_nil))) pa_nil))) (nomark _))
  (pss_one (ps_ret pe_bl))
  pss_nil))
  pss_nil)
  (pss_cons (ps_for PassesOwn.never rfl (pi_range1 (by rfl) T.n_range (by exact (pa_cons pe_int pa_nil))) (pg_name (i := 4) sc_law.nd rfl (Or.inl rfl))
  (pss_one (ps_if (pt_not (pt_val (pe_callG G__law_right (hr.mono (by first | decide | omega)) hgd rfl T.m__law_right T.F__law_right.kp T.b__law_right .nil noX (by exact (pa_cons (pe_callG G__law_other (hr.mono (by first | decide | omega)) hgd rfl T.m__law_other T.F__law_other.kp T.b__law_other .nil noX (by exact (pa_cons (pv 1) (pa_cons (pv 3) pa_nil)))) pa_nil)))))
  (pss_one (ps_ret pe_bl))
  pss_nil)))
  (pss_setI (i := 5) sc_law.nd rfl (Or.inl rfl) (pei_join (pe_lc (own := [("_law_k", 6)]) (g := gName 6) rfl sc_law.nd (pi_range1 (by rfl) T.n_range (by exact (pa_cons (pe_callG G__law_draw (hr.mono (by first | decide | omega)) hgd rfl T.m__law_draw T.F__law_draw.kp T.b__law_draw .nil noX (by exact (pa_cons (pv 1) (pa_cons pe_int pa_nil)))) pa_nil))) (blkOk_by (own := [("_law_k", 6)]) (N := ["_law_script_here", "_law_deck_here", "_law_go", "_law_page", "_law_turn", "_law_far", "_law_k", "_law_odd", "_law_it"]) (sc := defScope s_law) (by decide +kernel)) (fun _ _ _ _ _ => (pg_name (i := 6) sc_law.nd rfl (Or.inl rfl))) (fun _ _ _ _ _ => pts_nil) (fun _ _ _ _ _ => (pe_callG G__law_pick (hr.mono (by first | decide | omega)) hgd rfl T.m__law_pick T.F__law_pick.kp T.b__law_pick .nil noX (by exact (pa_cons (pv 1) (pa_cons pe_str pa_nil)))))))
  (psst_one (pst_ifT (PWT.pt (pwt_or (PTT.of (pt_not (pt_val (pe_callG G__law_right (hr.mono (by first | decide | omega)) hgd rfl T.m__law_right T.F__law_right.kp T.b__law_right .nil noX (by exact (pa_cons (pv 5) pa_nil)))))) (pwt_or (PTT.of (pt_not (pt_val (pe_callG G__law_right (hr.mono (by first | decide | omega)) hgd rfl T.m__law_right T.F__law_right.kp T.b__law_right .nil noX (by exact (pa_cons (pe_op op_add_str (pv 3) (pv 5)) pa_nil)))))) (pwt_or1 (ptt_not (ptt_val (pet_callG G__law_right (hr.mono (by first | decide | omega)) hgd rfl T.m__law_right T.F__law_right.kp T.b__law_right .nil noX (by exact (pat_cons (CwR.pet_replC (pv 5)) pat_nil)))))))))
    (PSsT.of (pss_one (ps_ret pe_bl))) (PSsT.of pss_nil)))))))))
  (pss_cons (ps_set (i := 7) sc_law.nd rfl (Or.inl rfl) (pe_lst (pa_cons pe_non (pa_cons pe_int (pa_cons pe_bl (pa_cons (pe_tup pa_nil) (pa_cons (pe_lst (pa_cons pe_str pa_nil)) (pa_cons (pe_tup (pa_cons pe_str pa_nil)) (pa_cons pe_dnewK (pa_cons pe_str (pa_cons pe_str (pa_cons pe_str (pa_cons pe_str (pa_cons pe_str (pa_cons pe_str (pa_cons pe_str (pa_cons pe_str (pa_cons pe_str (pa_cons pe_str pa_nil)))))))))))))))))))
  (pss_cons (ps_set (i := 7) sc_law.nd rfl (Or.inl rfl) (pe_op op_cat (pv 7) (pe_lst (pa_cons pe_str (pa_cons pe_str (pa_cons pe_str (pa_cons pe_str pa_nil)))))))
  (pss_cons (ps_set (i := 7) sc_law.nd rfl (Or.inl rfl) (pe_op op_cat (pv 7) (pe_lst (pa_cons pe_str (pa_cons pe_str (pa_cons pe_str (pa_cons pe_str (pa_cons pe_str (pa_cons pe_str (pa_cons (pe_op op_mulS pe_str pe_int) (pa_cons (pe_op op_add_str (pe_op op_mulS pe_str pe_int) (pe_op op_mulS pe_str pe_int)) pa_nil)))))))))))
  (pss_one (ps_ret (pe_and (pe_cmpR (op_eqD hr.units) (pe_lc (own := [("_law_it", 8)]) (g := gName 8) rfl sc_law.nd (pi_list (pv 7)) (blkOk_by (own := [("_law_it", 8)]) (N := ["_law_script_here", "_law_deck_here", "_law_go", "_law_page", "_law_turn", "_law_far", "_law_k", "_law_odd", "_law_it"]) (sc := defScope s_law) (by decide +kernel)) (fun _ _ _ _ _ => (pg_name (i := 8) sc_law.nd rfl (Or.inl rfl))) (fun _ _ _ _ _ => (pts_one (pt_not (pt_val (pe_callG G__law_right (hr.mono (by first | decide | omega)) hgd rfl T.m__law_right T.F__law_right.kp T.b__law_right .nil noX (by exact (pa_cons (pv 8) pa_nil))))))) (fun _ _ _ _ _ => (pv 8))) (pe_lst pa_nil) (nomark _)) (pe_and (pe_cmpR op_eq (pe_callG G_loop_depth (hr.mono (by first | decide | omega)) hgd rfl T.m_loop_depth T.F_loop_depth.kp T.b_loop_depth .nil noX (by exact (pa_cons pe_str pa_nil))) pe_int (nomark _)) (pe_one (pe_cmpR op_eq (pe_callG G_loop_depth (hr.mono (by first | decide | omega)) hgd rfl T.m_loop_depth T.F_loop_depth.kp T.b_loop_depth .nil noX (by exact (pa_cons pe_str pa_nil))) pe_int (nomark _)))))))))))), ?_⟩
    refine ⟨_, rfl, a, ns, rfl, ha, fun d l H1 s1 nd nl dk1 => ?_⟩
    refine ⟨3, rfl, by decide, by decide, ?_⟩
    refine for_it walk_range (fun i σ H' => ∃ (v2 v3 v4 v5 v6 v7 v8 : Option V), σ = [some (.ref a), some (.ref d), v2, v3, v4, v5, v6, v7, v8] ∧ Deck H' d l (i * 80200))
      ⟨none, none, none, none, none, none, none, rfl, by rw [Nat.zero_mul]; exact dk1⟩ (fun _ _ _ _ _ => trivial) ?_ ?_
    · rintro i y σ H2 H3 hi ⟨v2, v3, v4, v5, v6, v7, v8, rfl, dk2⟩ ⟨rfl, rfl⟩
      have hi3 : i < 3 := hi
      refine ⟨_, rfl, ?_⟩
      refine pick_lit1 rfl dk2 (by omega) (fun R r => r) (by decide) (by decide) fun y H4 hy dk4 kp4 => ?_
      obtain ⟨z, rfl, hz0, hz1, hza⟩ := txts_mem (by decide +kernel) hy
      refine ⟨_, rfl, d, l, _, 3, rfl, dk4, by omega, by decide, by decide, fun r H5 r0 r1 dk5 kp5 => ?_⟩
      refine ⟨_, _, rfl, rfl, ?_⟩
      obtain ⟨k, hk⟩ : ∃ k : Nat, 1 + r = (k : Int) := ⟨(1 + r).toNat, by omega⟩
      refine ⟨d, l, _, k, z, congrArg (fun q => [V.ref d, V.str z, V.int q]) hk, by omega, dk5, by omega, hz0, hz1, hza, fun page0 H6 hpl0 hpa0 dk6 kp6 => ?_⟩
      refine ⟨400, rfl, page0, rfl, small1000' (by omega), ?_⟩
      have hpl : (cutS page0 none (some 400)).length ≤ 20000 := Nat.le_trans (cutS_len _ _ _) hpl0
      have hpa : Asc (cutS page0 none (some 400)) := hpa0.cut _ _
      generalize hpg : cutS page0 none (some 400) = page at hpl hpa
      refine ⟨_, rfl, .str page, .str page, rfl, .inl ⟨page, rfl, by omega⟩, .inl ⟨.str page, rfl⟩, rfl, Nat.zero_le _, rep_len hpa (by omega), fun H7 s7 => ?_⟩
      refine ⟨_, rfl, ?_⟩
      refine ite2 (fun z => ?_) (fun _ => ?_)
      · simp at z
      refine depth_rd rfl hpl fun H9 s9 => ?_
      have dk9 := (dk6.same s7).same s9
      refine ⟨10, rfl, by decide, by decide, ?_⟩
      refine for_it walk_range (fun j σ H' => ∃ (v2 v4 v5 v6 v7 v8 : Option V), σ = [some (.ref a), some (.ref d), v2, some (.str page), v4, v5, v6, v7, v8] ∧ Deck H' d l (i * 80200 + 80010 + j * 7))
        ⟨_, _, _, _, _, _, rfl, dk9.mono (by omega)⟩ (fun _ _ _ _ _ => trivial) ?_ ?_
      · rintro j y σ H10 H11 hj ⟨v2, v4, v5, v6, v7, v8, rfl, dk10⟩ ⟨rfl, rfl⟩
        have hj10 : j < 10 := hj
        refine ⟨_, rfl, _, rfl, d, l, _, page, rfl, dk10, by omega, by omega, hpa, fun y H11 hyl hya dk11 kp11 => ?_⟩
        refine ⟨.str y, .str y, rfl, .inl ⟨y, rfl, by omega⟩, .inl ⟨.str y, rfl⟩, rfl, Nat.zero_le _, rep_len hya (by omega), fun H12 s12 => ?_⟩
        refine ⟨_, rfl, ?_⟩
        refine ite2 (fun z => ?_) (fun _ => ?_)
        · simp at z
        exact ⟨_, _, _, _, _, _, rfl, (dk11.same s12).mono (by omega)⟩
      · rintro σ H10 ⟨v2, v4, v5, v6, v7, v8, rfl, dk10⟩
        have dk10' : Deck H10 d l (i * 80200 + 80010 + 10 * 7) := by
          have e10 : (10 : Int).toNat = 10 := by omega
          rw [e10] at dk10
          exact dk10
        refine ⟨⟨_, rfl⟩, ?_⟩
        refine ⟨_, rfl, d, l, _, 9, rfl, dk10', by omega, by decide, by decide, fun r2 H11 q0 q1 dk11 kp11 => ?_⟩
        refine ⟨_, rfl, by omega, by omega, fun D nD => ?_⟩
        have sD := same_new (o := .lst []) (Same.refl H11) nD
        obtain ⟨ned, nel⟩ := dk11.ne_d nD
        refine lc_it walk_range (fun i2 H' => ∃ ys : List Str, H' D = some (.lst (ys.map V.str)) ∧ ys.length = i2 ∧ (∀ y ∈ ys, y.length ≤ 1 ∧ Asc y) ∧ Deck H' d l (i * 80200 + 80010 + 10 * 7 + 1 + i2))
          ⟨[], upd_same, rfl, (fun y hy => by cases hy), by rw [Nat.add_zero]; exact dk11.same sD⟩ (fun _ _ _ _ => trivial) ?_ ?_
        · rintro i2 y H12 H13 hi2 ⟨ys, hD, hly, hys, dk12⟩ ⟨rfl, rfl⟩
          have hi9 : i2 < 9 := by omega
          refine ⟨rfl, ?_⟩
          unfold tYes
          refine iteT ?_
          refine ⟨_, rfl, d, l, _, dk12, by omega, .inr ⟨"ab()*[]|", rfl, by decide, by decide, fun c H14 hc dk14 kp14 => ?_⟩⟩
          have hD14 : H14 D = some (.lst (ys.map V.str)) := kp14 D _ ned nel hD
          refine ⟨_, hD14, ?_, ys ++ [sg c], by rw [upd_same, List.map_append]; rfl, by rw [List.length_append, hly]; rfl, ?_, ?_⟩
          · rw [List.length_map]
            exact small1000 (by omega)
          · intro z hz
            rcases List.mem_append.mp hz with h | h
            · exact hys z h
            · rw [List.mem_singleton.mp h]
              exact ⟨Nat.le_refl 1, Asc.sg (asc_of (Str.ofString "ab()*[]|") (by decide +kernel) c hc)⟩
          · obtain ⟨ns', m, t, e1, e2, e3⟩ := dk14.mono (show _ ≤ i * 80200 + 80010 + 10 * 7 + 1 + (i2 + 1) by omega)
            exact ⟨ns', m, t, by rw [upd_ne (Ne.symm ned)]; exact e1, by rw [upd_ne (Ne.symm nel)]; exact e2, e3⟩
        · rintro H12 ⟨ys, hD, hly, hys, dk12⟩
          have hr9 : r2.toNat ≤ 8 := by omega
          have hsum := sum_le (ys := ys) (m := 1) fun y hy => (hys y hy).1
          have h3 : (Str.ofString "").length = 0 := rfl
          have hj := PySem.StrLaws.join_length_le (Str.ofString "") ys
          rw [h3] at hj
          refine ⟨_, D, ys, rfl, rfl, .inl (SqL.of hD), by rw [h3]; omega, ?_⟩
          rw [show PySem.Txt.join (Str.ofString "") ys = Str.join (Str.ofString "") ys from PySem.StrLaws.glued_eq_join _ _]
          have hfl : (Str.join (Str.ofString "") ys).length ≤ 8 := by omega
          have hfa : Asc (Str.join (Str.ofString "") ys) := Asc.join (asc_of _ (by decide +kernel)) fun y hy => (hys y hy).2
          generalize hfr : Str.join (Str.ofString "") ys = far at hfl hfa
          refine ⟨_, rfl, .str far, .str far, rfl, .inl ⟨far, rfl, by omega⟩, .inl ⟨.str far, rfl⟩, rfl, Nat.zero_le _, rep_len hfa (by omega), fun H14 s14 => ?_⟩
          refine ⟨_, rfl, ?_⟩
          refine ite2 (fun z => ?_) (fun _ => ?_)
          · simp at z
          have hcl : (page ++ far).length ≤ 100000 := by rw [Str.length_append]; omega
          refine ⟨_, rfl, _, rfl, _, _, rfl, rfl, small1000' (by omega), .str (page ++ far), .str (page ++ far), rfl, .inl ⟨page ++ far, rfl, hcl⟩, .inl ⟨.str _, rfl⟩, rfl, Nat.zero_le _, rep_len (hpa.app hfa) hcl, fun H15 s15 => ?_⟩
          refine ⟨_, rfl, ?_⟩
          refine ite2 (fun z => ?_) (fun _ => ?_)
          · simp at z
          have h2 : (Str.ofString ")*").length = 2 := rfl
          have hrl := TK.replace_len far (Str.ofString ")") (Str.ofString ")*")
          rw [h2] at hrl
          have hra : Asc (PySem.Txt.replace far (Str.ofString ")") (Str.ofString ")*")) := by
            intro c hc
            rcases replace_mem (by decide) hc with h | h
            · exact hfa c h
            · exact asc_of (Str.ofString ")*") (by decide +kernel) c h
          generalize hrp : PySem.Txt.replace far (Str.ofString ")") (Str.ofString ")*") = rep at hrl hra
          refine ⟨_, rfl, far, rfl, by rw [h2]; omega, ?_⟩
          rw [hrp]
          refine ⟨.str rep, .str rep, rfl, .inl ⟨rep, rfl, by omega⟩, .inl ⟨.str rep, rfl⟩, rfl, Nat.zero_le _, rep_len hra (by omega), fun H16 s16 => ?_⟩
          refine ⟨_, rfl, ?_⟩
          refine ite2 (fun z => ?_) (fun _ => ?_)
          · simp at z
          exact ⟨_, _, _, _, _, _, _, rfl, (((dk12.same s14).same s15).same s16).mono (by omega)⟩
    · rintro σ H2 ⟨v2, v3, v4, v5, v6, v7, v8, rfl, dk2⟩
      refine ⟨Nat.zero_le _, fun t0 nt0 => ?_⟩
      have z0 := same_new (o := .tup []) (Same.refl H2) nt0
      refine ⟨by show 1 ≤ sizeLine; decide, fun l1 nl1 => ?_⟩
      have z1 := same_new (o := .lst [.str "a"]) (Same.refl _) nl1
      refine ⟨by show 1 ≤ sizeLine; decide, fun t1 nt1 => ?_⟩
      have z2 := same_new (o := .tup [.str "a"]) (Same.refl _) nt1
      intro d0 nd0
      have z3 := same_new (o := .dK []) (Same.refl _) nd0
      refine ⟨Nat.le_of_lt (small1000 (show 17 ≤ 1000 by decide)), fun o1 no1 => ?_⟩
      have z4 := same_new (o := .lst (odd1 t0 l1 t1 d0)) (Same.refl _) no1
      have ga : ∀ y ∈ odd1 t0 l1 t1 d0, Good K (upd (upd (upd (upd (upd H2 t0 (.tup [])) l1 (.lst [.str "a"])) t1 (.tup [.str "a"])) d0 (.dK [])) o1 (.lst (odd1 t0 l1 t1 d0))) y := by
        refine odd1_good ?_ ?_ ?_ ?_
        · exact ((z1.trans z2).trans z3).trans z4 _ _ upd_same
        · exact (z2.trans z3).trans z4 _ _ upd_same
        · exact z3.trans z4 _ _ upd_same
        · exact z4 _ _ upd_same
      generalize hH5 : upd (upd (upd (upd (upd H2 t0 (.tup [])) l1 (.lst [.str "a"])) t1 (.tup [.str "a"])) d0 (.dK [])) o1 (.lst (odd1 t0 l1 t1 d0)) = H5 at ga z4
      have go1 : H5 o1 = some (.lst (odd1 t0 l1 t1 d0)) := by rw [← hH5]; exact upd_same
      refine ⟨_, rfl, Nat.le_of_lt (small1000 (by decide)), fun p np => ?_⟩
      have z5 := same_new (o := .lst litsB) (Same.refl H5) np
      refine ⟨o1, p, odd1 t0 l1 t1 d0, litsB, rfl, rfl, z5 _ _ go1, upd_same, Nat.le_of_lt (small1000 (show 21 ≤ 1000 by decide)), fun o2 no2 => ?_⟩
      have z6 := same_new (o := .lst (odd1 t0 l1 t1 d0 ++ litsB)) (Same.refl _) no2
      have gb : ∀ y ∈ odd1 t0 l1 t1 d0 ++ litsB, Good K (upd (upd H5 p (.lst litsB)) o2 (.lst (odd1 t0 l1 t1 d0 ++ litsB))) y := by
        intro y hy
        rcases List.mem_append.mp hy with h | h
        · exact (ga y h).same (z5.trans z6)
        · exact txts0_good (by decide +kernel) h
      generalize hH7 : upd (upd H5 p (.lst litsB)) o2 (.lst (odd1 t0 l1 t1 d0 ++ litsB)) = H7 at gb z6
      have go2 : H7 o2 = some (.lst (odd1 t0 l1 t1 d0 ++ litsB)) := by rw [← hH7]; exact upd_same
      refine ⟨_, rfl, _, _, rfl, rfl, ⟨by decide, fun _ _ => by decide, fun _ _ => by decide⟩, ?_⟩
      refine ⟨_, _, rfl, rfl, ⟨by decide, fun _ _ => by decide, fun _ _ => by decide⟩, ?_⟩
      refine ⟨_, _, rfl, rfl, ⟨by decide, fun _ _ => by decide, fun _ _ => by decide⟩, ?_⟩
      refine ⟨_, _, rfl, rfl, small1000' (by decide +kernel), ?_⟩
      refine ⟨Nat.le_of_lt (small1000 (by decide)), fun p2 np2 => ?_⟩
      have z8 := same_new (o := .lst litsC) (Same.refl H7) np2
      refine ⟨o2, p2, odd1 t0 l1 t1 d0 ++ litsB, litsC, rfl, rfl, z8 _ _ go2, upd_same, Nat.le_of_lt (small1000 (show 29 ≤ 1000 by decide)), fun o3 no3 => ?_⟩
      have z9 := same_new (o := .lst ((odd1 t0 l1 t1 d0 ++ litsB) ++ litsC)) (Same.refl _) no3
      have gc : ∀ y ∈ (odd1 t0 l1 t1 d0 ++ litsB) ++ litsC, Good K (upd (upd H7 p2 (.lst litsC)) o3 (.lst ((odd1 t0 l1 t1 d0 ++ litsB) ++ litsC))) y := by
        intro y hy
        rcases List.mem_append.mp hy with h | h
        · exact (gb y h).same (z8.trans z9)
        · exact txts0_good (by decide +kernel) h
      generalize hH9 : upd (upd H7 p2 (.lst litsC)) o3 (.lst ((odd1 t0 l1 t1 d0 ++ litsB) ++ litsC)) = H9 at gc z9
      have go3 : H9 o3 = some (.lst ((odd1 t0 l1 t1 d0 ++ litsB) ++ litsC)) := by rw [← hH9]; exact upd_same
      generalize hxs : (odd1 t0 l1 t1 d0 ++ litsB) ++ litsC = xs at gc go3
      refine ⟨_, rfl, o3, rfl, ⟨_, SqL.of go3⟩, fun D nD => ?_⟩
      have zD := same_new (o := .lst []) (Same.refl H9) nD
      refine lc_it (walk_list (xs := xs)) (fun i H' => Same (upd H9 D (.lst [])) H') (Same.refl _) (fun i H' _ h => (zD.trans h).seq (SqL.of go3)) ?_ ?_
      · rintro i y H10 H11 hi h10 ⟨rfl, hy⟩
        have hg := (gc y (List.mem_of_getElem? hy)).same (zD.trans h10)
        obtain ⟨ha1, dd, hr1, hr2, hr3, hr4⟩ := hg
        refine ⟨rfl, ?_⟩
        refine ⟨_, rfl, y, dd, rfl, ha1, hr1, hr2, hr3, hr4, fun H12 s12 => ?_⟩
        refine ⟨_, rfl, ?_⟩
        refine ite2 (fun z => ?_) (fun _ => ?_)
        · simp at z
        exact h10.trans s12
      · rintro H10 h10
        refine ⟨Nat.zero_le _, fun q nq => ?_⟩
        have zq := same_new (o := .lst []) (Same.refl H10) nq
        refine rEq_nil (xs := []) (SqL.of (zq _ _ (h10 _ _ upd_same))) rfl upd_same ?_
        refine ⟨_, rfl, ?_⟩
        refine ite2 (fun _ => ?_) (fun z => ?_)
        · refine ⟨"((a)*b)*(c)*", rfl, by decide, fun H11 s11 => ?_⟩
          refine ⟨rfl, _, rfl, ?_⟩
          refine ite2 (fun _ => ?_) (fun z => ?_)
          · refine ⟨"", rfl, by decide, fun H12 s12 => ?_⟩
            refine ⟨rfl, ?_⟩
            have e : decide (V.int (dep 0 0 (cp (Str.ofString ""))) = V.int 0) = true := by decide +kernel
            rw [e]
            exact kQ _
          · exact absurd (by decide +kernel) z
        · exact absurd rfl z

end
end K17
set_option Elab.async false
set_option linter.all false
set_option maxRecDepth 100000
set_option maxHeartbeats 4000000
namespace K17
open PySem PySem.Spec L2
open PySem.W (Frag)
theorem ini_of {K : Frag} {cB cL : Addr} {nmB qB : Str} {NB : Addr} {bsB : List Value} {snB : List Str} {subB : List Value} {abB : Bool} {colB : Option Bool} {ddB : Option Addr} {m0 m1 m2 m3 m5 : Option Value}
    (xL : K.lookup cB = some (excClassObj nmB qB cB NB bsB [.ref cL, .type "Exception", .type "BaseException", .type "object"] true snB subB abB colB ddB m0 m1 m2 m3 m5 "Exception.__new__")) :
    PySem.W.excInitIn K cB PySem.Lw.exTail "Exception.__new__" = true ∧ PySem.W.excOver K cB PySem.Lw.exTail = true := by
  have et : PySem.W.excTail PySem.Lw.exTail [.ref cL, .type "Exception", .type "BaseException", .type "object"] = true := by
    show ((([.type "Exception", .type "BaseException", .type "object"] : List Value)) == PySem.Lw.exTail) = true
    decide +kernel
  refine ⟨?_, ?_⟩
  · unfold PySem.W.excInitIn
    rw [xL]
    show (((cB == cB && ("Exception.__new__" : String) == "Exception.__new__") && !false) && PySem.W.excTail PySem.Lw.exTail [.ref cL, .type "Exception", .type "BaseException", .type "object"]) = true
    rw [et]
    simp
  · unfold PySem.W.excOver PySem.W.clsIn
    rw [xL]
    show (cB == cB && PySem.W.excTail PySem.Lw.exTail [.ref cL, .type "Exception", .type "BaseException", .type "object"]) = true
    rw [et]
    simp
theorem kit_of2 {K : Frag} {cB cL : Addr} (h2 : PySem.W.isClsIn K cL = true) (h3 : PySem.W.typeIn K (.ref cL) = some (.type "type")) (h4 : PySem.W.subIn K (.ref cB) (.ref cL) = some true) : PySem.W.kitOne K (.ref cB) (.ref cL) = some true := by
  unfold PySem.W.kitOne
  split
  · rfl
  · have e2 : ((PySem.W.clsIn K cL).isSome && PySem.W.typeIn K (.ref cL) == some (.type "type")) = true := by
      have h2' : (PySem.W.clsIn K cL).isSome = true := h2
      rw [h2', h3] <;> rfl
    show (if ((PySem.W.clsIn K cL).isSome && PySem.W.typeIn K (.ref cL) == some (.type "type")) = true then PySem.W.subIn K (.ref cB) (.ref cL) else none) = some true
    rw [if_pos e2]
    exact h4
theorem all_mk {l : PySem.W.OpenLaw} {w : World} {K : Frag} {h : Heap} {mg : Str → Option Value} {fa cL cB iB f_is_script f_check_script f_breaking_place f_may_stand f_loop_depth f__law_deck f__law_draw f__law_pick f__law_place f__law_script f__law_long_script f__law_depth f__law_heard f__law_right f__law_other f_law : Addr} {tL : Tok} (X : K.In h) (G : h.Ns mainGlobals mg) (hfa : mg "law" = some (.ref fa))
    {od_is_script an_is_script : Option Addr} {sl_is_script : Array (Option Value)} {oc_is_script kV_is_script dc_is_script pm_is_script cd_is_script ct_is_script : Value}
    {od_check_script an_check_script : Option Addr} {sl_check_script : Array (Option Value)} {oc_check_script kV_check_script dc_check_script pm_check_script cd_check_script ct_check_script : Value}
    {od_breaking_place an_breaking_place : Option Addr} {sl_breaking_place : Array (Option Value)} {oc_breaking_place kV_breaking_place dc_breaking_place pm_breaking_place cd_breaking_place ct_breaking_place : Value}
    {od_may_stand an_may_stand : Option Addr} {sl_may_stand : Array (Option Value)} {oc_may_stand kV_may_stand dc_may_stand pm_may_stand cd_may_stand ct_may_stand : Value}
    {od_loop_depth an_loop_depth : Option Addr} {sl_loop_depth : Array (Option Value)} {oc_loop_depth kV_loop_depth dc_loop_depth pm_loop_depth cd_loop_depth ct_loop_depth : Value}
    {od__law_deck an__law_deck : Option Addr} {sl__law_deck : Array (Option Value)} {oc__law_deck kV__law_deck dc__law_deck pm__law_deck cd__law_deck ct__law_deck : Value}
    {od__law_draw an__law_draw : Option Addr} {sl__law_draw : Array (Option Value)} {oc__law_draw kV__law_draw dc__law_draw pm__law_draw cd__law_draw ct__law_draw : Value}
    {od__law_pick an__law_pick : Option Addr} {sl__law_pick : Array (Option Value)} {oc__law_pick kV__law_pick dc__law_pick pm__law_pick cd__law_pick ct__law_pick : Value}
    {od__law_place an__law_place : Option Addr} {sl__law_place : Array (Option Value)} {oc__law_place kV__law_place dc__law_place pm__law_place cd__law_place ct__law_place : Value}
    {od__law_script an__law_script : Option Addr} {sl__law_script : Array (Option Value)} {oc__law_script kV__law_script dc__law_script pm__law_script cd__law_script ct__law_script : Value}
    {od__law_long_script an__law_long_script : Option Addr} {sl__law_long_script : Array (Option Value)} {oc__law_long_script kV__law_long_script dc__law_long_script pm__law_long_script cd__law_long_script ct__law_long_script : Value}
    {od__law_depth an__law_depth : Option Addr} {sl__law_depth : Array (Option Value)} {oc__law_depth kV__law_depth dc__law_depth pm__law_depth cd__law_depth ct__law_depth : Value}
    {od__law_heard an__law_heard : Option Addr} {sl__law_heard : Array (Option Value)} {oc__law_heard kV__law_heard dc__law_heard pm__law_heard cd__law_heard ct__law_heard : Value}
    {od__law_right an__law_right : Option Addr} {sl__law_right : Array (Option Value)} {oc__law_right kV__law_right dc__law_right pm__law_right cd__law_right ct__law_right : Value}
    {od__law_other an__law_other : Option Addr} {sl__law_other : Array (Option Value)} {oc__law_other kV__law_other dc__law_other pm__law_other cd__law_other ct__law_other : Value}
    {od_law an_law : Option Addr} {sl_law : Array (Option Value)} {oc_law kV_law dc_law pm_law cd_law ct_law : Value}
    {od_BI an_BI : Option Addr} {sl_BI : Array (Option Value)} {oc_BI dc_BI pm_BI cd_BI ct_BI : Value}
    {nmB qB : Str} {NB : Addr} {bsB : List Value} {snB : List Str} {subB : List Value} {abB : Bool} {colB : Option Bool} {ddB : Option Addr} {m0 m1 m2 m3 m5 : Option Value}
    (a_is_script : PySem.W.nsIn K mainGlobals "is_script" = some (some (.ref f_is_script)))
    (l_is_script : K.lookup f_is_script = some ⟨oc_is_script, od_is_script, .func (PySem.W.fnOf "is_script" "is_script" (defArgs s_is_script) (defBody s_is_script) (defScope s_is_script) .none kV_is_script dc_is_script pm_is_script an_is_script cd_is_script ct_is_script), sl_is_script⟩)
    (c_is_script : PySem.W.codeIn K cd_is_script "is_script" = true)
    (k_is_script : PySem.W.keepIn K (.ref f_is_script) = true)
    (a_check_script : PySem.W.nsIn K mainGlobals "check_script" = some (some (.ref f_check_script)))
    (l_check_script : K.lookup f_check_script = some ⟨oc_check_script, od_check_script, .func (PySem.W.fnOf "check_script" "check_script" (defArgs s_check_script) (defBody s_check_script) (defScope s_check_script) .none kV_check_script dc_check_script pm_check_script an_check_script cd_check_script ct_check_script), sl_check_script⟩)
    (c_check_script : PySem.W.codeIn K cd_check_script "check_script" = true)
    (k_check_script : PySem.W.keepIn K (.ref f_check_script) = true)
    (a_breaking_place : PySem.W.nsIn K mainGlobals "breaking_place" = some (some (.ref f_breaking_place)))
    (l_breaking_place : K.lookup f_breaking_place = some ⟨oc_breaking_place, od_breaking_place, .func (PySem.W.fnOf "breaking_place" "breaking_place" (defArgs s_breaking_place) (defBody s_breaking_place) (defScope s_breaking_place) .none kV_breaking_place dc_breaking_place pm_breaking_place an_breaking_place cd_breaking_place ct_breaking_place), sl_breaking_place⟩)
    (c_breaking_place : PySem.W.codeIn K cd_breaking_place "breaking_place" = true)
    (k_breaking_place : PySem.W.keepIn K (.ref f_breaking_place) = true)
    (a_may_stand : PySem.W.nsIn K mainGlobals "may_stand" = some (some (.ref f_may_stand)))
    (l_may_stand : K.lookup f_may_stand = some ⟨oc_may_stand, od_may_stand, .func (PySem.W.fnOf "may_stand" "may_stand" (defArgs s_may_stand) (defBody s_may_stand) (defScope s_may_stand) .none kV_may_stand dc_may_stand pm_may_stand an_may_stand cd_may_stand ct_may_stand), sl_may_stand⟩)
    (c_may_stand : PySem.W.codeIn K cd_may_stand "may_stand" = true)
    (k_may_stand : PySem.W.keepIn K (.ref f_may_stand) = true)
    (a_loop_depth : PySem.W.nsIn K mainGlobals "loop_depth" = some (some (.ref f_loop_depth)))
    (l_loop_depth : K.lookup f_loop_depth = some ⟨oc_loop_depth, od_loop_depth, .func (PySem.W.fnOf "loop_depth" "loop_depth" (defArgs s_loop_depth) (defBody s_loop_depth) (defScope s_loop_depth) .none kV_loop_depth dc_loop_depth pm_loop_depth an_loop_depth cd_loop_depth ct_loop_depth), sl_loop_depth⟩)
    (c_loop_depth : PySem.W.codeIn K cd_loop_depth "loop_depth" = true)
    (k_loop_depth : PySem.W.keepIn K (.ref f_loop_depth) = true)
    (a__law_deck : PySem.W.nsIn K mainGlobals "_law_deck" = some (some (.ref f__law_deck)))
    (l__law_deck : K.lookup f__law_deck = some ⟨oc__law_deck, od__law_deck, .func (PySem.W.fnOf "_law_deck" "_law_deck" (defArgs s__law_deck) (defBody s__law_deck) (defScope s__law_deck) .none kV__law_deck dc__law_deck pm__law_deck an__law_deck cd__law_deck ct__law_deck), sl__law_deck⟩)
    (c__law_deck : PySem.W.codeIn K cd__law_deck "_law_deck" = true)
    (k__law_deck : PySem.W.keepIn K (.ref f__law_deck) = true)
    (a__law_draw : PySem.W.nsIn K mainGlobals "_law_draw" = some (some (.ref f__law_draw)))
    (l__law_draw : K.lookup f__law_draw = some ⟨oc__law_draw, od__law_draw, .func (PySem.W.fnOf "_law_draw" "_law_draw" (defArgs s__law_draw) (defBody s__law_draw) (defScope s__law_draw) .none kV__law_draw dc__law_draw pm__law_draw an__law_draw cd__law_draw ct__law_draw), sl__law_draw⟩)
    (c__law_draw : PySem.W.codeIn K cd__law_draw "_law_draw" = true)
    (k__law_draw : PySem.W.keepIn K (.ref f__law_draw) = true)
    (a__law_pick : PySem.W.nsIn K mainGlobals "_law_pick" = some (some (.ref f__law_pick)))
    (l__law_pick : K.lookup f__law_pick = some ⟨oc__law_pick, od__law_pick, .func (PySem.W.fnOf "_law_pick" "_law_pick" (defArgs s__law_pick) (defBody s__law_pick) (defScope s__law_pick) .none kV__law_pick dc__law_pick pm__law_pick an__law_pick cd__law_pick ct__law_pick), sl__law_pick⟩)
    (c__law_pick : PySem.W.codeIn K cd__law_pick "_law_pick" = true)
    (k__law_pick : PySem.W.keepIn K (.ref f__law_pick) = true)
    (a__law_place : PySem.W.nsIn K mainGlobals "_law_place" = some (some (.ref f__law_place)))
    (l__law_place : K.lookup f__law_place = some ⟨oc__law_place, od__law_place, .func (PySem.W.fnOf "_law_place" "_law_place" (defArgs s__law_place) (defBody s__law_place) (defScope s__law_place) .none kV__law_place dc__law_place pm__law_place an__law_place cd__law_place ct__law_place), sl__law_place⟩)
    (c__law_place : PySem.W.codeIn K cd__law_place "_law_place" = true)
    (k__law_place : PySem.W.keepIn K (.ref f__law_place) = true)
    (a__law_script : PySem.W.nsIn K mainGlobals "_law_script" = some (some (.ref f__law_script)))
    (l__law_script : K.lookup f__law_script = some ⟨oc__law_script, od__law_script, .func (PySem.W.fnOf "_law_script" "_law_script" (defArgs s__law_script) (defBody s__law_script) (defScope s__law_script) .none kV__law_script dc__law_script pm__law_script an__law_script cd__law_script ct__law_script), sl__law_script⟩)
    (c__law_script : PySem.W.codeIn K cd__law_script "_law_script" = true)
    (k__law_script : PySem.W.keepIn K (.ref f__law_script) = true)
    (a__law_long_script : PySem.W.nsIn K mainGlobals "_law_long_script" = some (some (.ref f__law_long_script)))
    (l__law_long_script : K.lookup f__law_long_script = some ⟨oc__law_long_script, od__law_long_script, .func (PySem.W.fnOf "_law_long_script" "_law_long_script" (defArgs s__law_long_script) (defBody s__law_long_script) (defScope s__law_long_script) .none kV__law_long_script dc__law_long_script pm__law_long_script an__law_long_script cd__law_long_script ct__law_long_script), sl__law_long_script⟩)
    (c__law_long_script : PySem.W.codeIn K cd__law_long_script "_law_long_script" = true)
    (k__law_long_script : PySem.W.keepIn K (.ref f__law_long_script) = true)
    (a__law_depth : PySem.W.nsIn K mainGlobals "_law_depth" = some (some (.ref f__law_depth)))
    (l__law_depth : K.lookup f__law_depth = some ⟨oc__law_depth, od__law_depth, .func (PySem.W.fnOf "_law_depth" "_law_depth" (defArgs s__law_depth) (defBody s__law_depth) (defScope s__law_depth) .none kV__law_depth dc__law_depth pm__law_depth an__law_depth cd__law_depth ct__law_depth), sl__law_depth⟩)
    (c__law_depth : PySem.W.codeIn K cd__law_depth "_law_depth" = true)
    (k__law_depth : PySem.W.keepIn K (.ref f__law_depth) = true)
    (a__law_heard : PySem.W.nsIn K mainGlobals "_law_heard" = some (some (.ref f__law_heard)))
    (l__law_heard : K.lookup f__law_heard = some ⟨oc__law_heard, od__law_heard, .func (PySem.W.fnOf "_law_heard" "_law_heard" (defArgs s__law_heard) (defBody s__law_heard) (defScope s__law_heard) .none kV__law_heard dc__law_heard pm__law_heard an__law_heard cd__law_heard ct__law_heard), sl__law_heard⟩)
    (c__law_heard : PySem.W.codeIn K cd__law_heard "_law_heard" = true)
    (k__law_heard : PySem.W.keepIn K (.ref f__law_heard) = true)
    (a__law_right : PySem.W.nsIn K mainGlobals "_law_right" = some (some (.ref f__law_right)))
    (l__law_right : K.lookup f__law_right = some ⟨oc__law_right, od__law_right, .func (PySem.W.fnOf "_law_right" "_law_right" (defArgs s__law_right) (defBody s__law_right) (defScope s__law_right) .none kV__law_right dc__law_right pm__law_right an__law_right cd__law_right ct__law_right), sl__law_right⟩)
    (c__law_right : PySem.W.codeIn K cd__law_right "_law_right" = true)
    (k__law_right : PySem.W.keepIn K (.ref f__law_right) = true)
    (a__law_other : PySem.W.nsIn K mainGlobals "_law_other" = some (some (.ref f__law_other)))
    (l__law_other : K.lookup f__law_other = some ⟨oc__law_other, od__law_other, .func (PySem.W.fnOf "_law_other" "_law_other" (defArgs s__law_other) (defBody s__law_other) (defScope s__law_other) .none kV__law_other dc__law_other pm__law_other an__law_other cd__law_other ct__law_other), sl__law_other⟩)
    (c__law_other : PySem.W.codeIn K cd__law_other "_law_other" = true)
    (k__law_other : PySem.W.keepIn K (.ref f__law_other) = true)
    (a_law : PySem.W.nsIn K mainGlobals "law" = some (some (.ref f_law)))
    (l_law : K.lookup f_law = some ⟨oc_law, od_law, .func (PySem.W.fnOf "law" "law" (defArgs s_law) (defBody s_law) (defScope s_law) .none kV_law dc_law pm_law an_law cd_law ct_law), sl_law⟩)
    (c_law : PySem.W.codeIn K cd_law "law" = true)
    (k_law : PySem.W.keepIn K (.ref f_law) = true)
    (z_enumerate : PySem.W.nsIn K mainGlobals "enumerate" = some none)
    (z_int : PySem.W.nsIn K mainGlobals "int" = some none)
    (z_isinstance : PySem.W.nsIn K mainGlobals "isinstance" = some none)
    (z_len : PySem.W.nsIn K mainGlobals "len" = some none)
    (z_list : PySem.W.nsIn K mainGlobals "list" = some none)
    (z_max : PySem.W.nsIn K mainGlobals "max" = some none)
    (z_range : PySem.W.nsIn K mainGlobals "range" = some none)
    (z_repr : PySem.W.nsIn K mainGlobals "repr" = some none)
    (z_str : PySem.W.nsIn K mainGlobals "str" = some none)
    (z_sum : PySem.W.nsIn K mainGlobals "sum" = some none)
    (aL : PySem.W.nsIn K mainGlobals "LETTERS" = some (some (.str "abcdefghijklmnopqrstuvwxyz" tL)))
    (aE : PySem.W.nsIn K mainGlobals "LoomError" = some (some (.ref cL)))
    (aB : PySem.W.nsIn K mainGlobals "BadScript" = some (some (.ref cB)))
    (xL : K.lookup cB = some (excClassObj nmB qB cB NB bsB [.ref cL, .type "Exception", .type "BaseException", .type "object"] true snB subB abB colB ddB m0 m1 m2 m3 m5 "Exception.__new__"))
    (sa : PySem.W.findIn K (.ref cB) "__setattr__" = some (some (.builtin "object.__setattr__")))
    (ga : PySem.W.findIn K (.ref cB) "__getattribute__" = some (some (.builtin "BaseException.__getattribute__")))
    (gg : PySem.W.findIn K (.ref cB) "__getattr__" = some none)
    (noN : PySem.W.findIn K (.ref cB) "place" = some none)
    (tkr : PySem.W.takerIn K cB "place" = some none)
    (iC : PySem.W.findIn K (.ref cB) "__init__" = some (some (.ref iB)))
    (tI : PySem.W.typeIn K (.ref iB) = some (.type "function"))
    (kC : PySem.W.keepIn K (.ref cB) = true)
    (exC : PySem.W.subIn K (.ref cB) (.type "BaseException") = some true)
    (tyC : PySem.W.typeIn K (.ref cB) = some (.type "type"))
    (hdC : PySem.W.hasDictIn K cB = true)
    (lI : K.lookup iB = some ⟨oc_BI, od_BI, .func (PySem.W.fnOf "__init__" "BadScript.__init__" (PySem.XBadScript.iA ⟨6, 17, 6, 21⟩ ⟨6, 23, 6, 28⟩) (PySem.XBadScript.iB ⟨7, 8, 7, 12⟩ ⟨7, 8, 7, 18⟩ ⟨7, 21, 7, 26⟩ ⟨7, 8, 7, 26⟩) PySem.XBadScript.iS .none .none dc_BI pm_BI an_BI cd_BI ct_BI), sl_BI⟩)
    (cI : PySem.W.codeIn K cd_BI "BadScript.__init__" = true)
    (ha : PySem.W.findIn K (.ref cB) "__class__" = some (some (.builtin "object.__class__")))
    (hn : PySem.W.specialIn K (.builtin "object.__class__") "__get__" = some (some (.builtin "getset_descriptor.__get__")))
    (ht : PySem.W.takesIn K (.builtin "object.__class__") = some true)
    (hm : PySem.W.mroIn K cB (.type "object") = some true)
    (sBB : PySem.W.subIn K (.ref cB) (.ref cB) = some true)
    (iL : PySem.W.isClsIn K cL = true)
    (tyL : PySem.W.typeIn K (.ref cL) = some (.type "type"))
    (sBL : PySem.W.subIn K (.ref cB) (.ref cL) = some true) :
    ∃ fd : FuncData, (∀ (s : Shared) (v : Value), BindsTo s fd ⟨[v], []⟩ [("_law_script_here", v)]) ∧ ∀ base : Heap, K.In base → base.Ns mainGlobals mg → FnG l.prog w K mg base 8 fa fd ["_law_script_here"] (spLaw K) := by
  obtain ⟨ini, ovr⟩ := ini_of xL
  have te := PySem.W.exm_ref exC hdC tyC sBB
  have ki := kit_of2 iL tyL sBL
  have e := hfa.symm.trans (PySem.W.mg_of X G a_law)
  cases e
  have T : Txt K mg { f_is_script := f_is_script, fd_is_script := PySem.W.fnOf "is_script" "is_script" (defArgs s_is_script) (defBody s_is_script) (defScope s_is_script) .none kV_is_script dc_is_script pm_is_script an_is_script cd_is_script ct_is_script, f_check_script := f_check_script, fd_check_script := PySem.W.fnOf "check_script" "check_script" (defArgs s_check_script) (defBody s_check_script) (defScope s_check_script) .none kV_check_script dc_check_script pm_check_script an_check_script cd_check_script ct_check_script, f_breaking_place := f_breaking_place, fd_breaking_place := PySem.W.fnOf "breaking_place" "breaking_place" (defArgs s_breaking_place) (defBody s_breaking_place) (defScope s_breaking_place) .none kV_breaking_place dc_breaking_place pm_breaking_place an_breaking_place cd_breaking_place ct_breaking_place, f_may_stand := f_may_stand, fd_may_stand := PySem.W.fnOf "may_stand" "may_stand" (defArgs s_may_stand) (defBody s_may_stand) (defScope s_may_stand) .none kV_may_stand dc_may_stand pm_may_stand an_may_stand cd_may_stand ct_may_stand, f_loop_depth := f_loop_depth, fd_loop_depth := PySem.W.fnOf "loop_depth" "loop_depth" (defArgs s_loop_depth) (defBody s_loop_depth) (defScope s_loop_depth) .none kV_loop_depth dc_loop_depth pm_loop_depth an_loop_depth cd_loop_depth ct_loop_depth, f__law_deck := f__law_deck, fd__law_deck := PySem.W.fnOf "_law_deck" "_law_deck" (defArgs s__law_deck) (defBody s__law_deck) (defScope s__law_deck) .none kV__law_deck dc__law_deck pm__law_deck an__law_deck cd__law_deck ct__law_deck, f__law_draw := f__law_draw, fd__law_draw := PySem.W.fnOf "_law_draw" "_law_draw" (defArgs s__law_draw) (defBody s__law_draw) (defScope s__law_draw) .none kV__law_draw dc__law_draw pm__law_draw an__law_draw cd__law_draw ct__law_draw, f__law_pick := f__law_pick, fd__law_pick := PySem.W.fnOf "_law_pick" "_law_pick" (defArgs s__law_pick) (defBody s__law_pick) (defScope s__law_pick) .none kV__law_pick dc__law_pick pm__law_pick an__law_pick cd__law_pick ct__law_pick, f__law_place := f__law_place, fd__law_place := PySem.W.fnOf "_law_place" "_law_place" (defArgs s__law_place) (defBody s__law_place) (defScope s__law_place) .none kV__law_place dc__law_place pm__law_place an__law_place cd__law_place ct__law_place, f__law_script := f__law_script, fd__law_script := PySem.W.fnOf "_law_script" "_law_script" (defArgs s__law_script) (defBody s__law_script) (defScope s__law_script) .none kV__law_script dc__law_script pm__law_script an__law_script cd__law_script ct__law_script, f__law_long_script := f__law_long_script, fd__law_long_script := PySem.W.fnOf "_law_long_script" "_law_long_script" (defArgs s__law_long_script) (defBody s__law_long_script) (defScope s__law_long_script) .none kV__law_long_script dc__law_long_script pm__law_long_script an__law_long_script cd__law_long_script ct__law_long_script, f__law_depth := f__law_depth, fd__law_depth := PySem.W.fnOf "_law_depth" "_law_depth" (defArgs s__law_depth) (defBody s__law_depth) (defScope s__law_depth) .none kV__law_depth dc__law_depth pm__law_depth an__law_depth cd__law_depth ct__law_depth, f__law_heard := f__law_heard, fd__law_heard := PySem.W.fnOf "_law_heard" "_law_heard" (defArgs s__law_heard) (defBody s__law_heard) (defScope s__law_heard) .none kV__law_heard dc__law_heard pm__law_heard an__law_heard cd__law_heard ct__law_heard, f__law_right := f__law_right, fd__law_right := PySem.W.fnOf "_law_right" "_law_right" (defArgs s__law_right) (defBody s__law_right) (defScope s__law_right) .none kV__law_right dc__law_right pm__law_right an__law_right cd__law_right ct__law_right, f__law_other := f__law_other, fd__law_other := PySem.W.fnOf "_law_other" "_law_other" (defArgs s__law_other) (defBody s__law_other) (defScope s__law_other) .none kV__law_other dc__law_other pm__law_other an__law_other cd__law_other ct__law_other, f_law := fa, fd_law := PySem.W.fnOf "law" "law" (defArgs s_law) (defBody s_law) (defScope s_law) .none kV_law dc_law pm_law an_law cd_law ct_law, c_LoomError := cL, c_BadScript := cB, i_BadScript := iB, t_LETTERS := tL } := {
    F_is_script := fun_mk (st := s_is_script) l_is_script c_is_script k_is_script, m_is_script := PySem.W.mg_of X G a_is_script,
    F_check_script := fun_mk (st := s_check_script) l_check_script c_check_script k_check_script, m_check_script := PySem.W.mg_of X G a_check_script,
    F_breaking_place := fun_mk (st := s_breaking_place) l_breaking_place c_breaking_place k_breaking_place, m_breaking_place := PySem.W.mg_of X G a_breaking_place,
    F_may_stand := fun_mk (st := s_may_stand) l_may_stand c_may_stand k_may_stand, m_may_stand := PySem.W.mg_of X G a_may_stand,
    F_loop_depth := fun_mk (st := s_loop_depth) l_loop_depth c_loop_depth k_loop_depth, m_loop_depth := PySem.W.mg_of X G a_loop_depth,
    F__law_deck := fun_mk (st := s__law_deck) l__law_deck c__law_deck k__law_deck, m__law_deck := PySem.W.mg_of X G a__law_deck,
    F__law_draw := fun_mk (st := s__law_draw) l__law_draw c__law_draw k__law_draw, m__law_draw := PySem.W.mg_of X G a__law_draw,
    F__law_pick := fun_mk (st := s__law_pick) l__law_pick c__law_pick k__law_pick, m__law_pick := PySem.W.mg_of X G a__law_pick,
    F__law_place := fun_mk (st := s__law_place) l__law_place c__law_place k__law_place, m__law_place := PySem.W.mg_of X G a__law_place,
    F__law_script := fun_mk (st := s__law_script) l__law_script c__law_script k__law_script, m__law_script := PySem.W.mg_of X G a__law_script,
    F__law_long_script := fun_mk (st := s__law_long_script) l__law_long_script c__law_long_script k__law_long_script, m__law_long_script := PySem.W.mg_of X G a__law_long_script,
    F__law_depth := fun_mk (st := s__law_depth) l__law_depth c__law_depth k__law_depth, m__law_depth := PySem.W.mg_of X G a__law_depth,
    F__law_heard := fun_mk (st := s__law_heard) l__law_heard c__law_heard k__law_heard, m__law_heard := PySem.W.mg_of X G a__law_heard,
    F__law_right := fun_mk (st := s__law_right) l__law_right c__law_right k__law_right, m__law_right := PySem.W.mg_of X G a__law_right,
    F__law_other := fun_mk (st := s__law_other) l__law_other c__law_other k__law_other, m__law_other := PySem.W.mg_of X G a__law_other,
    F_law := fun_mk (st := s_law) l_law c_law k_law, m_law := PySem.W.mg_of X G a_law,
    n_enumerate := PySem.W.mg_none_of X G z_enumerate,
    n_int := PySem.W.mg_none_of X G z_int,
    n_isinstance := PySem.W.mg_none_of X G z_isinstance,
    n_len := PySem.W.mg_none_of X G z_len,
    n_list := PySem.W.mg_none_of X G z_list,
    n_max := PySem.W.mg_none_of X G z_max,
    n_range := PySem.W.mg_none_of X G z_range,
    n_repr := PySem.W.mg_none_of X G z_repr,
    n_str := PySem.W.mg_none_of X G z_str,
    n_sum := PySem.W.mg_none_of X G z_sum,
    c_LETTERS := PySem.W.mg_of X G aL,
    x_BadScript := { gC := PySem.W.mg_of X G aB, ini := ini, ovr := ovr, sa := sa, ga := ga, gg := gg, noN := noN, tkr := tkr, iC := iC, tI := tI, kC := kC, exC := exC, tyC := tyC, hdC := hdC, fn := ⟨_, _, _, _, _, _, _, _, _, _, _, _, _, _, lI, cI⟩ },
    g_LoomError := PySem.W.mg_of X G aE,
    e_BadScript := ⟨ga, gg, exC, hdC, ha, hn, ht, hm⟩,
    te_BadScript := te, ki_BadScript := ki }
  exact ⟨PySem.W.fnOf "law" "law" (defArgs s_law) (defBody s_law) (defScope s_law) .none kV_law dc_law pm_law an_law cd_law ct_law, fun s v => .of_eq rfl, fun base _ _ => ok_law T⟩
theorem walk {l : PySem.W.OpenLaw} {q : Program} {loose : List Str} {XP : (Str → Option Value) → Heap → Prop} {YP : World → Heap → Prop} {d : DefRec} {K : Params → Frag} (hn : l.most = some 63) (hdf : d.params.defaults = [])
    (hY : ∀ (w : World) (h : Heap), YP w h → (K w.params).In h)
    (F : ∀ (w : World) (mg : Str → Option Value) (fa : Addr) (h : Heap), (K w.params).In h → h.Ns mainGlobals mg → mg d.name = some (.ref fa) →
      ∃ fd : FuncData, (∀ (s : Shared) (u : Value), BindsTo s fd ⟨[u], []⟩ [("_law_script_here", u)]) ∧ ∀ base : Heap, (K w.params).In base → base.Ns mainGlobals mg → FnG l.prog w (K w.params) mg base 8 fa fd ["_law_script_here"] (spLaw (K w.params))) :
    PySem.W.WalkO q loose XP YP l.row.toRowW d [] (fun f vs => PySem.call f vs) :=
  L2.walkG_of (n := 63) (k := 8) (x := "_law_script_here") (sp := spLaw) hn (by decide) hdf ⟨rfl, by decide, by decide⟩ hY F (fun _ _ a ns hl _ hS => ⟨a, ns, rfl, hS, fun _ => rfl⟩)
end K17

open PySem PySem.W PyProof.Rows in
set_option maxRecDepth 100000 in
set_option maxHeartbeats 0 in
theorem PySem.Challenge.cw_loomhold_k17_scripts_of_any_value_holds : PySem.Challenge.rw_loomhold_k17_scripts_of_any_value.Holds := by
  w_on; o_law; k_head; (case hw => w_witness2)
  k_fill
  refine K17.walk (l := PySem.Challenge.rw_loomhold_k17_scripts_of_any_value) rfl rfl (fun w h Y => PySem.W.kIn_of Y) ?F
  case F =>
    intro w mg fa h KX G hmg
    refine' K17.all_mk KX G hmg ?a_is_script ?l_is_script ?c_is_script ?k_is_script ?a_check_script ?l_check_script ?c_check_script ?k_check_script ?a_breaking_place ?l_breaking_place ?c_breaking_place ?k_breaking_place ?a_may_stand ?l_may_stand ?c_may_stand ?k_may_stand ?a_loop_depth ?l_loop_depth ?c_loop_depth ?k_loop_depth ?a__law_deck ?l__law_deck ?c__law_deck ?k__law_deck ?a__law_draw ?l__law_draw ?c__law_draw ?k__law_draw ?a__law_pick ?l__law_pick ?c__law_pick ?k__law_pick ?a__law_place ?l__law_place ?c__law_place ?k__law_place ?a__law_script ?l__law_script ?c__law_script ?k__law_script ?a__law_long_script ?l__law_long_script ?c__law_long_script ?k__law_long_script ?a__law_depth ?l__law_depth ?c__law_depth ?k__law_depth ?a__law_heard ?l__law_heard ?c__law_heard ?k__law_heard ?a__law_right ?l__law_right ?c__law_right ?k__law_right ?a__law_other ?l__law_other ?c__law_other ?k__law_other ?a_law ?l_law ?c_law ?k_law ?z_enumerate ?z_int ?z_isinstance ?z_len ?z_list ?z_max ?z_range ?z_repr ?z_str ?z_sum ?aL ?aE ?aB ?xL ?sa ?ga ?gg ?noN ?tkr ?iC ?tI ?kC ?exC ?tyC ?hdC ?lI ?cI ?ha ?hn ?ht ?hm ?sBB ?iL ?tyL ?sBL
    (case a_is_script => k_is)
    (case l_is_script => k_is)
    (case c_is_script => k_is)
    (case k_is_script => k_is)
    (case a_check_script => k_is)
    (case l_check_script => k_is)
    (case c_check_script => k_is)
    (case k_check_script => k_is)
    (case a_breaking_place => k_is)
    (case l_breaking_place => k_is)
    (case c_breaking_place => k_is)
    (case k_breaking_place => k_is)
    (case a_may_stand => k_is)
    (case l_may_stand => k_is)
    (case c_may_stand => k_is)
    (case k_may_stand => k_is)
    (case a_loop_depth => k_is)
    (case l_loop_depth => k_is)
    (case c_loop_depth => k_is)
    (case k_loop_depth => k_is)
    (case a__law_deck => k_is)
    (case l__law_deck => k_is)
    (case c__law_deck => k_is)
    (case k__law_deck => k_is)
    (case a__law_draw => k_is)
    (case l__law_draw => k_is)
    (case c__law_draw => k_is)
    (case k__law_draw => k_is)
    (case a__law_pick => k_is)
    (case l__law_pick => k_is)
    (case c__law_pick => k_is)
    (case k__law_pick => k_is)
    (case a__law_place => k_is)
    (case l__law_place => k_is)
    (case c__law_place => k_is)
    (case k__law_place => k_is)
    (case a__law_script => k_is)
    (case l__law_script => k_is)
    (case c__law_script => k_is)
    (case k__law_script => k_is)
    (case a__law_long_script => k_is)
    (case l__law_long_script => k_is)
    (case c__law_long_script => k_is)
    (case k__law_long_script => k_is)
    (case a__law_depth => k_is)
    (case l__law_depth => k_is)
    (case c__law_depth => k_is)
    (case k__law_depth => k_is)
    (case a__law_heard => k_is)
    (case l__law_heard => k_is)
    (case c__law_heard => k_is)
    (case k__law_heard => k_is)
    (case a__law_right => k_is)
    (case l__law_right => k_is)
    (case c__law_right => k_is)
    (case k__law_right => k_is)
    (case a__law_other => k_is)
    (case l__law_other => k_is)
    (case c__law_other => k_is)
    (case k__law_other => k_is)
    (case a_law => k_is)
    (case l_law => k_is)
    (case c_law => k_is)
    (case k_law => k_is)
    (case z_enumerate => k_is)
    (case z_int => k_is)
    (case z_isinstance => k_is)
    (case z_len => k_is)
    (case z_list => k_is)
    (case z_max => k_is)
    (case z_range => k_is)
    (case z_repr => k_is)
    (case z_str => k_is)
    (case z_sum => k_is)
    (case aL => k_is)
    (case aE => k_is)
    (case aB => k_is)
    (case xL => k_is)
    (case sa => k_is)
    (case ga => k_is)
    (case gg => k_is)
    (case noN => k_is)
    (case tkr => k_is)
    (case iC => k_is)
    (case tI => k_is)
    (case kC => k_is)
    (case exC => k_is)
    (case tyC => k_is)
    (case hdC => k_is)
    (case lI => k_is)
    (case cI => k_is)
    (case ha => k_is)
    (case hn => k_is)
    (case ht => k_is)
    (case hm => k_is)
    (case sBB => k_is)
    (case iL => k_is)
    (case tyL => k_is)
    (case sBL => k_is)
