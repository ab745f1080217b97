import PyProof.Rows.All
import Wide.All
import OpenK.AllK
import Wide.FinOn
import HandS.ForMost
import HandS.ForExc
import HandS.ExcInit
import HandS.ExcField
import KE.KExcInit
import HandS.Walk
import KE.GoesMore
import HandS.ExcIs
import HandS.SetFor
import HandS.IsInst
import HandS.OwnEq
import HandS.Words
import KE.KCallOwn
import PyProof.StrLawsRepr
import HandS.ClsMeth
import KE.GoesEnumKw
import HandS.ReplaceLit
import HandS.ReplaceList
import PyProof.StrBlock2
import HandS.Style
import HandS.Flow
import HandS.TupAny
import HandS.Deep
import HandS.Text
import HandS.Star
import PyProof.Rows.ReprOcc
import PyProof.StrLawsChain
import HandS.RaiseMore
import HandS.Zip
import HandS.Conv
import HandS.TupMul
import PyProof.Rows.IntBool
import PyProof.ReprLen
import PySem.Challenge.RW_loomhold_k03_cloths_of_any_value_and_tex
import KE.KStrOpen
set_option Elab.async false
set_option linter.all false
set_option maxRecDepth 100000
set_option maxHeartbeats 4000000
/-! own exceptions over Exception (with own classes between), with one field stored by __init__ -/
namespace PySem
namespace Lw
open PySem.W PySem.Calls PyProof.Rows PySem.HandSPX Builtin Builtin.ObjectAttr
abbrev exTail : List Value := [.type "Exception", .type "BaseException", .type "object"]
section
variable {prog : Program} {w : World} {A : Around} {R : Result → Shared → Prop}
/-- the first store into such an exception: its dict is made -/
theorem store_first {K : Frag} {hp : Heap} {g : Array GenState} {dr : Drawn} {t : Nat} {os : OsState} {fld : Str} {tk : Tok} {v : Value} {x C : Addr} {t0 : Addr}
    (X : K.In hp) (ho : excOver K C exTail = true) (hh : hasDictIn K C = true) (ht : takerIn K C fld = some none)
    (hx : hp.get? x = some (excO C t0))
    (hq : ∀ h' tk' dx, (∀ b o, b ≠ x → hp.get? b = some o → h'.get? b = some o) → hp.objs.size ≤ dx → dx ≠ x →
      h'.get? x = some { cls := .ref C, dict := some dx, data := .fields #[.ref t0, .none, .none, .none, .bool false, .none] } →
      h'.Ns1 dx (fun y => if y = fld then some v else none) → R (.ok (.ret .none)) ⟨h', g, dr, tk', os⟩) :
    codeAny (model prog w) A (.call (.builtin "object.__setattr__") ⟨[.ref x, .str fld tk, v], []⟩) R ⟨hp, g, dr, t, os⟩ := by
  have hxs : x ≠ hp.objs.size := Nat.ne_of_lt (Heap.lt_size hx)
  refine osa_openX (s := ⟨hp, g, dr, t, os⟩) (od := none) PySem.F.store_Exception X ⟨hx, rfl, rfl, trivial⟩ ho ht fun b => ?_
  obtain ⟨cd, hc, hd'⟩ := any_some hh
  refine wpAny_bind (wpAny_pure (wpAny_bind (instanceDict_exc hx (looks_clsIn X hc) hd' ?_)))
  show wpAny _ _ (storeInDict hp.objs.size (.str fld tk) fld v) _ _ _
  refine store_in_new ?_ ?_
  · exact ⟨_, #[], _, (Heap.get?_update_ne _ _ _ _ hxs.symm).trans (Heap.get?_push_at rfl rfl), rfl, fun e he => absurd he (by simp), fun _ => rfl⟩
  · intro h' tk' hn' hs
    have hx1 : (hp.push (dictOf [] 0)).get? x = some (excO C t0) := Heap.get?_push_of_some _ hx
    refine hq h' tk' hp.objs.size (fun b o hb hob => ?_) (Nat.le_refl _) hxs.symm ?_ hn'
    · exact (hs.2 b (Nat.ne_of_lt (Heap.lt_size hob))).trans ((Heap.get?_update_ne _ _ _ _ hb).trans (Heap.get?_push_of_some _ hob))
    · exact (hs.2 x hxs).trans (Heap.get?_update_self _ hx1 rfl)
end

theorem one_size (v : Value) : [v].length ≤ sizeLine := by
  rw [sizeLine_eq]
  exact (by decide : 1 ≤ 16777216)
theorem ldC {M : Model} {A : Around} {E : Value → Shared → Prop} {s : Shared} {name : Str} {scope : Scope} {L a : Addr} {cd : Value} {m : Str → Option Value} {x : Str} {pos : Pos} {v : Value} {Q : Value → Shared → Prop} (hn : s.heap.Ns L m) (hv : m x = some v) (h : Q v s)
    (hk : scope.kind = .function := by rfl) (hl : (envOfC name scope L a cd).kindOf x = some .local := by rfl) (hd : (x == ("__debug__" : Str)) = false := by decide) :
    wpAny M A (eval (.Name x pos) (envOfC name scope L a cd)) Q E s := wpAny_Name (wpAny_loadName_local hk hl hn hv h) hd
/-- what __init__ leaves of a fresh exception at x -/
structure InitEnd (fld : Str) (h h' : Heap) (x C dx t1 : Addr) (v : Value) : Prop where
  keep : ∀ b o, b ≠ x → h.get? b = some o → h'.get? b = some o
  obj : h'.get? x = some { cls := .ref C, dict := some dx, data := .fields #[.ref t1, .none, .none, .none, .bool false, .none] }
  dbig : h.objs.size ≤ dx
  dne : dx ≠ x
  ns : h'.Ns1 dx (fun y => if y = fld then some v else none)
/-- a made one -/
structure OwnMade (fld : Str) (h h' : Heap) (e C d : Addr) (v : Value) : Prop where
  keep : ∀ b o, h.get? b = some o → h'.get? b = some o
  new : h.objs.size ≤ e
  obj : ∃ t1 : Addr, h'.get? e = some { cls := .ref C, dict := some d, data := .fields #[.ref t1, .none, .none, .none, .bool false, .none] }
  dbig : h.objs.size ≤ d
  dne : d ≠ e
  ns : h'.Ns1 d (fun y => if y = fld then some v else none)
theorem OwnMade.of {fld : Str} {hp h' : Heap} {C dx t1 : Addr} {v : Value} {o1 o2 : Obj} (I : InitEnd fld ((hp.push o1).push o2) h' (hp.objs.size + 1) C dx t1 v)
    (k : ∀ b o, hp.get? b = some o → ((hp.push o1).push o2).get? b = some o) : OwnMade fld hp h' (hp.objs.size + 1) C dx v := by
  obtain ⟨k', hx, dn, dne, hns⟩ := I
  have old : ∀ b o, hp.get? b = some o → h'.get? b = some o := fun b o e => k' b o (Nat.ne_of_lt (Nat.lt_succ_of_lt (Heap.lt_size e))) (k b o e)
  have z : hp.objs.size + 1 + 1 ≤ dx := by
    have q := dn
    rw [Heap.size_push, Heap.size_push] at q
    exact q
  exact ⟨old, Nat.le_succ _, ⟨_, hx⟩, Nat.le_trans (Nat.le_trans (Nat.le_succ _) (Nat.le_succ _)) z, dne, hns⟩
end Lw
end PySem
namespace L2
open PySem PySem.Spec PyProof.Rows
theorem relO_one {fld : Str} {v : V} {v' : Value} (r : RelV v v') (f : Str) : RelO (List.lookup f [(fld, v)]) (if f = fld then some v' else none) := by
  by_cases hw : f = fld
  · subst hw
    rw [if_pos rfl]
    have q : List.lookup f [(f, v)] = some v := by simp [List.lookup]
    rw [q]
    exact r
  · rw [if_neg hw]
    have qw : (f == fld) = false := by simpa using hw
    have q2 : List.lookup f [(fld, v)] = none := by simp [List.lookup, qw]
    rw [q2]
    trivial
/-- C(e), e one argument kept as fld -/
def tMk1 (fld : Str) (C : Addr) (ta : TA) : St → Hp → XK → Prop := fun σ H Q => ta σ H fun vs H1 => ∃ v, vs = [v] ∧ ∀ d, H1 d = none → Q (.ref C) (some d) (upd H1 d (.xd [(fld, v)]))
def tRaise1 (fld : Str) (C : Addr) (W : WX) (ta : TA) : TS := fun _ σ H => tMk1 fld C ta σ H fun cls d H' => W cls d σ H'
theorem mk1_of {X : Cx} {C : Addr} {fld : Str} {pins : List (Addr × Obj)} {σ : St} {H1 : Hp} {Q : XK} {hp h' : Heap} {g : Array GenState} {dr : Drawn} {tk tk' : Nat} {os : OsState} {e d : Addr} {v : V} {v' : Value}
    (I1 : Inv X pins σ H1 ⟨hp, g, dr, tk, os⟩) (hR : Raises X (.ref C)) (rv : RelV v v') (M : PySem.Lw.OwnMade fld hp h' e C d v') (q1 : ∀ d, H1 d = none → Q (.ref C) (some d) (upd H1 d (.xd [(fld, v)]))) :
    MkP X pins σ Q (.ref e) ⟨h', g, dr, tk', os⟩ := by
  obtain ⟨t1, hoe⟩ := M.obj
  have hns := M.ns
  obtain ⟨G', g1, g2⟩ := restrict h' fun b => decide (b ≠ e)
  have gk : ∀ b, b ≠ e → G'.get? b = h'.get? b := fun b hb => g1 b (decide_eq_true hb)
  have ge : G'.get? e = none := g2 e (by simp)
  have old : ∀ b o, hp.get? b = some o → G'.get? b = some o := fun b o q => (gk b (Nat.ne_of_lt (Nat.lt_of_lt_of_le (Heap.lt_size q) M.new))).trans (M.keep b o q)
  have ob : ObjOk X.prog X.w (upd H1 d (.xd [(fld, v)])) G' d (.xd [(fld, v)]) :=
    ⟨_, hns.at (fun o q => (gk d M.dne).trans q), fun f => relO_one rv f⟩
  have J : Inv X pins σ (upd H1 d (.xd [(fld, v)])) ⟨G', g, dr, tk', os⟩ := I1.laid (t' := tk') old M.dbig ob
  refine ⟨e, _, _, ⟨G', g, dr, tk', os⟩, _, .ref C, some d, rfl, J, fun b o q => ?_, ge, hoe, ⟨rfl, rfl⟩, rfl, rfl, ?_, rfl, I1.bare, hR, q1 d (I1.hok.fresh M.dbig)⟩
  · by_cases hb : b = e
    · have q' : G'.get? b = some o := q
      rw [hb, ge] at q'; cases q'
    · exact (gk b hb).symm.trans q
  · rw [upd_ne (Ne.symm M.dne)]
    exact I1.hok.fresh M.new
end L2
set_option Elab.async false
set_option linter.all false
set_option maxRecDepth 100000
set_option maxHeartbeats 4000000
/-! promises of defs that are called where no repr is under way (guards = some []) -/
namespace L2
open PySem PySem.Spec PyProof.Rows

/-- a promise: as the layer's, but told of calls within no guard; an exception lies as L2.CX says -/
structure FnG (P : Program) (w : World) (K : PySem.W.Frag) (mg : Str → Option Value) (base : Heap) (k : Nat) (f : Addr) (fd : FuncData) (ps : List Str) (sp : Sp) : Prop where
  arity : ∀ vs H Q E, sp vs H Q E → vs.length = ps.length
  runs : ∀ (A : Around) (outer : List Env) (s : Shared) (H : Hp) (args : Args) (us : List Value) (vs : List V) (Q : VK) (E : XK), Room k A → A.guards = some [] → Env0 P w K mg base A outer s H →
    BindsTo s fd args (ps.zip us) → Vals vs us → sp vs H Q E → codeAny (model P w) A (.call (.ref f) args) (CR (L2.CX P w) outer P w H s Q E) s
theorem FnG.up {P : Program} {w : World} {K : PySem.W.Frag} {mg : Str → Option Value} {base : Heap} {j k : Nat} {f : Addr} {fd : FuncData} {ps : List Str} {sp : Sp} (F : FnG P w K mg base j f fd ps sp) (h : j ≤ k) :
    FnG P w K mg base k f fd ps sp := ⟨F.arity, fun A o s H a us vs Q E r => F.runs A o s H a us vs Q E (r.mono h)⟩
theorem FnG.imp {P : Program} {w : World} {K : PySem.W.Frag} {mg : Str → Option Value} {base : Heap} {k : Nat} {f : Addr} {fd : FuncData} {ps : List Str} {sp sp' : Sp} (F : FnG P w K mg base k f fd ps sp)
    (h : ∀ vs H Q E, sp' vs H Q E → sp vs H Q E) : FnG P w K mg base k f fd ps sp' :=
  ⟨fun vs H Q E q => F.arity vs H Q E (h _ _ _ _ q), fun A o s H a us vs Q E r g e b v q => F.runs A o s H a us vs Q E r g e b v (h _ _ _ _ q)⟩

section
variable {X : Cx} {k : Nat} {f C : Addr} {fd : FuncData} {ps ks : List Str} {sp : Sp} {dvs : List V} {ds : List Value} {E : St → XK} {x m : Str} {p pos apos : Pos} {e o : Expr} {es : List Expr} {kws : List Keyword} {ta : TE} {t tk : TA}

/-- the callee runs, by any arguments that bind -/
theorem runG {pins : List (Addr × Obj)} {σ : St} {H : Hp} {s : Shared} {Q : VK} {args : Args} {us : List Value} {vs : List V} (F : FnG X.prog X.w X.K X.mg X.base k f fd ps sp) (hr : Room k X.A) (hgd : X.A.guards = some [])
    (hx : PassesAt (L2.CX X.prog X.w) X σ (E σ)) (I : Inv X pins σ H s) (hb : BindsTo s fd args (ps.zip us)) (r : Vals vs us) (h : sp vs H Q (E σ)) :
    codeAny (model X.prog X.w) X.A (.call (.ref f) args) (fun r s' => match r with | .ok (.ret v) => EP X pins σ Q v s' | .ok _ => False | .error e => X.xe e s') s := by
  refine codeAny_mono (F.runs X.A X.stack s H args us vs Q (E σ) hr hgd I.env0 hb r h) fun r s' q => ?_
  rcases r with e | (_ | _ | _ | u)
  · exact hx pins H s e s' I q
  · exact False.elim q
  · exact False.elim q
  · exact False.elim q
  · exact I.after q

/-- f(..), what is raised wished for at the slots -/
def tCallG (sp : Sp) (dvs : List V) (E : St → XK) (t : TA) : TE := fun σ H Q => t σ H fun vs H1 => sp (vs ++ dvs) H1 Q (E σ)
def tCallKG (sp : Sp) (gV : List V → List V → List V) (E : St → XK) (t tk : TA) : TE := fun σ H Q => t σ H fun vs H1 => tk σ H1 fun zs H2 => sp (gV vs zs) H2 Q (E σ)
def tMethG (C : Addr) (m : Str) (sp : Sp) (dvs : List V) (E : St → XK) (ta : TE) (t : TA) : TE := fun σ H Q => ta σ H fun x H1 => ∃ a dx fs, x = .ref a ∧ H1 a = some (.ins C dx fs) ∧ fs.lookup m = none ∧
  t σ H1 fun vs H2 => sp (x :: (vs ++ dvs)) H2 Q (E σ)

theorem callG_at {pins : List (Addr × Obj)} {σ : St} {H : Hp} {s : Shared} {Q : VK} {us : List Value} {vs : List V} (F : FnG X.prog X.w X.K X.mg X.base k f fd ps sp) (hr : Room k X.A) (hgd : X.A.guards = some [])
    (hb : Binds X.K fd ps ds) (hd : Vals dvs ds) (hx : PassesAt (L2.CX X.prog X.w) X σ (E σ)) (I : Inv X pins σ H s) (r : Vals vs us) (h : sp (vs ++ dvs) H Q (E σ)) : wpAny (model X.prog X.w) X.A (call (.ref f) us) (EP X pins σ Q) X.xe s := by
  have r2 : Vals (vs ++ dvs) (us ++ ds) := r.append hd
  refine wpAny_call (codeAny_mono (runG F hr hgd hx I (hb s us I.kIn (r2.length.symm.trans (F.arity _ _ _ _ h))) r2 h) fun r s' q => ?_)
  rcases r with e | (_ | _ | _ | u) <;> exact q
theorem pe_callG (F : FnG X.prog X.w X.K X.mg X.base k f fd ps sp) (hr : Room k X.A) (hgd : X.A.guards = some []) (hg : Gl X x) (hm : X.mg x = some (.ref f)) (hk : PySem.W.keepIn X.K (.ref f) = true) (hb : Binds X.K fd ps ds) (hd : Vals dvs ds)
    (hx : ∀ σ, PassesAt (L2.CX X.prog X.w) X σ (E σ)) (ha : PA X (e :: es) t) (hdb : (x == ("__debug__" : Str)) = false := by decide) (he : starEach (e :: es) X.env = (false, eval e X.env) :: starEach es X.env := by rfl)
    (hpl : (backTo pos (starEach es X.env)).any (·.1) = false := by rfl) : PE X (.Call (.Name x p) (e :: es) [] pos) (tCallG sp dvs E t) :=
  ⟨fun pins s σ H Q I h => wpAny_Call_Name_kw (ld_glob I hg hm (PySem.W.callWith_K (h₀ := X.base) I.ok.mod.kin hk (thn (ha.run pos pins s σ H _ I h) fun us s1 ⟨vs, H1, I1, r, q⟩ => ⟨I1.kIn, callG_at F hr hgd hb hd (hx σ) I1 r q⟩) he hpl) hdb)⟩
theorem pe_call0G (F : FnG X.prog X.w X.K X.mg X.base k f fd ps sp) (hr : Room k X.A) (hgd : X.A.guards = some []) (hg : Gl X x) (hm : X.mg x = some (.ref f)) (hk : PySem.W.keepIn X.K (.ref f) = true) (hb : Binds X.K fd ps ds) (hd : Vals dvs ds)
    (hx : ∀ σ, PassesAt (L2.CX X.prog X.w) X σ (E σ)) (hdb : (x == ("__debug__" : Str)) = false := by decide) : PE X (.Call (.Name x p) [] [] pos) (tCallG sp dvs E tNil) :=
  ⟨fun pins s σ H Q I h => wpAny_Call_Name_kw (ld_glob I hg hm (PySem.W.callWith_K0 I.kIn hk (callG_at (us := []) (vs := []) F hr hgd hb hd (hx σ) I .nil h)) hdb)⟩
variable {g : List Value → List Value → List Value} {gV : List V → List V → List V}
theorem callKG_at {pins : List (Addr × Obj)} {σ : St} {H : Hp} {s : Shared} {Q : VK} {us ws : List Value} {vs zs : List V} (F : FnG X.prog X.w X.K X.mg X.base k f fd ps sp) (hr : Room k X.A) (hgd : X.A.guards = some [])
    (hb : KBinds X.K fd ps ks g gV) (hx : PassesAt (L2.CX X.prog X.w) X σ (E σ)) (I : Inv X pins σ H s) (r : Vals vs us) (rz : Vals zs ws) (h : sp (gV vs zs) H Q (E σ)) :
    wpAny (model X.prog X.w) X.A (call (.ref f) us (ks.zip ws)) (EP X pins σ Q) X.xe s := by
  have r2 := hb.rel r rz
  refine wpAny_call (codeAny_mono (runG F hr hgd hx I (hb.to s us ws I.kIn (r2.length.symm.trans (F.arity _ _ _ _ h))) r2 h) fun r s' q => ?_)
  rcases r with e | (_ | _ | _ | u) <;> exact q
theorem pe_callKG (F : FnG X.prog X.w X.K X.mg X.base k f fd ps sp) (hr : Room k X.A) (hgd : X.A.guards = some []) (hg : Gl X x) (hm : X.mg x = some (.ref f)) (hk : PySem.W.keepIn X.K (.ref f) = true) (hb : KBinds X.K fd ps ks g gV)
    (hx : ∀ σ, PassesAt (L2.CX X.prog X.w) X σ (E σ)) (ha : PA X (e :: es) t) (hkw : PK X kws tk) (hall : (backToKw pos (keywordEach kws X.env)).all (·.1.isSome) = true := by rfl) (hks : (backToKw pos (keywordEach kws X.env)).filterMap (·.1) = ks := by rfl)
    (hdb : (x == ("__debug__" : Str)) = false := by decide) (he : starEach (e :: es) X.env = (false, eval e X.env) :: starEach es X.env := by rfl)
    (hpl : ((backTo pos (starEach (e :: es) X.env)).any (·.1) || (backToKw pos (keywordEach kws X.env)).any (·.1.isNone)) = false := by rfl) :
    PE X (.Call (.Name x p) (e :: es) kws pos) (tCallKG sp gV E t tk) := by
  refine ⟨fun pins s σ H Q I h => wpAny_Call_Name_kw (ld_glob I hg hm ?_ hdb)⟩
  refine PySem.W.callWith_KW (h₀ := X.base) I.ok.mod.kin hk hall (thn (ha.run pos pins s σ H _ I h) fun us s1 ⟨vs, H1, I1, r, q⟩ => ?_) hpl he
  refine thn (hkw.run pos pins s1 σ H1 _ I1 q) fun ws s2 ⟨zs, H2, I2, rz, q2⟩ => ⟨I2.kIn, ?_⟩
  rw [hks]
  exact callKG_at F hr hgd hb (hx σ) I2 r rz q2
theorem pe_callK0G (F : FnG X.prog X.w X.K X.mg X.base k f fd ps sp) (hr : Room k X.A) (hgd : X.A.guards = some []) (hg : Gl X x) (hm : X.mg x = some (.ref f)) (hk : PySem.W.keepIn X.K (.ref f) = true) (hb : KBinds X.K fd ps ks g gV)
    (hx : ∀ σ, PassesAt (L2.CX X.prog X.w) X σ (E σ)) (hkw : PK X kws tk) (hall : (backToKw pos (keywordEach kws X.env)).all (·.1.isSome) = true := by rfl) (hks : (backToKw pos (keywordEach kws X.env)).filterMap (·.1) = ks := by rfl)
    (hdb : (x == ("__debug__" : Str)) = false := by decide)
    (hpl : ((backTo pos (starEach [] X.env)).any (·.1) || (backToKw pos (keywordEach kws X.env)).any (·.1.isNone)) = false := by rfl) :
    PE X (.Call (.Name x p) [] kws pos) (tCallKG sp gV E tNil tk) := by
  refine ⟨fun pins s σ H Q I h => wpAny_Call_Name_kw (ld_glob I hg hm ?_ hdb)⟩
  refine PySem.W.callWith_KW0 (h₀ := X.base) I.ok.mod.kin hk hall (thn (hkw.run pos pins s σ H _ I h) fun ws s2 ⟨zs, H2, I2, rz, q2⟩ => ⟨I2.kIn, ?_⟩) hpl
  rw [hks]
  exact callKG_at (us := []) (vs := []) F hr hgd hb (hx σ) I2 .nil rz q2
/-- o.m(..) of an own instance -/
theorem methG_at {pins : List (Addr × Obj)} {σ : St} {H : Hp} {s : Shared} {Q : VK} {a : Addr} {us : List Value} {vs : List V} (F : FnG X.prog X.w X.K X.mg X.base k f fd ps sp) (hr : Room k X.A) (hgd : X.A.guards = some [])
    (hb : Binds X.K fd ps ds) (hd : Vals dvs ds) (hx : PassesAt (L2.CX X.prog X.w) X σ (E σ)) (I : Inv X pins σ H s) (r : Vals vs us) (h : sp (.ref a :: (vs ++ dvs)) H Q (E σ)) :
    wpAny (model X.prog X.w) X.A (call (.ref f) (Value.ref a :: us)) (EP X pins σ Q) X.xe s :=
  callG_at (us := .ref a :: us) (vs := .ref a :: vs) F hr hgd hb hd hx I (.cons rfl r) h
theorem pe_methG {pl : Sem Bool} (he : PE X o ta) (c : Cls X.K C) (hm : Meth X.K C m f) (F : FnG X.prog X.w X.K X.mg X.base k f fd ps sp) (hr : Room k X.A) (hgd : X.A.guards = some []) (hb : Binds X.K fd ps ds) (hd : Vals dvs ds)
    (hx : ∀ σ, PassesAt (L2.CX X.prog X.w) X σ (E σ)) (ha : PA X (e :: es) t)
    (hst : starEach (e :: es) X.env = (false, eval e X.env) :: starEach es X.env := by rfl) (hpl : (backTo pos (starEach es X.env)).any (·.1) = false := by rfl)
    (ht : eval (.Call (.Attribute o m apos) (e :: es) [] pos) X.env = (do
      let ov ← eval o X.env
      standAt apos.atName
      let (f, first) ← holding [ov] (getMethod ov m pl)
      callWith pos f first (backTo pos (starEach (e :: es) X.env)) (backToKw pos (keywordEach [] X.env))) := by rfl) :
    PE X (.Call (.Attribute o m apos) (e :: es) [] pos) (tMethG C m sp dvs E ta t) := by
  refine ⟨fun pins s σ H Q I h => PySem.W.methodCall_KW (pl := pl) (thn (he.run pins s σ H _ I h) fun u s1 ⟨x, H1, I1, rx, a, dx, fs, ex, ea, l, q⟩ => ?_) ht⟩
  subst ex
  obtain rfl : u = Value.ref a := rx
  refine getmeth_ok I1 ea c hm l ?_
  exact PySem.W.callWith_K (h₀ := X.base) (first := [.ref a]) I1.ok.mod.kin hm.kp (thn (ha.run pos pins _ σ H1 _ (I1.tok _) q) fun us s2 ⟨vs, H2, I2, r, q2⟩ => ⟨I2.kIn, methG_at F hr hgd hb hd (hx σ) I2 r q2⟩) hst hpl
end
/-- nothing is raised -/
theorem noX {X : Cx} : ∀ σ : St, PassesAt (L2.CX X.prog X.w) X σ E0 := fun σ pins H s e s' I c => passL pins σ H s e s' I c

/-! ### a body keeps the promise -/
section
variable {P : Program} {w : World} {K : PySem.W.Frag} {mg : Str → Option Value} {base : Heap}
theorem fnG_of {k : Nat} {f : Addr} {name qual : Str} {params : Arguments} {body : List Stmt} {scope : Scope} {dV kV doc pm cdv ct oc : Value} {an od : Option Addr} {osl : Array (Option Value)} {N ps : List Str} {sp : Sp}
    (lk : K.lookup f = some ⟨oc, od, .func (PySem.W.fnOf name qual params body scope dV kV doc pm an cdv ct), osl⟩) (hcd : PySem.W.codeIn K cdv qual = true) (S : FnScope N ps scope) (len : ∀ vs H Q E, sp vs H Q E → vs.length = ps.length)
    (hbody : ∀ (A : Around) (outer : List Env) (s : Shared) (H : Hp) (vs : List V) (Q : VK) (E : XK), Room k (A.deeper (envOfC qual scope s.heap.objs.size f cdv)) → A.guards = some [] → sp vs H Q E →
      ∃ t, PSs (cxOf (L2.CX P w) P w K mg base N qual scope f cdv A outer s H E) body t ∧ t { nx := fun _ H' => Q .non H', rt := Q } (start N vs) H) :
    FnG P w K mg base (k + 1) f (PySem.W.fnOf name qual params body scope dV kV doc pm an cdv ct) ps sp := by
  refine ⟨len, fun A outer s H args us vs Q E hr hgd e0 hb r hsp => ?_⟩
  have old : ∀ b o, base.get? b = some o → s.heap.get? b = some o := fun b o e => (e0.bs b o e).1
  have KX : K.In s.heap := e0.mod.kin.keeps old
  have kinds : ∀ y ∈ ps.zip us, scope.names.lookup y.1 = some .local ∨ (scope.names.lookup y.1 = some .cell ∧ ((cellsFrom (s.heap.objs.size + 1) scope.names []).lookup y.1).isSome = true) := by
    intro y hy
    have hp := S.par y.1 (List.of_mem_zip hy).1
    exact hp.imp id fun q => ⟨q, PySem.W.cellsFrom_some _ _ _ (.inl q)⟩
  refine codeAny_call_function hr.depth (KX _ _ lk) rfl S.co S.gen rfl (PySem.W.codeRec_of KX hcd) (hb _ _ _ _ (wpAny_newFunctionEnv_cells S.kind kinds fun env he s1 x => ?_))
  subst he
  refine ⟨(e0.mod.nolimit.keeps old).keeps x.toInCall.keep, codeAny_func ?_⟩
  obtain ⟨t, ht, hq⟩ := hbody A outer s H vs Q E (hr.deeper _) hgd hsp
  have I : Inv (cxOf (L2.CX P w) P w K mg base N qual scope f cdv A outer s H E) [] (start N vs) H s1 := inv_start S hr.hd e0 (len _ _ _ _ hsp) r x
  refine wpAny_mono (ht.run [] s1 (start N vs) H _ I hq) (fun fl s' hs => ?_) fun e s' hs => hs
  rcases fl with _ | _ | _ | u
  · obtain ⟨_, H', J, q⟩ := hs
    exact ⟨.non, H', J.os, J.bare, J.base, J.hok, rfl, q⟩
  · exact hs.choose_spec.choose_spec.2.elim
  · exact hs.choose_spec.choose_spec.2.elim
  · obtain ⟨v, _, H', J, rv, q⟩ := hs
    exact ⟨v, H', J.os, J.bare, J.base, J.hok, rv, q⟩
/-- a def that lets nothing out -/
theorem Fun.okG {x qual : Str} {st : Stmt} {f : Addr} {fd : FuncData} {N ps : List Str} {k : Nat} {sp : Sp} (F : Fun K x qual st f fd) (S : FnScope N ps (defScope st)) (len : ∀ vs H Q E, sp vs H Q E → vs.length = ps.length)
    (hbody : ∀ (cdv : Value) (A : Around) (outer : List Env) (s : Shared) (H : Hp) (vs : List V) (Q : VK) (E : XK), Room k (A.deeper (envOfC qual (defScope st) s.heap.objs.size f cdv)) → A.guards = some [] → sp vs H Q E →
      ∃ t, PSs (cxOf (L2.CX P w) P w K mg base N qual (defScope st) f cdv A outer s H E).nox (defBody st) t ∧ t { nx := fun _ H' => Q .non H', rt := Q } (start N vs) H) : FnG P w K mg base (k + 1) f fd ps sp := by
  obtain ⟨oc, od, kV, doc, pm, an, cdv, ct, osl, rfl, lk, hcd⟩ := F.ex
  refine fnG_of lk hcd S len fun A outer s H vs Q E hr hgd hsp => ?_
  obtain ⟨t, h, q⟩ := hbody cdv A outer s H vs Q E hr hgd hsp
  exact ⟨t, h.nox, q⟩
/-- a def that may raise -/
theorem Fun.okXG {x qual : Str} {st : Stmt} {f : Addr} {fd : FuncData} {N ps : List Str} {k : Nat} {sp : Sp} (F : Fun K x qual st f fd) (S : FnScope N ps (defScope st)) (len : ∀ vs H Q E, sp vs H Q E → vs.length = ps.length)
    (hbody : ∀ (cdv : Value) (A : Around) (outer : List Env) (s : Shared) (H : Hp) (vs : List V) (Q : VK) (E : XK), Room k (A.deeper (envOfC qual (defScope st) s.heap.objs.size f cdv)) → A.guards = some [] → sp vs H Q E →
      ∃ t, PSs (cxOf (L2.CX P w) P w K mg base N qual (defScope st) f cdv A outer s H E) (defBody st) t ∧ t { nx := fun _ H' => Q .non H', rt := Q } (start N vs) H) : FnG P w K mg base (k + 1) f fd ps sp := by
  obtain ⟨oc, od, kV, doc, pm, an, cdv, ct, osl, rfl, lk, hcd⟩ := F.ex
  exact fnG_of lk hcd S len fun A outer s H vs Q E hr hgd hsp => hbody cdv A outer s H vs Q E hr hgd hsp
end

/-! ### the end: the law called -/
theorem lawG_call {P : Program} {w : World} {K : PySem.W.Frag} {mg mb : Str → Option Value} {k : Nat} {fa a : Addr} {fd : FuncData} {x : Str} {sp : Sp} {s1 : Shared} {vs : List Value} {ns : List Int}
    (KX : K.In s1.heap) (hns : s1.heap.Ns mainGlobals mg) (hb : s1.heap.Ns builtinsNs mb) (hbb : ∀ x : Str, x ≠ "__name__" → mb x = bootBuiltins x) (hlim : s1.heap.NoLimit) (hg : s1.gens = #[])
    (ha : s1.heap.get? a = some { cls := .type "list", data := .seq vs.toArray }) (hi : IntsAre vs ns) (hl : ns.length ≤ sizeLine) (hr : Room k callerA)
    (F : ∀ base : Heap, K.In base → base.Ns mainGlobals mg → FnG P w K mg base k fa fd [x] sp) (hbind : ∀ (s : Shared) (u : Value), BindsTo s fd ⟨[u], []⟩ [(x, u)])
    (hsp : ∀ H : Hp, Only H → SqL K H a (ns.map V.int) → sp [.ref a] H (fun v _ => v = .bl true) fun _ _ _ => False) :
    codeAny (model P w) callerA (.call (.ref fa) ⟨[.ref a], []⟩) (fun r s' => r = .ok (.ret (.bool true)) ∧ OldK s1.heap s'.heap ∧ s'.os = s1.os ∧ AllBare s'.gens) s1 := by
  have zs : ns.length = vs.length := hi.length.symm
  have rel := vals_ints hi
  suffices from_ : ∀ H : Hp, Only H → SqL K H a (ns.map V.int) → HOk P w H s1.heap → (∀ b o, H b = some o → b = a ∧ K.lookup a = none) →
      codeAny (model P w) callerA (.call (.ref fa) ⟨[.ref a], []⟩) (fun r s' => r = .ok (.ret (.bool true)) ∧ OldK s1.heap s'.heap ∧ s'.os = s1.os ∧ AllBare s'.gens) s1 by
    cases hk : K.lookup a with
    | none =>
      have at_a : ∀ {b : Addr} {o : HO}, (if b = a then some (HO.frz { cls := .type "list", data := .seq vs.toArray } (.lst (ns.map V.int))) else none) = some o → b = a ∧ o = HO.frz { cls := .type "list", data := .seq vs.toArray } (.lst (ns.map V.int)) := fun {b o} e => by
        by_cases q : b = a
        · rw [if_pos q] at e
          exact ⟨q, (Option.some.inj e).symm⟩
        · rw [if_neg q] at e
          cases e
      refine from_ (fun b => if b = a then some (.frz { cls := .type "list", data := .seq vs.toArray } (.lst (ns.map V.int))) else none) (fun b => ?_) (.inl (.inr ⟨_, if_pos rfl⟩)) (fun b u e => ?_) fun b o e => ⟨(at_a e).1, hk⟩
      · rcases Decidable.em (b = a) with q | q
        · exact .inr ⟨_, _, if_pos q⟩
        · exact .inl (if_neg q)
      · obtain ⟨q1, q2⟩ := at_a e
        subst q1 q2
        exact ⟨ha, by rw [List.length_map]; exact hl, vs, _, rel, ha⟩
    | some o =>
      obtain rfl : o = { cls := .type "list", data := .seq vs.toArray } := Option.some.inj ((KX a o hk).symm.trans ha)
      exact from_ (fun _ => none) (fun _ => .inl rfl) (.inr ⟨_, vs.toArray, _, hk, rfl, rfl, rfl, by rw [List.size_toArray, ← zs]; exact hl, by simpa using rel⟩) (fun b u z => by cases (show (none : Option HO) = some u from z)) (fun b o z => by cases (show (none : Option HO) = some o from z))
  intro H hO hS hok hA
  have free : ∀ {b : Addr} {o : Obj}, s1.heap.get? b = some o → (∀ q, o ≠ { cls := .type "list", data := .seq q } ) → H b = none := fun {b o} e ne => by
    cases q : H b with
    | none => rfl
    | some u =>
      obtain rfl := (hA b u q).1
      exact absurd (Option.some.inj (e.symm.trans ha)) (ne _)
  have nsK : ∀ {b : Addr} {m : Str → Option Value}, s1.heap.Ns b m → (hidT s1.heap H).Ns b m := fun {b m} n => by
    obtain ⟨o, es, ep, e, d, r⟩ := n
    refine ⟨o, es, ep, hidT_get e (free e fun q z => ?_), d, r⟩
    rw [z] at d
    cases d
  have hKb : K.In (hidT s1.heap H) := fun b o e => hidT_get (KX b o e) (by
    cases q : H b with
    | none => rfl
    | some u =>
      obtain ⟨q1, q2⟩ := hA b u q
      subst q1
      rw [q2] at e
      cases e)
  have hM : Mod K mg (hidT s1.heap H) := ⟨hKb, nsK hns, ⟨mb, nsK hb, hbb⟩, let ⟨mc, h1, h2⟩ := hlim; ⟨mc, nsK h1, h2⟩⟩
  have e0 : Env0 P w K mg (hidT s1.heap H) callerA [] s1 H := ⟨rfl, hM, fun b o e => of_hidT e, Nat.le_of_eq (hidT_size _ _), trivial, (fun b hb => absurd (show b ∈ ([] : List Addr) from hb) (by simp)), hok, .of_eq hg⟩
  refine codeAny_mono ((F _ hKb (nsK hns)).runs callerA [] s1 H ⟨[.ref a], []⟩ [.ref a] [.ref a] _ _ hr rfl e0 (hbind s1 (.ref a)) (.cons rfl .nil) (hsp H hO hS)) fun r s' h => ?_
  rcases r with e | (_ | _ | _ | u)
  · obtain ⟨_, _, _, _, _, _, _, _, _, _, _, _, z⟩ := h
    exact z.elim
  · exact False.elim h
  · exact False.elim h
  · exact False.elim h
  · obtain ⟨v, H', os, bare, un, hok', r', q⟩ := h
    obtain rfl : v = .bl true := q
    obtain rfl : u = Value.bool true := r'
    refine ⟨rfl, OldK.of_keep fun b o e => ?_, os, bare⟩
    rcases hO b with z | ⟨ob, xs, z⟩
    · exact un.keep b o e z (fun m => absurd (show b ∈ ([] : List Addr) from m) (by simp)) (by simp)
    · have e1 := (hok b _ z).1
      have e2 := (hok' b _ (un.frzs b ob _ z)).1
      rw [e] at e1
      cases e1
      exact e2
theorem walkG_of {l : PySem.W.OpenLaw} {n k : Nat} {q : Program} {loose : List Str} {XP : (Str → Option Value) → Heap → Prop} {YP : World → Heap → Prop} {d : DefRec} {K : Params → PySem.W.Frag} {sp : PySem.W.Frag → Sp} {x : Str}
    (hn : l.most = some n) (hn2 : n ≤ sizeLine) (hdf : d.params.defaults = []) (hr : Room k callerA) (hY : ∀ (w : World) (h : Heap), YP w h → (K w.params).In h)
    (F : ∀ (w : World) (mg : Str → Option Value) (fa : Addr) (h : Heap), (K w.params).In h → h.Ns mainGlobals mg → mg d.name = some (.ref fa) →
      ∃ fd : FuncData, (∀ (s : Shared) (u : Value), BindsTo s fd ⟨[u], []⟩ [(x, u)]) ∧
        ∀ base : Heap, (K w.params).In base → base.Ns mainGlobals mg → FnG l.prog w (K w.params) mg base k fa fd [x] (sp (K w.params)))
    (hsp : ∀ (K : PySem.W.Frag) (H : Hp) (a : Addr) (ns : List Int), ns.length ≤ n → Only H → SqL K H a (ns.map V.int) → sp K [.ref a] H (fun v _ => v = .bl true) fun _ _ _ => False) :
    PySem.W.WalkO q loose XP YP l.row.toRowW d [] (fun f vs => PySem.call f vs) := by
  refine Att.attach_call hn hdf fun w s₀ s₁ mg mb fa o pm cd doc a vs ns G Y ho hd hcd hmg hobj hints hlen hg => ?_
  obtain ⟨fd, hb, hF⟩ := F w mg fa _ (hY w _ Y) G.T.g hmg
  exact lawG_call (hY w _ Y) G.T.g G.T.b G.T.builtins G.T.nolimit hg hobj hints (Nat.le_trans hlen hn2) hr hF hb fun H hO hS => hsp _ H a ns hlen hO hS
end L2
set_option Elab.async false
set_option linter.all false
set_option maxRecDepth 100000
set_option maxHeartbeats 4000000
/-! repr of data; enumerate of a text -/
namespace L2
open PySem PySem.Spec PyProof.Rows

/-- data without dicts, or an empty dict -/
def Rp (K : PySem.W.Frag) (H : Hp) (v : V) (d : PyData) : Prop := (Dp K H v d ∧ d.hasDict = false) ∨ ∃ a, v = .ref a ∧ H a = some (.dK []) ∧ d = .dict []
def rRepr (K : PySem.W.Frag) : List V → Hp → VK → Prop := fun xs H Q => ∃ v d, xs = [v] ∧ Rp K H v d ∧ d.showable = true ∧ d.depth ≤ 60 ∧ d.shown.length ≤ sizeLine ∧ Q (.str d.shown) H
section
variable {X : Cx}
theorem Rp.reads {pins : List (Addr × Obj)} {σ : St} {H : Hp} {s : Shared} {v : V} {u : Value} {d : PyData} (I : Inv X pins σ H s) (h : Rp X.K H v d) (r : RelV v u) : ∃ as, Reads s.heap u d as ∧ (d.hasDict = true → sysModules ∉ as) := by
  rcases h with ⟨h, hd⟩ | ⟨a, rfl, ha, rfl⟩
  · obtain ⟨as, q⟩ := Dp.reads I d v u h r
    exact ⟨as, q, fun z => by rw [hd] at z; cases z⟩
  · obtain rfl : u = Value.ref a := r
    obtain ⟨_, hs, vs, kv, m⟩ : ([] : List (Key × V)).length ≤ sizeLine ∧ (a == sysModules) = false ∧ ∃ vs, KV ([] : List (Key × V)) vs ∧ s.heap.DictOf (mixKind X.prog X.w) a vs := I.hok a _ ha
    cases kv
    obtain ⟨o, es, n, e1, e2, e3, e4⟩ := m
    have e5 : es.toList = [] := by
      have q := e4.2.1
      generalize es.toList = l at q
      cases q
      rfl
    refine ⟨[a], ?_, fun _ z => ?_⟩
    · have z := Reads.dict (h := s.heap) (kvs := []) (as := []) (bs := []) e1 e2.1 e3 (by rw [e5]; exact ReadsAll.nil) (by rw [e5]; exact ReadsAll.nil)
      simpa using z
    · rw [List.mem_singleton.mp z] at hs
      simp at hs
theorem call_reprD (hgd : X.A.guards = some []) (hu : X.A.units + 64 < cLine) : CallR X (.builtin "repr") (rRepr X.K) := by
  intro pins s σ H xs us Q I r h
  obtain ⟨v, d, rfl, hv, hs, hdp, hz, q⟩ := h
  obtain ⟨u, rfl, ru⟩ := vals1 r
  obtain ⟨as, rd, hsm⟩ := Rp.reads I hv ru
  cases rd with
  | none => exact PySem.P.repr_of_none ⟨.str _, H, I.tok _, ⟨_, rfl⟩, q⟩
  | bool b => exact PySem.P.repr_of_bool ⟨.str _, H, I.tok _, ⟨_, rfl⟩, q⟩
  | int i t => exact PySem.P.repr_of_int (by simpa [PyData.showable] using hs) ⟨.str _, H, I.tok _, ⟨_, rfl⟩, q⟩
  | str x t => exact PySem.P.repr_of_str ⟨.str _, H, I.tok _, ⟨_, rfl⟩, q⟩ (by simpa only [PyData.shown] using hz)
  | list h1 h2 h3 h4 =>
    exact repr_of_reads' (Reads.list h1 h2 h3 h4) hs hsm hgd (by omega) (fun _ _ e => e) (fun h' u tk hk => ⟨.str _, H, I.kept hk, ⟨_, rfl⟩, q⟩) hz
  | tuple h1 h2 h3 h4 =>
    exact repr_of_reads' (Reads.tuple h1 h2 h3 h4) hs hsm hgd (by omega) (fun _ _ e => e) (fun h' u tk hk => ⟨.str _, H, I.kept hk, ⟨_, rfl⟩, q⟩) hz
  | dict h1 h2 h3 h4 h5 =>
    exact repr_of_reads' (Reads.dict h1 h2 h3 h4 h5) hs hsm hgd (by omega) (fun _ _ e => e) (fun h' u tk hk => ⟨.str _, H, I.kept hk, ⟨_, rfl⟩, q⟩) hz
end

/-! ### enumerate of a text -/
/-- each sign in a new pair behind its place -/
def Ites (x : Str) : It := ⟨fun i _ => i < x.cps.size, fun i H v H' => ∃ T c, v = .ref T ∧ H T = none ∧ x.cps[i]? = some c ∧ H' = upd H T (.tup [.int (i : Nat), .str ⟨#[c]⟩]), fun i _ => i = x.cps.size⟩
theorem turn_enumS {P : Program} {w : World} {K : PySem.W.Frag} {elts : List Expr} {kk : Nat} {tpos : Pos} (x : Str) (t : Tok) (e it : Addr) (hne : e ≠ it) :
    Turn P w K (.Tuple elts kk tpos) (Ites x) [e, it] e (fun i h => (∃ old, IsEnum h e it ((i : Nat) : Int) old) ∧ h.IsStrIter it (strIterType x) x t i) where
  mem := List.mem_cons_self ..
  obj := fun i h st b hb => by
    obtain ⟨⟨old, he⟩, o, ho, _, hd⟩ := st
    rcases List.mem_cons.mp hb with rfl | hb
    · exact ⟨_, he, fun v q => nomatch q⟩
    · rw [List.mem_singleton.mp hb]
      exact ⟨o, ho, fun v q => by rw [hd] at q; cases q⟩
  keep := fun i h h' st k => by
    obtain ⟨⟨old, he⟩, o, ho, r⟩ := st
    exact ⟨⟨old, k e (by simp) _ he⟩, o, k it (by simp) o ho, r⟩
  item := by
    intro X hP hw hK hc i pins s σ H E I hfree st hgo
    subst hP hw hK
    obtain ⟨⟨old, he⟩, hit⟩ := st
    have hel : e < s.heap.objs.size := Heap.lt_size he
    have hil : it < s.heap.objs.size := by obtain ⟨_, q, _⟩ := hit; exact Heap.lt_size q
    refine wpAny_pyNext_enum_itemD (Draws.text (A := X.A.in1) (I.ok.hd hc) it x t) he hit hgo hne (by simpa using hne) fun u h' tk hu ho hit' hT hsz hk => ?_
    obtain ⟨c, t', hcx, rfl⟩ := hu
    refine ⟨_, rfl, wpAny_letOwnedTupleGo_enum (s := { s with heap := h', toks := tk + 1 }) ho fun h2 he' sb => ?_⟩
    have hT2 : h2.get? s.heap.objs.size = some { cls := .type "tuple", data := .seq #[.int i tk, .str ⟨#[c]⟩ t'] } := (sb.2 _ (Nat.ne_of_gt hel)).trans hT
    have new : ObjOk X.prog X.w (upd H s.heap.objs.size (.tup [.int (i : Nat), .str ⟨#[c]⟩])) h2 s.heap.objs.size (.tup [.int (i : Nat), .str ⟨#[c]⟩]) :=
      ⟨by show 2 ≤ sizeLine; decide, [.int i tk, .str ⟨#[c]⟩ t'], .cons ⟨_, rfl⟩ (.cons ⟨_, rfl⟩ .nil), ⟨_, hT2, rfl, _, rfl⟩⟩
    have I1 : Inv X pins σ (upd H s.heap.objs.size (.tup [.int (i : Nat), .str ⟨#[c]⟩])) { s with heap := h2, toks := tk + 1 } :=
      I.turnedNew (ch := [e, it]) (fun b ob hb q => by
        have n1 : b ≠ e := fun z => hb (by simp [z])
        have n2 : b ≠ it := fun z => hb (by simp [z])
        exact (sb.2 b n1).trans (hk b ob n1 n2 q)) hfree (Nat.le_refl _) new
    obtain ⟨oi, hoi, ri⟩ := hit'
    refine ⟨.ref s.heap.objs.size, _, I1, rfl, ⟨_, c, rfl, I.hok.fresh (Nat.le_refl _), hcx, rfl⟩, ⟨⟨.str ⟨#[c]⟩ t', ?_⟩, oi, (sb.2 it (Ne.symm hne)).trans hoi, ri⟩, fun b hb => ?_⟩
    · have e1 : ((i + 1 : Nat) : Int) = (i : Int) + 1 := by omega
      rw [e1]; exact he'
    · have hb' : b < s.heap.objs.size := by
        rcases List.mem_cons.mp hb with rfl | hb
        · exact hel
        · rw [List.mem_singleton.mp hb]; exact hil
      rw [upd_ne (Nat.ne_of_lt hb')]
      exact (hfree b hb).1
  done := by
    intro X hP hw hK hc i pins s σ H E I hfree st hst
    subst hP hw hK
    obtain ⟨⟨old, he⟩, hit⟩ := st
    obtain ⟨f0, f1, f2, f3, f4, f5⟩ := hfree it (by simp)
    obtain rfl : i = x.cps.size := hst
    exact wpAny_pyNext_enum_endD (Draws.text (A := X.A.in1) (I.ok.hd hc) it x t) he hit fun h' eb => ⟨rfl, I.turned (t' := s.toks) (fun b o hb q => eb b o hb q) f0 f1 f3 f4 f5⟩
  self := fun A i s Q E st h => by
    obtain ⟨⟨old, he⟩, _⟩ := st
    exact wpAny_pyIter_enum he h
def iEnumS (ta : TA) : TI := fun σ H R => ta σ H fun vs H1 => ∃ x, vs = [.str x] ∧ R (Ites x) H1
theorem pi_enumS {X : Cx} {e : Expr} {ta : TA} {p pos tpos : Pos} {elts : List Expr} {kk : Nat} (hg : Gl X "enumerate") (hm : X.mg "enumerate" = none) (ha : PA X [e] ta) (hs : starEach [e] X.env = [(false, eval e X.env)] := by rfl) :
    PI X (.Tuple elts kk tpos) (.Call (.Name "enumerate" p) [e] [] pos) (iEnumS ta) := by
  refine ⟨fun pins s σ H R I h => Call_ (ld_blt I hg hm boot_enumerate (PyProof.Rows.callWith_type1 (thn (ha.run pos pins s σ H _ I h) fun us s1 ⟨vs, H1, I1, r1, x, ex, q⟩ => ?_) hs rfl))⟩
  subst ex
  obtain ⟨u, rfl, t, rfl⟩ := vals1 r1
  refine call_enumerate_str fun h' he hit hsz hk => wpAny_pyIter_enum he ?_
  have I2 : Inv X pins σ H1 { s1 with heap := h' } := I1.kept (t' := s1.toks) hk
  refine ⟨s1.heap.objs.size + 1, [s1.heap.objs.size + 1, s1.heap.objs.size], _, _, H1, rfl, I2, turn_enumS x t (s1.heap.objs.size + 1) s1.heap.objs.size (Nat.succ_ne_self _), ⟨⟨.none, he⟩, hit⟩, fun b hb => ?_, q⟩
  have hle : s1.heap.objs.size ≤ b := by
    rcases List.mem_cons.mp hb with rfl | z
    · exact Nat.le_succ _
    · rw [List.mem_singleton.mp z]; exact Nat.le_refl _
  exact I1.fpOk hle (I1.hok.fresh hle)
theorem walk_enumS {z : Str} : Walk (Ites z) z.cps.size (fun _ => True) (fun i H v H' => ∃ T c, v = .ref T ∧ H T = none ∧ z.cps[i]? = some c ∧ H' = upd H T (.tup [.int (i : Nat), .str ⟨#[c]⟩])) :=
  ⟨fun _ _ hi _ => hi, fun _ _ => rfl, fun _ _ _ _ _ _ y => y⟩
end L2
set_option Elab.async false
set_option linter.all false
set_option maxRecDepth 100000
set_option maxHeartbeats 4000000
/-! isinstance of a caught own error that has a dict -/
namespace PySem
namespace Lw
open PySem.W PySem.Calls PyProof.Rows PySem.HandSPX PySem.Spec
section
variable {prog : Program} {w : World} {A : Around} {E : Value → Shared → Prop} {s : Shared} {K : Frag} {x D : Addr} {ox : Obj} {od : Option Obj}
theorem found_data {C : Addr} {name : Str} {a g : Value} (hc : (clsIn K C).isSome = true) (ha : findIn K (.ref C) name = some (some a)) (hg : specialIn K a "__get__" = some (some g)) (ht : takesIn K a = some true) :
    findObj K C od name = some (Builtin.ObjectAttr.Found.bind g a) := by
  obtain ⟨cd, hc⟩ := Option.isSome_iff_exists.mp hc
  unfold findObj
  rw [hc, Option.bind_some, ha, Option.bind_some]
  simp [hg, ht]
theorem cls_of_exc {Q : Option Value → Shared → Prop} (C : L2.ExcC K D) (X : K.In s.heap) (I : InstAt s.heap x ox D od) (h : Q (some (.ref D)) { s with toks := s.toks + 1 }) : wpAny (model prog w) A (getAttr? (.ref x) "__class__") Q E s := by
  obtain ⟨hga, hgt, hsub, hdct, ha, hn, htk, hm⟩ := C
  have hf : findObj K D od "__class__" = some (.bind (.builtin "getset_descriptor.__get__") (.builtin "object.__class__")) := found_data (by obtain ⟨cd, hc, _⟩ := any_some hdct; rw [hc]; rfl) ha hn htk
  obtain ⟨hp, g, d, t, os⟩ := s
  have T0 := I.type (M := model prog w)
  have isB : Looks (model prog w) hp (isInstance (.ref x) (.type "BaseException")) true := T0.andThen (looks_subIn X hsub)
  have notO : (Value.builtin "BaseException.__getattribute__" == Value.builtin "object.__getattribute__") = false := by decide +kernel
  unfold getAttr? getAttrBy? getAttrBy
  refine wpAny_bind (wpAny_mkText (wpAny_bind (wpAny_attempt (wpAny_holding (wpAny_bind (T0.at (wpAny_bind ((looks_findIn X hga).at ?_))))))))
  show wpAny _ _ (if (onTheHeap (Value.ref D) && Value.builtin "BaseException.__getattribute__" == Value.builtin "object.__getattribute__") = true then _ else _) _ _ _
  rw [notO, Bool.and_false, if_neg Bool.false_ne_true]
  unfold getAttrByItsOwn hookBefore
  refine wpAny_bind ?_
  rw [if_pos (show onTheHeap (Value.ref D) = true from rfl)]
  refine (looks_findIn X hgt).at (wpAny_bind (wpAny_attempt (wpAny_holding ?_)))
  unfold callGetattribute
  rw [show (false && onTheHeap (Value.builtin "BaseException.__getattribute__")) = false from rfl, if_neg Bool.false_ne_true]
  unfold boundAndCalled
  rw [PySem.F.excAttr_ValueError.ga.bind (.ref x)]
  refine wpAny_bind (wpAny_pure ?_)
  show wpAny _ _ (call (.builtin "BaseException.__getattribute__") [.ref x, .str "__class__" t]) _ _ _
  refine wpAny_call (codeAny_call_builtin PySem.F.excAttr_ValueError.ga.plain PySem.F.entry_bexc_ga (@check_slot (model prog w) _ _ ⟨hp, g, d, t + 1, os⟩ "BaseException.__getattribute__" "BaseException" "__getattribute__" (.ref x) [.str "__class__" t] [] _ (by decide +kernel) (by decide +kernel) isB (PySem.F.args_bexc_ga (.ref x) (.str "__class__" t)) ?_))
  unfold Builtin.«object.__getattribute__»
  refine wpAny_bind (wpAny_of_eq (a := ((Value.ref x : Value), [Value.str "__class__" t])) (by first | rfl | (simp only [slotArgs]; rfl)) (wpAny_bind (wpAny_pure (wpAny_bind (T0.at (wpAny_bind ((looks_find X I hf).at ?_)))))))
  show wpAny _ _ (holding [Value.builtin "object.__class__"] (call (.builtin "getset_descriptor.__get__") [.builtin "object.__class__", .ref x, .ref D]) >>= ret) _ _ _
  refine wpAny_bind (wpAny_holding (wpAny_call (class_get (s := ⟨hp, g, d, t + 1, os⟩) (ox := ox) (od := od) X I hm (wpAny_pure ?_))))
  show wpAny _ _ (handedOut (.ref D)) _ _ _
  rw [handedOut_of (v := .ref D) rfl]
  first
    | exact wpAny_pure (wpAny_pure h)
    | exact wpAny_pure h
    | exact wpAny_pure (wpAny_bind (wpAny_pure (wpAny_pure h)))
theorem kit_exc (C : L2.ExcC K D) : KitX K (.ref x) (.ref D) (fun h => InstAt h x ox D od) where
  ty := fun _ _ _ I => I.type
  it := fun M h X I => by
    obtain ⟨cd, hc, _⟩ := any_some C.hd
    unfold clsIn at hc
    split at hc
    · rename_i c' d' cd' sl' ho
      intro A' Q' E' s' k q
      unfold isType loadHead
      exact wpAny_bind (wpAny_loadPart (k _ _ (X _ _ ho)) (wpAny_pure q))
    · cases hc
  ne := (handS_kitx_exc (x := x) (ox := ox) C.hg C.hk C.hs C.hd C.ha C.hn C.ht C.hm).ne
  ca := fun X I k => cls_of_exc C X I k
end
end Lw
end PySem
namespace L2
open PySem PySem.Spec PyProof.Rows
theorem call_isED {X : Cx} {a D : Addr} {oe : Obj} {cls : Value} {dd : Option Addr} {pn : List (Addr × Obj)} (C : ExcC X.K D) (hz : Zc cls dd oe) (hf : ∃ vs, oe.data = .fields vs) :
    CallR (X.suite a ((a, oe) :: pn)) (.builtin "isinstance") (fun xs H Q => cls = .ref D ∧ (∃ d fs, dd = some d ∧ H d = some (.xd fs)) ∧ rIsE X.K D a xs H Q) := by
  intro pins s σ H xs us Q I r h
  obtain ⟨rfl, ⟨d, fs, rfl, hd⟩, c, cv, b, rfl, hcv, e, q⟩ := h
  cases r with
  | cons rx rr =>
    cases rr with
    | cons rt rr =>
      cases rr
      cases rx
      obtain rfl := hcv _ rt
      obtain ⟨hget, _⟩ := I.pin (a, oe) (List.mem_append.mpr (.inl List.mem_cons_self))
      obtain ⟨vs, hv⟩ := hf
      obtain ⟨mA, ⟨o, es, ep, ho, _⟩, _⟩ := (show ObjOk X.prog X.w H s.heap d (.xd fs) from I.hok d _ hd)
      have J : PySem.W.InstAt s.heap a oe D (some o) := by
        obtain ⟨oc, od, oda, osl⟩ := oe
        obtain ⟨h1, h2⟩ := hz
        dsimp only at h1 h2 hv
        subst h1 h2 hv
        exact ⟨hget, rfl, rfl, ho⟩
      exact PySem.W.kia_one (PySem.Lw.kit_exc C) I.kIn J e (fun z => nomatch z) fun tk => ⟨.bl b, H, I.kept (t' := tk) fun _ _ z => z, rfl, q⟩
end L2
set_option Elab.async false
set_option linter.all false
set_option maxRecDepth 100000
set_option maxHeartbeats 4000000
/-! list.count of flat items; isinstance of what is no text; text times a number -/
namespace L2
open PySem PySem.Spec PyProof.Rows
def rCountV (K : PySem.W.Frag) : V → List V → Hp → VK → Prop := fun x vs H Q => ∃ (p : Addr) (xs : List V) (y : V), x = .ref p ∧ vs = [y] ∧ SqL K H p xs ∧ flatV y = true ∧ xs.all flatV = true ∧ Q (.int (xs.countP (fun z => eqV z y) : Nat)) H
theorem countP_eqU {x : V} : ∀ {xs : List V} {us : List Value}, Vals xs us → xs.all flatV = true → us.countP (eqU x) = xs.countP fun y => eqV y x
  | _, _, .nil, _ => rfl
  | y :: xs, u :: us, .cons r t, f => by
    rw [List.all_cons, Bool.and_eq_true] at f
    rw [List.countP_cons, List.countP_cons, eqU_of r f.1, countP_eqU t f.2]
theorem mt_countV {X : Cx} : MtR X "list.count" (rCountV X.K) := by
  intro pins s σ H x vs v us Q I rx rv h
  obtain ⟨p, xs, y, rfl, rfl, hs, fy, fs, q⟩ := h
  obtain rfl : v = Value.ref p := rx
  obtain ⟨u, rfl, ru⟩ := vals1 rv
  obtain ⟨its, r, ⟨⟨cls, dd, data, sl⟩, n, ho, hc, hdn, hd⟩, hlen⟩ := I.list hs
  simp only at hc hd
  subst hc hd
  refine call_meets PySem.F.slot_list_count ⟨_, ho, rfl⟩ PySem.F.entry_list_count (PySem.F.args_list_count_2 _ _)
    (SeqAt.list_countAt p its.toArray n dd sl u (eqU y)) ⟨ho, fun z hz => mem_eqAt ru fy r fs z (by simpa using hz), ?_⟩
  refine ⟨.int (xs.countP (fun z => eqV z y) : Nat), H, I.tok _, ⟨s.toks, ?_⟩, q⟩
  show Value.int ((its.toArray.toList.countP (eqU y) : Nat) : Int) s.toks = _
  rw [show its.toArray.toList = its by simp, countP_eqU r fs]
/-- a value of a type that is not str -/
def NotStr (K : PySem.W.Frag) (H : Hp) (v : V) : Prop := ∃ t, TyX K H v t ∧ PySem.W.kitOne K t (.type "str") = some false
theorem isi_str {K : PySem.W.Frag} {H : Hp} {v : V} {x : Str} {Q : VK} (h : v = .str x) (q : Q (.bl true) H) : rIsi K [v, .ty "str"] H Q :=
  ⟨v, .ty "str", .type "str", .type "str", true, rfl, .ty _, by rw [h]; exact .base (.str x), kit_ty (by decide +kernel), q⟩
theorem isi_notStr {K : PySem.W.Frag} {H : Hp} {v : V} {Q : VK} (h : NotStr K H v) (q : Q (.bl false) H) : rIsi K [v, .ty "str"] H Q := by
  obtain ⟨t, h1, h2⟩ := h
  exact ⟨v, .ty "str", t, .type "str", false, rfl, .ty _, h1, h2, q⟩
theorem NotStr.non {K : PySem.W.Frag} {H : Hp} : NotStr K H .non := ⟨_, .base .non, kit_ty (by decide +kernel)⟩
theorem NotStr.bl {K : PySem.W.Frag} {H : Hp} {b : Bool} : NotStr K H (.bl b) := ⟨_, .base (.bl b), kit_ty (by decide +kernel)⟩
theorem NotStr.int {K : PySem.W.Frag} {H : Hp} {i : Int} : NotStr K H (.int i) := ⟨_, .base (.int i), kit_ty (by decide +kernel)⟩
theorem NotStr.lst {K : PySem.W.Frag} {H : Hp} {a : Addr} {xs : List V} (h : H a = some (.lst xs)) : NotStr K H (.ref a) := ⟨_, .base (.lst h), kit_ty (by decide +kernel)⟩
theorem NotStr.tup {K : PySem.W.Frag} {H : Hp} {a : Addr} {xs : List V} (h : H a = some (.tup xs)) : NotStr K H (.ref a) := ⟨_, .base (.tup h), kit_ty (by decide +kernel)⟩
theorem NotStr.dK {K : PySem.W.Frag} {H : Hp} {a : Addr} {kvs : List (Key × V)} (h : H a = some (.dK kvs)) : NotStr K H (.ref a) := ⟨_, .base (.dK h), kit_ty (by decide +kernel)⟩
end L2
set_option Elab.async false
set_option linter.all false
set_option maxRecDepth 100000
set_option maxHeartbeats 4000000
/-! own classes: len, str, ==, != of an instance by the class's own methods -/
namespace PySem
namespace Lw
open PySem.W PySem.Calls PyProof.Rows PySem.HandSPX PySem.Spec
section
variable {prog : Program} {w : World} {A : Around} {E : Value → Shared → Prop} {s : Shared} {K : Frag} {x C f : Addr} {ox : Obj} {od : Option Obj} {b tb : Value}
theorem ne_entry {Q : Fin → Shared → Prop} (hu : A.units < cLine) (X : K.In s.heap) (I : InstAt s.heap x ox C od) (he : findIn K (.ref C) "__eq__" = some (some (.ref f))) (hf : isFn K (.ref f) = true)
    (h : wpAny (model prog w) A (call (.ref f) [.ref x, b]) (fun v s' => ∃ c, v = .bool c ∧ Q (.done (.ret (.bool (!c)))) s') E s) :
    wpAny (model prog w) A (Builtin.«object.__ne__» ⟨[.ref x, b], []⟩) Q E s := by
  unfold Builtin.«object.__ne__»
  repeat (first
    | with_reducible refine wpAny_cRoomFor hu ?_
    | (refine wpAny_bind (m := callSpecialIfBound? (.ref x) "__eq__" [b])
        (ifBound_K X I he hf (wpAny_mono h (fun r s' hr => by
          obtain ⟨c, rfl, hq⟩ := hr
          repeat (first | exact hq | exact wpAny_pure hq | exact wpAny_truthy_bool hq | (refine wpAny_bind (m := truthy (.bool _)) (wpAny_truthy_bool ?_)) | wp_step)) fun _ _ e => e)))
    | wp_step)
theorem ne_K {Q : Value → Shared → Prop} (hu : A.units + 1 < cLine) (X : K.In s.heap) (I : InstAt s.heap x ox C od) (hb : Looks (model prog w) s.heap (typeOf b) tb) (hn : notFirst K C tb = true)
    (hs : findIn K (.ref C) "__ne__" = some (some (.builtin "object.__ne__"))) (he : findIn K (.ref C) "__eq__" = some (some (.ref f))) (hf : isFn K (.ref f) = true) (ho : subIn K (.ref C) (.type "object") = some true)
    (h : wpAny (model prog w) A.in1 (call (.ref f) [.ref x, b]) (fun v s' => ∃ c, v = .bool c ∧ Q (.bool (!c)) s') E s) : wpAny (model prog w) A (richCompare .NotEq (.ref x) b) Q E s := by
  have one : wpAny (model prog w) A (tryCompare (.ref x) "__ne__" b) (fun r s' => ∃ v, r = some v ∧ Q v s') E s := by
    unfold tryCompare
    refine wpAny_bind ?_
    simp only [callSpecialIfBound?, bindSpecialIfBound?]
    refine wpAny_holding (wpAny_bind (wpAny_bind (wpAny_bind (I.type.here ((looks_findIn X hs).here ?_)))))
    simp only [F.cmp_object.ne.bind]
    refine wpAny_bind (wpAny_askSetting (wpAny_ite ?_))
    have isO : Looks (model prog w) s.heap (isInstance (.ref x) (.type "object")) true := I.type.andThen (looks_subIn X ho)
    have core : wpAny (model prog w) A (call (.builtin "object.__ne__") [.ref x, b]) (fun v s' => ∃ c, v = .bool c ∧ Q v s') E s := by
      refine wpAny_call (codeAny_call_builtin F.cmp_object.ne.plain F.cmpEntry_ne (@check_slot (model prog w) _ _ s "object.__ne__" "object" "__ne__" (.ref x) [b] [] _ (by decide +kernel) (by decide +kernel) isO (F.cmpArgs_ne _ _) ?_))
      refine ne_entry (A := A.in1) ?_ X I he hf (wpAny_mono h (fun v s' hv => ?_) fun _ _ e => e)
      · exact hu
      · obtain ⟨c, rfl, hq⟩ := hv
        exact ⟨c, rfl, ⟨!c, rfl, hq⟩⟩
    have fin : wpAny (model prog w) A (call (.builtin "object.__ne__") ([.ref x] ++ [b]) >>= fun v => pure (some v)) (fun v s' => ∃ c, v = some (.bool c) ∧ Q (.bool c) s') E s :=
      wpAny_bind (wpAny_mono core (fun v s' h' => by obtain ⟨c, rfl, hq⟩ := h'; exact wpAny_pure ⟨c, rfl, hq⟩) fun _ _ h' => h')
    split
    · refine wpAny_bind (wpAny_pure (wpAny_pure (wpAny_mono fin (fun v s' h' => ?_) fun _ _ e => e)))
      obtain ⟨c, rfl, hq⟩ := h'
      exact wpAny_pure ⟨_, rfl, hq⟩
    · refine wpAny_tryCatch (wpAny_bind (wpAny_pure (wpAny_pure (wpAny_mono fin (fun v s' h' => ?_) fun _ _ e => e))))
      obtain ⟨c, rfl, hq⟩ := h'
      exact wpAny_pure ⟨_, rfl, hq⟩
  unfold richCompare
  simp only [oneThing_ref]
  refine wpAny_holding (wpAny_bind (wpAny_cRoomFor (Nat.lt_of_succ_lt hu) ?_))
  rw [cmpInfo_NotEq]
  dsimp only
  refine wpAny_bind (I.type.here (wpAny_bind (hb.here ?_)))
  split
  · rename_i q
    have e : subIn K tb (.ref C) = some false := by
      rcases Bool.or_eq_true_iff.mp hn with e | e
      · rw [beq_iff_eq.mp e] at q; simp at q
      · exact beq_iff_eq.mp e
    refine wpAny_bind ((looks_subIn X e).here ?_)
    simp only [Bool.false_eq_true, if_false]
    refine wpAny_bind (wpAny_mono one (fun r s' z => ?_) fun _ _ e => e)
    obtain ⟨v, rfl, hq⟩ := z
    exact wpAny_pure hq
  · refine wpAny_bind (wpAny_pure ?_)
    simp only [Bool.false_eq_true, if_false]
    refine wpAny_bind (wpAny_mono one (fun r s' z => ?_) fun _ _ e => e)
    obtain ⟨v, rfl, hq⟩ := z
    exact wpAny_pure hq
end
end Lw
end PySem
namespace L2
open PySem PySem.Spec PyProof.Rows
section
variable {X : Cx} {n : Nat} {C f : Addr} {fd : FuncData} {ps : List Str} {sp : Sp}
theorem own_runG {pins : List (Addr × Obj)} {σ : St} {H : Hp} {s : Shared} {Q : VK} {A : Around} {us : List Value} {vs : List V} (F : FnG X.prog X.w X.K X.mg X.base n f fd ps sp) (hb : Binds X.K fd ps []) (sb : Sub X n A) (hgd : A.guards = some [])
    (I : Inv X pins σ H s) (r : Vals vs us) (h : sp vs H Q E0) : wpAny (model X.prog X.w) A (call (.ref f) us) (EP X pins σ Q) X.xe s := by
  have e0 : Env0 X.prog X.w X.K X.mg X.base A X.stack s H := by
    have e := I.env0
    exact ⟨by rw [sb.fr]; exact e.frames, e.mod, e.bs, e.bsz, e.funs, e.frf, e.hok, e.bare⟩
  have hl := F.arity _ _ _ _ h
  refine wpAny_call (codeAny_mono (F.runs A X.stack s H ⟨us, []⟩ us vs _ E0 sb.room hgd e0 (by
    have := hb s us I.kIn (by rw [List.append_nil, ← r.length]; exact hl)
    simpa using this) r h) fun r s' hq => ?_)
  cases r with
  | error e =>
    obtain ⟨_, _, _, _, _, _, _, _, _, _, _, _, z⟩ := hq
    exact z.elim
  | ok fl =>
    cases fl with
    | ret w => exact I.after hq
    | next => exact False.elim hq
    | brk => exact False.elim hq
    | cont => exact False.elim hq
/-- len(x) by the class's own __len__ -/
theorem call_lenOwn (F : FnG X.prog X.w X.K X.mg X.base n f fd ps sp) (hr : Room (n + 1) X.A) (hgd : X.A.guards = some []) (hb : Binds X.K fd ps []) (hs : PySem.W.findIn X.K (.ref C) "__len__" = some (some (.ref f))) (hf : PySem.W.isFn X.K (.ref f) = true) :
    CallR X (.builtin "len") (fun xs H Q => ∃ y dx fs, xs = [.ref y] ∧ H y = some (.ins C dx fs) ∧ sp [.ref y] H (fun v H' => ∃ k : Nat, v = .int k ∧ k < 4611686018427387904 ∧ Q (.int k) H') E0) := by
  intro pins s σ H xs us Q I r h
  obtain ⟨y, dx, fs, rfl, hy, h⟩ := h
  obtain ⟨u, rfl, ru⟩ := vals1 r
  cases ru
  obtain ⟨m, J, _⟩ := ins_get I.hok hy
  obtain ⟨od, J, _⟩ := J.look
  obtain ⟨mf, hF⟩ := I.fr
  refine PySem.W.len_K hF I.ok.mod.kin J hs hf ?_
  refine wpAny_mono (own_runG (vs := [.ref y]) F hb ⟨hr.in1, rfl⟩ hgd I (.cons rfl .nil) h) (fun v s' q => ?_) fun _ _ e => e
  obtain ⟨z, H', I', rz, k, ez, hk, q⟩ := q
  subst ez
  obtain ⟨t, rfl⟩ := rz
  exact ⟨⟨by omega, by omega⟩, ⟨.int k, H', I'.tok _, ⟨_, rfl⟩, q⟩⟩
/-- str(x) by the class's own __str__ -/
theorem call_strOwn (F : FnG X.prog X.w X.K X.mg X.base n f fd ps sp) (hr : Room (n + 2) X.A) (hgd : X.A.guards = some []) (hb : Binds X.K fd ps []) (hs : PySem.W.findIn X.K (.ref C) "__str__" = some (some (.ref f))) (hf : PySem.W.isFn X.K (.ref f) = true) :
    CallR X (.type "str") (fun xs H Q => ∃ y dx fs, xs = [.ref y] ∧ H y = some (.ins C dx fs) ∧ sp [.ref y] H (fun v H' => ∃ x, v = .str x ∧ Q (.str x) H') E0) := by
  intro pins s σ H xs us Q I r h
  obtain ⟨y, dx, fs, rfl, hy, h⟩ := h
  obtain ⟨u, rfl, ru⟩ := vals1 r
  cases ru
  obtain ⟨m, J, _⟩ := ins_get I.hok hy
  obtain ⟨od, J, _⟩ := J.look
  refine PySem.W.kso_call hr.in1.in1.units0 I.kIn J hs hf ?_
  refine wpAny_mono (own_runG (vs := [.ref y]) F hb ⟨hr.in1.in1, rfl⟩ hgd I (.cons rfl .nil) h) (fun v s' q => ?_) fun _ _ e => e
  obtain ⟨z, H', I', rz, x, ez, q⟩ := q
  subst ez
  obtain ⟨t, rfl⟩ := rz
  exact ⟨.str x, H', I', ⟨_, rfl⟩, q⟩
/-- what an own == or != asks: an instance on the left, any value of a known type on the right -/
def rOwnCmp (K : PySem.W.Frag) (C : Addr) (sp : Sp) (g : Bool → Bool) : R2 := fun x y H Q => ∃ a dx fs ty, x = .ref a ∧ H a = some (.ins C dx fs) ∧ TyX K H y ty ∧ PySem.W.notFirst K C ty = true ∧ sp [x, y] H (fun v H' => ∃ b, v = .bl b ∧ Q (.bl (g b)) H') E0
theorem op_eqOwn (F : FnG X.prog X.w X.K X.mg X.base n f fd ps sp) (hr : Room n X.A) (hgd : X.A.guards = some []) (hb : Binds X.K fd ps []) (hs : PySem.W.findIn X.K (.ref C) "__eq__" = some (some (.ref f))) (hf : PySem.W.isFn X.K (.ref f) = true) :
    OpR X (compareOp .Eq) (rOwnCmp X.K C sp fun b => b) := by
  intro pins s σ H x y v u Q I rx ry h
  obtain ⟨a, dx, fs, ty, rfl, ha, hty, hnf, h⟩ := h
  cases rx
  obtain ⟨m, J, _⟩ := ins_get I.hok ha
  obtain ⟨od, J, _⟩ := J.look
  obtain ⟨mf, hF⟩ := I.fr
  obtain ⟨P, kx, hP, _⟩ := kit_of I ry hty
  show wpAny (model X.prog X.w) X.A (richCompare .Eq (.ref a) u) (EP X pins σ Q) X.xe s
  refine PySem.W.cmp_K (op := .Eq) hr.units0 hF I.ok.mod.kin J (kx.ty _ _ I.kIn hP) hnf hs hf ?_
  refine wpAny_mono (own_runG (vs := [.ref a, y]) F hb ⟨hr, rfl⟩ hgd I (.cons rfl (.cons ry .nil)) h) (fun v s' q => ?_) fun _ _ e => e
  obtain ⟨z, H', I', rz, b, ez, q⟩ := q
  subst ez
  cases rz
  exact ⟨.bl b, H', I', rfl, q⟩
theorem op_neOwn (F : FnG X.prog X.w X.K X.mg X.base n f fd ps sp) (hr : Room (n + 1) X.A) (hgd : X.A.guards = some []) (hb : Binds X.K fd ps []) (hn : PySem.W.findIn X.K (.ref C) "__ne__" = some (some (.builtin "object.__ne__"))) (hs : PySem.W.findIn X.K (.ref C) "__eq__" = some (some (.ref f))) (hf : PySem.W.isFn X.K (.ref f) = true)
    (ho : PySem.W.subIn X.K (.ref C) (.type "object") = some true) : OpR X (compareOp .NotEq) (rOwnCmp X.K C sp fun b => !b) := by
  intro pins s σ H x y v u Q I rx ry h
  obtain ⟨a, dx, fs, ty, rfl, ha, hty, hnf, h⟩ := h
  cases rx
  obtain ⟨m, J, _⟩ := ins_get I.hok ha
  obtain ⟨od, J, _⟩ := J.look
  obtain ⟨P, kx, hP, _⟩ := kit_of I ry hty
  show wpAny (model X.prog X.w) X.A (richCompare .NotEq (.ref a) u) (EP X pins σ Q) X.xe s
  refine PySem.Lw.ne_K (Nat.lt_of_le_of_lt (by omega) hr.units) I.kIn J (kx.ty _ _ I.kIn hP) hnf hn hs hf ho ?_
  refine wpAny_mono (own_runG (vs := [.ref a, y]) F hb ⟨hr.in1, rfl⟩ hgd I (.cons rfl (.cons ry .nil)) h) (fun v s' q => ?_) fun _ _ e => e
  obtain ⟨z, H', I', rz, b, ez, q⟩ := q
  subst ez
  cases rz
  exact ⟨b, rfl, ⟨.bl (!b), H', I', rfl, q⟩⟩
end
end L2
set_option Elab.async false
set_option linter.all false
set_option maxRecDepth 100000
set_option maxHeartbeats 4000000
/-! data stays data; how long a repr is -/
namespace L2
open PySem PySem.Spec PyProof.Rows
theorem Same.seqT {K : PySem.W.Frag} {H H' : Hp} {a : Addr} {xs : List V} (e : Same H H') (h : SqT K H a xs) : SqT K H' a xs := by
  rcases h with (h | ⟨o, h⟩) | h
  · exact .inl (.inl (e _ _ h))
  · exact .inl (.inr ⟨o, e _ _ h⟩)
  · exact .inr h
mutual
theorem Dp.same {K : PySem.W.Frag} {H H' : Hp} (e : Same H H') : ∀ {v : V} {d : PyData}, Dp K H v d → Dp K H' v d
  | _, _, .non => .non
  | _, _, .bl b => .bl b
  | _, _, .int i => .int i
  | _, _, .str x => .str x
  | _, _, .lst h r => .lst (e.seq h) (DpAll.same e r)
  | _, _, .tup h r => .tup (e.seqT h) (DpAll.same e r)
theorem DpAll.same {K : PySem.W.Frag} {H H' : Hp} (e : Same H H') : ∀ {vs : List V} {ds : List PyData}, DpAll K H vs ds → DpAll K H' vs ds
  | _, _, .nil => .nil
  | _, _, .cons h r => .cons (Dp.same e h) (DpAll.same e r)
end
theorem Rp.same {K : PySem.W.Frag} {H H' : Hp} (e : Same H H') {v : V} {d : PyData} (h : Rp K H v d) : Rp K H' v d := by
  rcases h with ⟨h, z⟩ | ⟨a, h1, h2, h3⟩
  · exact .inl ⟨h.same e, z⟩
  · exact .inr ⟨a, h1, e _ _ h2, h3⟩
theorem listText_len (ts : List Str) : (PySem.listText ts).length ≤ piled ts + 2 := by
  cases ts with
  | nil => decide
  | cons t ts =>
    have e : PySem.listText (t :: ts) = textFrom 1 ("[" ++ "" ++ t) ts ++ "]" := rfl
    rw [e, Str.length_append, textFrom_length_pos _ _ _ (by decide), piled_cons, Str.length_append, Str.length_append]
    have e1 : (Str.ofString "[").length = 1 := rfl
    have e2 : (Str.ofString "").length = 0 := rfl
    have e3 : (Str.ofString "]").length = 1 := rfl
    show _ + _ + _ + _ + (Str.ofString "]").length ≤ _
    omega
theorem TyOf.same {K : PySem.W.Frag} {H H' : Hp} (e : Same H H') {v : V} {t : Value} (h : TyOf K H v t) : TyOf K H' v t := by
  cases h with
  | non => exact .non
  | bl x => exact .bl x
  | int x => exact .int x
  | str x => exact .str x
  | flt x => exact .flt x
  | lst h => exact .lst (e _ _ h)
  | frz h => exact .frz (e _ _ h)
  | tup h => exact .tup (e _ _ h)
  | dK h => exact .dK (e _ _ h)
  | dT h => exact .dT (e _ _ h)
  | ins h cl a b c d => exact .ins (e _ _ h) cl a b c d
theorem TyX.same {K : PySem.W.Frag} {H H' : Hp} (e : Same H H') {v : V} {t : Value} (h : TyX K H v t) : TyX K H' v t := by
  cases h with
  | base h => exact .base (TyOf.same e h)
  | byt b => exact .byt b
  | set h => exact .set (e _ _ h)
  | kList h c => exact .kList h c
  | kTuple h c => exact .kTuple h c
  | kDict h c => exact .kDict h c
  | fTuple h => exact .fTuple (e _ _ h)
  | fDict h => exact .fDict (e _ _ h)
theorem NotStr.same {K : PySem.W.Frag} {H H' : Hp} (e : Same H H') {v : V} (h : NotStr K H v) : NotStr K H' v := by
  obtain ⟨t, h1, h2⟩ := h
  exact ⟨t, TyX.same e h1, h2⟩
/-- None, or a list of a number and True -/
def tellD : Option Int → PyData
  | none => .none
  | some k => .list [.int k, .bool true]
theorem tellD_flat {r : Option Int} : (tellD r).hasDict = false ∧ (tellD r).depth ≤ 1 := by
  cases r with
  | none => exact ⟨rfl, Nat.zero_le _⟩
  | some k => exact ⟨rfl, Nat.le_refl _⟩
theorem tellD_ok {r : Option Int} (h : ∀ k, r = some k → k.natAbs.log2 < 1920) : (tellD r).showable = true ∧ (tellD r).shown.length ≤ 2000 := by
  cases r with
  | none => exact ⟨rfl, by decide⟩
  | some k =>
    have hk := h k rfl
    refine ⟨by simpa [tellD, PyData.showable, PyData.showableAll] using hk, ?_⟩
    show (PySem.listText [Str.ofString (toString k), "True"]).length ≤ 2000
    have := listText_len [Str.ofString (toString k), "True"]
    have h1 := int_text_len_1921 hk
    rw [piled_cons, piled_cons, piled_nil] at this
    have e1 : (Str.ofString "True").length = 4 := rfl
    omega
/-- two of them in a list -/
theorem two_ok {d : PyData} (h : d.hasDict = false ∧ d.depth ≤ 1) (hs : d.showable = true ∧ d.shown.length ≤ 2000) : (PyData.list [d, d]).hasDict = false ∧ (PyData.list [d, d]).showable = true ∧ (PyData.list [d, d]).depth ≤ 60 ∧ (PyData.list [d, d]).shown.length ≤ sizeLine := by
  refine ⟨?_, ?_, ?_, ?_⟩
  · simp [PyData.hasDict, PyData.hasDictAll, h.1]
  · simp [PyData.showable, PyData.showableAll, hs.1]
  · show max d.depth (max d.depth 0) + 1 ≤ 60
    omega
  · show (PySem.listText [d.shown, d.shown]).length ≤ sizeLine
    have := listText_len [d.shown, d.shown]
    rw [piled_cons, piled_cons, piled_nil] at this
    exact Nat.le_trans (show _ ≤ 5000 by omega) (by decide)
end L2
set_option Elab.async false
set_option linter.all false
set_option maxRecDepth 100000
set_option maxHeartbeats 4000000
/-! own classes: C(e, ..), C(k = v) with an __init__ that may raise -/
namespace L2
open PySem PySem.Spec PyProof.Rows
theorem make_guards {A : Around} {C : Addr} {us : List Value} {kw : List (Str × Value)} : (A.under (.builtin "type.__call__" ⟨.ref C :: us, kw⟩)).guards = A.guards := by
  first | rfl | simp [Around.under, Code.weight, Code.isCreation, Code.isGuard, Code.isCaller, Code.frames, Code.isFrame, guardIds]
/-- C(e, .., k = v, ..): a new instance and its dict, then __init__; gV puts the values in order behind self -/
def tMakeG (C : Addr) (sp : Sp) (gV : List V → List V → List V) (E : St → XK) (tf : TE) (t tk : TA) : TE := fun σ H Q => tf σ H fun c H0 => c = .ref C ∧ t σ H0 fun vs H1 => tk σ H1 fun zs H2 => ∀ x dx, H2 x = none → H2 dx = none → dx ≠ x →
  sp (gV (.ref x :: vs) zs) (upd (upd H2 dx (.own x)) x (.ins C dx [])) (fun v H3 => v = .non ∧ Q (.ref x) H3) (E σ)
section
variable {X : Cx} {k : Nat} {f C : Addr} {fd : FuncData} {ps ks : List Str} {sp : Sp} {E : St → XK} {x : Str} {p pos : Pos} {e : Expr} {es : List Expr} {kws : List Keyword} {tf : TE} {t tk : TA} {g : List Value → List Value → List Value} {gV : List V → List V → List V}
theorem run_makeG {pins : List (Addr × Obj)} {σ : St} {H : Hp} {s : Shared} {Q : VK} {us ws : List Value} {vs zs : List V} (M : Mk X.K C f) (F : FnG X.prog X.w X.K X.mg X.base k f fd ps sp) (hr : Room (k + 1) X.A) (hgd : X.A.guards = some []) (hb : KBinds X.K fd ps ks g gV)
    (hx : PassesAt (L2.CX X.prog X.w) X σ (E σ)) (I : Inv X pins σ H s) (r : Vals vs us) (rz : Vals zs ws)
    (h : ∀ x dx, H x = none → H dx = none → dx ≠ x → sp (gV (.ref x :: vs) zs) (upd (upd H dx (.own x)) x (.ins C dx [])) (fun v H2 => v = .non ∧ Q (.ref x) H2) (E σ)) :
    wpAny (model X.prog X.w) X.A (call (.ref C) us (ks.zip ws)) (EP X pins σ Q) X.xe s := by
  have hq := h (s.heap.objs.size + 1) s.heap.objs.size (I.hok.fresh (Nat.le_succ _)) (I.hok.fresh (Nat.le_refl _)) (Nat.ne_of_lt (Nat.lt_succ_self _))
  have I2 := Inv.made (C := C) I
  have r1 : Vals (V.ref (s.heap.objs.size + 1) :: vs) (Value.ref (s.heap.objs.size + 1) :: us) := .cons rfl r
  have r2 := hb.rel r1 rz
  have hl : (g (Value.ref (s.heap.objs.size + 1) :: us) ws).length = ps.length := by rw [← r2.length]; exact F.arity _ _ _ _ hq
  refine wpAny_call (make_map (f := f) I.kIn M.makes M.init (beq_iff_eq.mp M.fn) (codeAny_mono (F.runs _ X.stack _ _ ⟨Value.ref (s.heap.objs.size + 1) :: us, ks.zip ws⟩ (g (Value.ref (s.heap.objs.size + 1) :: us) ws) _ _ (E σ) (hr.make C us (ks.zip ws)) (make_guards.trans hgd)
    (I2.env0.make C us (ks.zip ws)) (hb.to _ (Value.ref (s.heap.objs.size + 1) :: us) ws I2.kIn hl) r2 hq) fun r s' hq' => ?_))
  cases r with
  | error e => exact hx pins _ _ e s' I2 hq'
  | ok fl =>
    cases fl with
    | ret u =>
      obtain ⟨v, H', I3, rv, ev, q3⟩ := I2.after hq'
      subst ev
      exact ⟨rv, ⟨V.ref (s.heap.objs.size + 1), H', I3, rfl, q3⟩⟩
    | next => exact False.elim hq'
    | brk => exact False.elim hq'
    | cont => exact False.elim hq'
/-- C(e, ..) -/
theorem pe_makeG (M : Mk X.K C f) (F : FnG X.prog X.w X.K X.mg X.base k f fd ps sp) (hr : Room (k + 1) X.A) (hgd : X.A.guards = some []) (hb : KBinds X.K fd ps [] g gV) (hx : ∀ σ, PassesAt (L2.CX X.prog X.w) X σ (E σ)) (hf : PE X (.Name x p) tf) (ha : PA X (e :: es) t)
    (he : starEach (e :: es) X.env = (false, eval e X.env) :: starEach es X.env := by rfl) (hpl : (backTo pos (starEach es X.env)).any (·.1) = false := by rfl) :
    PE X (.Call (.Name x p) (e :: es) [] pos) (tMakeG C sp gV E tf t tNil) := by
  refine ⟨fun pins s σ H Q I h => ?_⟩
  refine wpAny_Call_Name_kw (thn (hf.run pins s σ H _ I h) fun u s1 ⟨c, H1, I1, rc, ec, q1⟩ => ?_)
  subst ec
  obtain rfl : u = Value.ref C := rc
  refine PySem.W.callWith_K (h₀ := X.base) I1.ok.mod.kin M.kp (thn (ha.run pos pins s1 σ H1 _ I1 q1) fun us s2 ⟨vs, H2, I2, r, q⟩ => ⟨I2.kIn, ?_⟩) he hpl
  exact run_makeG (ws := []) (zs := []) M F hr hgd hb (hx σ) I2 r .nil q
/-- C(k = v, ..) -/
theorem pe_makeK0G (M : Mk X.K C f) (F : FnG X.prog X.w X.K X.mg X.base k f fd ps sp) (hr : Room (k + 1) X.A) (hgd : X.A.guards = some []) (hb : KBinds X.K fd ps ks g gV) (hx : ∀ σ, PassesAt (L2.CX X.prog X.w) X σ (E σ)) (hf : PE X (.Name x p) tf) (hkw : PK X kws tk)
    (hall : (backToKw pos (keywordEach kws X.env)).all (·.1.isSome) = true := by rfl) (hks : (backToKw pos (keywordEach kws X.env)).filterMap (·.1) = ks := by rfl)
    (hpl : ((backTo pos (starEach [] X.env)).any (·.1) || (backToKw pos (keywordEach kws X.env)).any (·.1.isNone)) = false := by rfl) :
    PE X (.Call (.Name x p) [] kws pos) (tMakeG C sp gV E tf tNil tk) := by
  refine ⟨fun pins s σ H Q I h => ?_⟩
  refine wpAny_Call_Name_kw (thn (hf.run pins s σ H _ I h) fun u s1 ⟨c, H1, I1, rc, ec, q1⟩ => ?_)
  subst ec
  obtain rfl : u = Value.ref C := rc
  refine PySem.W.callWith_KW0 (h₀ := X.base) I1.ok.mod.kin M.kp hall (thn (hkw.run pos pins s1 σ H1 _ I1 q1) fun ws s2 ⟨zs, H2, I2, rz, q2⟩ => ⟨I2.kIn, ?_⟩) hpl
  rw [hks]
  exact run_makeG (us := []) (vs := []) M F hr hgd hb (hx σ) I2 .nil rz q2
end
end L2
set_option Elab.async false
set_option linter.all false
set_option maxRecDepth 100000
set_option maxHeartbeats 4000000
/-! classmethods: C.m(e, ..), C.m(k = v) -/
namespace L2
open PySem PySem.Spec PyProof.Rows ClX
def tCMethG (C : Addr) (sp : Sp) (gV : List V → List V → List V) (E : St → XK) (ta : TE) (t tk : TA) : TE := fun σ H Q => ta σ H fun x H1 => x = .ref C ∧ t σ H1 fun vs H2 => tk σ H2 fun zs H3 => sp (gV (.ref C :: vs) zs) H3 Q (E σ)
section
variable {X : Cx} {k : Nat} {C p g : Addr} {mc : Value} {fd : FuncData} {ps ks : List Str} {sp : Sp} {E : St → XK} {o e : Expr} {es : List Expr} {m : Str} {pos apos : Pos} {kws : List Keyword} {ta : TE} {t tk : TA} {pl : Sem Bool} {gf : List Value → List Value → List Value} {gV : List V → List V → List V}
theorem run_cmG {pins : List (Addr × Obj)} {σ : St} {H : Hp} {s : Shared} {q : Addr} {Q : VK} {us ws : List Value} {vs zs : List V} (F : FnG X.prog X.w X.K X.mg X.base k g fd ps sp) (hr : Room k X.A) (hgd : X.A.guards = some []) (hb : KBinds X.K fd ps ks gf gV) (hx : PassesAt (L2.CX X.prog X.w) X σ (E σ))
    (I : Inv X ((q, PySem.W.methodObj (.ref g) (.ref C)) :: pins) σ H s) (r : Vals vs us) (rz : Vals zs ws) (h : sp (gV (.ref C :: vs) zs) H Q (E σ)) : wpAny (model X.prog X.w) X.A (call (.ref q) us (ks.zip ws)) (EP X pins σ Q) X.xe s := by
  have r2 := hb.rel (Paired.cons (show RelV (.ref C) (.ref C) from rfl) r) rz
  have hl : (gf (.ref C :: us) ws).length = ps.length := by rw [← r2.length]; exact F.arity _ _ _ _ h
  have z : wpAny (model X.prog X.w) X.A (call (.ref q) us (ks.zip ws)) (EP X ((q, PySem.W.methodObj (.ref g) (.ref C)) :: pins) σ Q) X.xe s := by
    refine wpAny_call (PySem.W.method_call (pin_at I) (codeAny_mono (F.runs X.A X.stack s H ⟨.ref C :: us, ks.zip ws⟩ (gf (.ref C :: us) ws) _ Q (E σ) hr hgd I.env0 (hb.to s (.ref C :: us) ws I.kIn hl) r2 h) fun r s' hq => ?_))
    cases r with
    | error e => exact hx _ H s e s' I hq
    | ok fl =>
      cases fl with
      | ret u => exact I.after hq
      | next => exact False.elim hq
      | brk => exact False.elim hq
      | cont => exact False.elim hq
  exact thn z fun _ _ y => unpinE y
theorem pe_cmethG (he : PE X o ta) (r : CRead X.K C mc) (c : CMet X.K C mc m p g) (F : FnG X.prog X.w X.K X.mg X.base k g fd ps sp) (hr : Room k X.A) (hgd : X.A.guards = some []) (hb : KBinds X.K fd ps [] gf gV) (hx : ∀ σ, PassesAt (L2.CX X.prog X.w) X σ (E σ)) (ha : PA X (e :: es) t)
    (hst : starEach (e :: es) X.env = (false, eval e X.env) :: starEach es X.env := by rfl) (hpl : (backTo pos (starEach es X.env)).any (·.1) = false := by rfl)
    (ht : eval (.Call (.Attribute o m apos) (e :: es) [] pos) X.env = (do
      let ov ← eval o X.env
      standAt apos.atName
      let (f, first) ← holding [ov] (getMethod ov m pl)
      callWith pos f first (backTo pos (starEach (e :: es) X.env)) (backToKw pos (keywordEach [] X.env))) := by rfl) :
    PE X (.Call (.Attribute o m apos) (e :: es) [] pos) (tCMethG C sp gV E ta t tNil) := by
  refine ⟨fun pins s σ H Q I h => ?_⟩
  refine PySem.W.methodCall_KW (pl := pl) (thn (he.run pins s σ H _ I h) fun u s1 ⟨x, H1, I1, rx, ex, q⟩ => ?_) ht
  subst ex
  obtain rfl : u = Value.ref C := rx
  refine getmethcm_ok I1 r c fun s2 I2 => ?_
  refine callwith_cm I2 (base_none I1 (Nat.le_refl _)) c.fi (thn (ha.run pos _ s2 σ H1 _ I2 q) fun us s3 ⟨vs, H2, I3, rv, q2⟩ => ⟨⟨pin_at I3, I3.kIn⟩, ?_⟩) hst hpl
  exact run_cmG (ws := []) (zs := []) F hr hgd hb (hx σ) I3 rv .nil q2
theorem pe_cmethK0G (he : PE X o ta) (r : CRead X.K C mc) (c : CMet X.K C mc m p g) (F : FnG X.prog X.w X.K X.mg X.base k g fd ps sp) (hr : Room k X.A) (hgd : X.A.guards = some []) (hb : KBinds X.K fd ps ks gf gV) (hx : ∀ σ, PassesAt (L2.CX X.prog X.w) X σ (E σ)) (hkw : PK X kws tk)
    (hall : (backToKw pos (keywordEach kws X.env)).all (·.1.isSome) = true := by rfl) (hks : (backToKw pos (keywordEach kws X.env)).filterMap (·.1) = ks := by rfl)
    (hpl : ((backTo pos (starEach [] X.env)).any (·.1) || (backToKw pos (keywordEach kws X.env)).any (·.1.isNone)) = false := by rfl)
    (ht : eval (.Call (.Attribute o m apos) [] kws pos) X.env = (do
      let ov ← eval o X.env
      standAt apos.atName
      let (f, first) ← holding [ov] (getMethod ov m pl)
      callWith pos f first (backTo pos (starEach [] X.env)) (backToKw pos (keywordEach kws X.env))) := by rfl) :
    PE X (.Call (.Attribute o m apos) [] kws pos) (tCMethG C sp gV E ta tNil tk) := by
  refine ⟨fun pins s σ H Q I h => ?_⟩
  refine PySem.W.methodCall_KW (pl := pl) (thn (he.run pins s σ H _ I h) fun u s1 ⟨x, H1, I1, rx, ex, q⟩ => ?_) ht
  subst ex
  obtain rfl : u = Value.ref C := rx
  refine getmethcm_ok I1 r c fun s2 I2 => ?_
  refine PySem.W.callWith_of hpl (PySem.W.keeps_M c.fi) (PyProof.Rows.evalArgs_kw2_nil hall (thn (hkw.run pos _ s2 σ H1 _ I2 q) fun ws s3 ⟨zs, H2, I3, rz, q2⟩ => ⟨(⟨pin_at I3, I3.kIn⟩ : PySem.W.MethP X.K _ g (.ref C) s3.heap), ?_⟩))
  rw [hks]
  exact run_cmG (us := []) (vs := []) F hr hgd hb (hx σ) I3 .nil rz q2
end
end L2
set_option Elab.async false
set_option linter.all false
set_option maxRecDepth 100000
set_option maxHeartbeats 4000000
/-! any data, dicts at any depth: reading and repr (asks of dicts alone that they are not the modules' table) -/
namespace L2
open PySem PySem.Spec PyProof.Rows
mutual
/-- u stands for d in h -/
inductive Sd (h : Heap) : Value → PyData → Prop
  | non : Sd h .none .none
  | bl (b : Bool) : Sd h (.bool b) (.bool b)
  | int (i : Int) (t : Tok) : Sd h (.int i t) (.int i)
  | str (x : Str) (t : Tok) : Sd h (.str x t) (.str x)
  | lst {a : Addr} {o : Obj} {us : Array Value} {n : Nat} {ds : List PyData} (e : h.get? a = some o) (c : o.cls = .type "list") (q : o.data = .seq us n) (r : SdAll h us.toList ds) : Sd h (.ref a) (.list ds)
  | tup {a : Addr} {o : Obj} {us : Array Value} {n : Nat} {ds : List PyData} (e : h.get? a = some o) (c : o.cls = .type "tuple") (q : o.data = .seq us n) (r : SdAll h us.toList ds) : Sd h (.ref a) (.tuple ds)
  | dct {a : Addr} {o : Obj} {es : Array DictEntry} {n : Nat} {kvs : List (PyData × PyData)} (e : h.get? a = some o) (c : o.cls = .type "dict") (q : o.data = .dict es n) (low : (a == sysModules) = false)
      (rk : SdAll h (es.toList.map (·.key)) (kvs.map (·.1))) (rv : SdAll h (es.toList.map (·.val)) (kvs.map (·.2))) : Sd h (.ref a) (.dict kvs)
inductive SdAll (h : Heap) : List Value → List PyData → Prop
  | nil : SdAll h [] []
  | cons {u : Value} {us : List Value} {d : PyData} {ds : List PyData} (r : Sd h u d) (rs : SdAll h us ds) : SdAll h (u :: us) (d :: ds)
end
section
variable {prog : Program} {w : World} {h : Heap}
mutual
theorem Sd.rd : ∀ {u : Value} {d : PyData}, Sd h u d → ∃ as, Reads h u d as
  | _, _, .non => ⟨_, .none⟩
  | _, _, .bl b => ⟨_, .bool b⟩
  | _, _, .int i t => ⟨_, .int i t⟩
  | _, _, .str x t => ⟨_, .str x t⟩
  | _, _, .lst e c q r => let ⟨_, z⟩ := SdAll.rd r; ⟨_, .list e c q z⟩
  | _, _, .tup e c q r => let ⟨_, z⟩ := SdAll.rd r; ⟨_, .tuple e c q z⟩
  | _, _, .dct e c q _ rk rv => let ⟨_, z⟩ := SdAll.rd rk; let ⟨_, y⟩ := SdAll.rd rv; ⟨_, .dict e c q z y⟩
theorem SdAll.rd : ∀ {us : List Value} {ds : List PyData}, SdAll h us ds → ∃ as, ReadsAll h us ds as
  | _, _, .nil => ⟨_, .nil⟩
  | _, _, .cons r rs => let ⟨_, z⟩ := Sd.rd r; let ⟨_, y⟩ := SdAll.rd rs; ⟨_, .cons z y⟩
end
/-- what the repr of a list, tuple, dict asks of its items -/
structure Rk (prog : Program) (w : World) (h : Heap) (d : PyData) (u : Value) : Prop where
  ex : ∃ bs, ReadAtMost h d.depth bs ∧ ReprK prog w bs h d.depth u d.shown
structure RkAll (prog : Program) (w : World) (h : Heap) (ds : List PyData) (us : List Value) : Prop where
  ex : ∃ bs, ReadAtMost h (PyData.depthAll ds) bs ∧ ReprAllK prog w bs h (PyData.depthAll ds) us (PyData.shownAll ds)
theorem rk_flat {u : Value} {d : PyData} (hr : ReprK prog w [] h d.depth u d.shown) : Rk prog w h d u := ⟨[], (fun _ z => nomatch z), hr⟩
theorem rkAll_cons {u : Value} {us : List Value} {d : PyData} {ds : List PyData} (a : Rk prog w h d u) (b : RkAll prog w h ds us) : RkAll prog w h (d :: ds) (u :: us) := by
  obtain ⟨bs, hb, kb⟩ := a.ex
  obtain ⟨cs, hc, kc⟩ := b.ex
  have l1 : d.depth ≤ PyData.depthAll (d :: ds) := by simp only [PyData.depthAll]; exact Nat.le_max_left ..
  have l2 : PyData.depthAll ds ≤ PyData.depthAll (d :: ds) := by simp only [PyData.depthAll]; exact Nat.le_max_right ..
  refine ⟨⟨bs ++ cs, (hb.mono l1).append (hc.mono l2), ?_⟩⟩
  have e : PyData.shownAll (d :: ds) = d.shown :: PyData.shownAll ds := by simp only [PyData.shownAll]
  rw [e]
  exact .cons ((kb.more fun _ z => List.mem_append_left _ z).level_le l1) (kc.more_le (fun _ z => List.mem_append_right _ z) l2)
/-- the pieces of a list's repr -/
theorem rk_list {a : Addr} {o : Obj} {us : Array Value} {n : Nat} {ds : List PyData} (e : h.get? a = some o) (c : o.cls = .type "list") (q : o.data = .seq us n) (r : SdAll h us.toList ds) (hk : RkAll prog w h ds us.toList) :
    Rk prog w h (.list ds) (.ref a) := by
  obtain ⟨bs, hb, kb⟩ := hk.ex
  obtain ⟨as, ra⟩ := SdAll.rd r
  have rr : Reads h (.ref a) (.list ds) (a :: as) := Reads.list e c q ra
  have dl : PyData.depthAll ds < (PyData.list ds).depth := by simp only [PyData.depth]; exact Nat.lt_succ_self _
  have na : a ∉ bs := not_mem_of_deeper rr dl hb
  refine ⟨a :: bs, ReadAtMost.cons rr (Nat.le_of_lt dl) hb, ?_⟩
  have e1 : (PyData.list ds).shown = PySem.listText (PyData.shownAll ds) := by simp only [PyData.shown]
  have e2 : (PyData.list ds).depth = PyData.depthAll ds + 1 := by simp only [PyData.depth]
  rw [e1, e2]
  obtain ⟨l⟩ := us
  cases l with
  | nil =>
    cases r
    have e3 : PySem.listText (PyData.shownAll []) = ("[]" : Str) := by decide +kernel
    rw [e3]
    exact ReprK.listEmpty e c q
  | cons x l => exact ReprK.list e c q na (by have := kb.length_eq; simpa using this) fun i y z => kb.item i y (by simpa using z)
theorem rk_tup {a : Addr} {o : Obj} {us : Array Value} {n : Nat} {ds : List PyData} (e : h.get? a = some o) (c : o.cls = .type "tuple") (q : o.data = .seq us n) (r : SdAll h us.toList ds) (hk : RkAll prog w h ds us.toList) :
    Rk prog w h (.tuple ds) (.ref a) := by
  obtain ⟨bs, hb, kb⟩ := hk.ex
  obtain ⟨as, ra⟩ := SdAll.rd r
  have rr : Reads h (.ref a) (.tuple ds) as := Reads.tuple e c q ra
  have dl : PyData.depthAll ds < (PyData.tuple ds).depth := by simp only [PyData.depth]; exact Nat.lt_succ_self _
  have na : a ∉ bs := not_mem_of_deeper rr dl hb
  refine ⟨a :: bs, ReadAtMost.cons rr (Nat.le_of_lt dl) hb, ?_⟩
  have e1 : (PyData.tuple ds).shown = tupleText (PyData.shownAll ds) := by simp only [PyData.shown]
  have e2 : (PyData.tuple ds).depth = PyData.depthAll ds + 1 := by simp only [PyData.depth]
  rw [e1, e2]
  exact ReprK.tuple e c q na kb
/-- the entries of a dict's repr -/
theorem ents_dict {es : Array DictEntry} {kvs : List (PyData × PyData)} (k1 : RkAll prog w h (kvs.map (·.1)) (es.toList.map (·.key))) (k2 : RkAll prog w h (kvs.map (·.2)) (es.toList.map (·.val))) :
    ∃ bs, ReadAtMost h (PyData.depthKv kvs) bs ∧ ReprEntriesK prog w bs h (PyData.depthKv kvs) es.toList (PyData.shownKv kvs) := by
  obtain ⟨bs, hb, kb⟩ := k1.ex
  obtain ⟨cs, hc, kc⟩ := k2.ex
  have l1 := PyData.depthAll_keys_le kvs
  have l2 := PyData.depthAll_vals_le kvs
  refine ⟨bs ++ cs, (hb.mono l1).append (hc.mono l2), ?_⟩
  rw [PyData.shownKv_eq]
  exact ReprEntriesK.of_two _ _ _ (kb.more_le (fun _ z => List.mem_append_left _ z) l1) (kc.more_le (fun _ z => List.mem_append_right _ z) l2)
theorem rk_dict {a : Addr} {o : Obj} {es : Array DictEntry} {n : Nat} {kvs : List (PyData × PyData)} (e : h.get? a = some o) (c : o.cls = .type "dict") (q : o.data = .dict es n) (low : (a == sysModules) = false)
    (rk : SdAll h (es.toList.map (·.key)) (kvs.map (·.1))) (rv : SdAll h (es.toList.map (·.val)) (kvs.map (·.2)))
    (k1 : RkAll prog w h (kvs.map (·.1)) (es.toList.map (·.key))) (k2 : RkAll prog w h (kvs.map (·.2)) (es.toList.map (·.val))) : Rk prog w h (.dict kvs) (.ref a) := by
  obtain ⟨bs, hb, kb⟩ := ents_dict k1 k2
  obtain ⟨as1, ra1⟩ := SdAll.rd rk
  obtain ⟨as2, ra2⟩ := SdAll.rd rv
  have rr := Reads.dict e c q ra1 ra2
  have dl : PyData.depthKv kvs < (PyData.dict kvs).depth := by simp only [PyData.depth]; exact Nat.lt_succ_self _
  have na : a ∉ bs := not_mem_of_deeper rr dl hb
  refine ⟨a :: bs, ReadAtMost.cons rr (Nat.le_of_lt dl) hb, ?_⟩
  have e1 : (PyData.dict kvs).shown = dictText (PyData.shownKv kvs) := by simp only [PyData.shown]
  have e2 : (PyData.dict kvs).depth = PyData.depthKv kvs + 1 := by simp only [PyData.depth]
  rw [e1, e2]
  exact ReprK.dict e c q low na kb
mutual
/-- texts within are short enough, numbers too -/
theorem Sd.rk : ∀ {u : Value} {d : PyData}, Sd h u d → d.showable = true → d.shown.length ≤ sizeLine → Rk prog w h d u
  | _, _, .non, _, _ => rk_flat (by simp only [PyData.shown]; exact .of_is ReprIs.none _ _ _)
  | _, _, .bl b, _, _ => rk_flat (by simp only [PyData.shown]; exact .of_is (ReprIs.bool b) _ _ _)
  | _, _, .int i t, hs, _ => rk_flat (by simp only [PyData.shown]; exact .of_is (ReprIs.int t (by simpa [PyData.showable] using hs)) _ _ _)
  | _, _, .str x t, _, hz => rk_flat (by simp only [PyData.shown] at hz ⊢; exact .of_is (ReprIs.str x t hz) _ _ _)
  | _, _, .lst e c q r, hs, hz => rk_list e c q r (SdAll.rk r (by simpa [PyData.showable] using hs) fun t ht => Nat.le_trans (listText_mem_le ht) (by simpa only [PyData.shown] using hz))
  | _, _, .tup e c q r, hs, hz => rk_tup e c q r (SdAll.rk r (by simpa [PyData.showable] using hs) fun t ht => Nat.le_trans (tupleText_mem_le ht) (by simpa only [PyData.shown] using hz))
  | _, _, .dct (kvs := kvs) e c q low rk rv, hs, hz => by
    have hz2 : (dictText (PyData.shownKv kvs)).length ≤ sizeLine := by simpa only [PyData.shown] using hz
    obtain ⟨s1, s2⟩ := PyData.showableKv_split kvs (by simpa [PyData.showable] using hs)
    refine rk_dict e c q low rk rv (SdAll.rk rk s1 fun t ht => ?_) (SdAll.rk rv s2 fun t ht => ?_)
    · obtain ⟨p, hp, hl⟩ := PyData.shownKv_key_le kvs t ht
      exact Nat.le_trans (Nat.le_trans hl (dictText_mem_le hp)) hz2
    · obtain ⟨p, hp, hl⟩ := PyData.shownKv_val_le kvs t ht
      exact Nat.le_trans (Nat.le_trans hl (dictText_mem_le hp)) hz2
theorem SdAll.rk : ∀ {us : List Value} {ds : List PyData}, SdAll h us ds → PyData.showableAll ds = true → (∀ t ∈ PyData.shownAll ds, t.length ≤ sizeLine) → RkAll prog w h ds us
  | _, _, .nil, _, _ => ⟨[], (fun _ z => nomatch z), by simp only [PyData.shownAll]; exact .nil⟩
  | _, _, .cons (d := d) (ds := ds) r rs, hs, hz => by
    have hs2 : d.showable = true ∧ PyData.showableAll ds = true := by simpa [PyData.showableAll] using hs
    have e : PyData.shownAll (d :: ds) = d.shown :: PyData.shownAll ds := by simp only [PyData.shownAll]
    rw [e] at hz
    exact rkAll_cons (Sd.rk r hs2.1 (hz _ List.mem_cons_self)) (SdAll.rk rs hs2.2 fun t ht => hz t (List.mem_cons_of_mem _ ht))
end
/-- repr(u) -/
theorem call_repr_sd {A : Around} {E : Value → Shared → Prop} {s : Shared} {Q : Value → Shared → Prop} {u : Value} {d : PyData} (r : Sd s.heap u d) (hs : d.showable = true) (hz : d.shown.length ≤ sizeLine) (hg : A.guards = some []) (hu : A.units + (d.depth + 1) < cLine)
    (hQ : ∀ h' t tk, (∀ b o, s.heap.get? b = some o → h'.get? b = some o) → Q (.str d.shown t) { s with heap := h', toks := tk }) : wpAny (model prog w) A (call (.builtin "repr") [u]) Q E s := by
  cases r with
  | non => exact PySem.P.repr_of_none (hQ s.heap _ _ fun _ _ z => z)
  | bl b => exact PySem.P.repr_of_bool (hQ s.heap _ _ fun _ _ z => z)
  | int i t => exact PySem.P.repr_of_int (by simpa [PyData.showable] using hs) (hQ s.heap _ _ fun _ _ z => z)
  | str x t => exact PySem.P.repr_of_str (hQ s.heap _ _ fun _ _ z => z) (by simpa only [PyData.shown] using hz)
  | lst e c q r =>
    rename_i a o us n ds
    have hz2 : (PySem.listText (PyData.shownAll ds)).length ≤ sizeLine := by simpa only [PyData.shown] using hz
    obtain ⟨bs, hb, kb⟩ := (SdAll.rk (prog := prog) (w := w) r (by simpa [PyData.showable] using hs) fun t ht => Nat.le_trans (listText_mem_le ht) hz2).ex
    obtain ⟨as, ra⟩ := SdAll.rd r
    have na : a ∉ bs := not_mem_of_deeper (Reads.list e c q ra) (by simp only [PyData.depth]; omega) hb
    simp only [PyData.depth] at hu
    simp only [PyData.shown] at hQ
    refine call_repr_slot (by omega) ⟨o, e, c⟩ F.slot_list_repr.toG ?_
    obtain ⟨l⟩ := us
    cases l with
    | nil =>
      cases r
      have e3 : PySem.listText (PyData.shownAll []) = ("[]" : Str) := by decide +kernel
      rw [e3] at hQ
      exact call_list_repr_empty ⟨o, e, c⟩ e q ⟨_, _, rfl, hQ s.heap _ _ fun _ _ z => z⟩
    | cons x l =>
      exact call_list_reprK e c q na (by have := kb.length_eq; simpa using this) (fun i y z => kb.item i y (by simpa using z)) hg (fun b _ => Clear.nil b) (by show A.units + 1 + _ < cLine; omega) (fun _ _ z => z) (fun h' t tk hk => ⟨_, _, rfl, hQ h' t tk hk⟩) hz2
  | tup e c q r =>
    rename_i a o us n ds
    have hz2 : (tupleText (PyData.shownAll ds)).length ≤ sizeLine := by simpa only [PyData.shown] using hz
    obtain ⟨bs, hb, kb⟩ := (SdAll.rk (prog := prog) (w := w) r (by simpa [PyData.showable] using hs) fun t ht => Nat.le_trans (tupleText_mem_le ht) hz2).ex
    obtain ⟨as, ra⟩ := SdAll.rd r
    have na : a ∉ bs := not_mem_of_deeper (Reads.tuple e c q ra) (by simp only [PyData.depth]; omega) hb
    simp only [PyData.depth] at hu
    simp only [PyData.shown] at hQ
    refine call_repr_slot (by omega) ⟨o, e, c⟩ F.slot_tuple_repr ?_
    exact call_tuple_reprK e c q na kb hg (fun b _ => Clear.nil b) (by show A.units + 1 + _ < cLine; omega) (fun _ _ z => z) (fun h' t tk hk => ⟨_, _, rfl, hQ h' t tk hk⟩) hz2
  | dct e c q low rk rv =>
    rename_i a o es n kvs
    have hz2 : (dictText (PyData.shownKv kvs)).length ≤ sizeLine := by simpa only [PyData.shown] using hz
    obtain ⟨s1, s2⟩ := PyData.showableKv_split kvs (by simpa [PyData.showable] using hs)
    obtain ⟨bs, hb, kb⟩ := ents_dict (prog := prog) (w := w) (SdAll.rk rk s1 fun t ht => (by
      obtain ⟨p, hp, hl⟩ := PyData.shownKv_key_le kvs t ht
      exact Nat.le_trans (Nat.le_trans hl (dictText_mem_le hp)) hz2)) (SdAll.rk rv s2 fun t ht => (by
      obtain ⟨p, hp, hl⟩ := PyData.shownKv_val_le kvs t ht
      exact Nat.le_trans (Nat.le_trans hl (dictText_mem_le hp)) hz2))
    obtain ⟨as1, ra1⟩ := SdAll.rd rk
    obtain ⟨as2, ra2⟩ := SdAll.rd rv
    have na : a ∉ bs := not_mem_of_deeper (Reads.dict e c q ra1 ra2) (by simp only [PyData.depth]; omega) hb
    simp only [PyData.depth] at hu
    simp only [PyData.shown] at hQ
    refine call_repr_slot (by omega) ⟨o, e, c⟩ F.slot_dict_repr ?_
    exact call_dict_reprK e c q low na kb hg (fun b _ => Clear.nil b) (by show A.units + 1 + _ < cLine; omega) (fun _ _ z => z) (fun h' t tk hk => ⟨_, _, rfl, hQ h' t tk hk⟩) hz2
end
mutual
/-- v stands for d: None, bools, numbers, texts, lists, tuples, the empty dict, at any depth -/
inductive Av (K : PySem.W.Frag) (H : Hp) : V → PyData → Prop
  | non : Av K H .non .none
  | bl (b : Bool) : Av K H (.bl b) (.bool b)
  | int (i : Int) : Av K H (.int i) (.int i)
  | str (x : Str) : Av K H (.str x) (.str x)
  | lst {a : Addr} {xs : List V} {ds : List PyData} (e : SqL K H a xs) (r : AvAll K H xs ds) : Av K H (.ref a) (.list ds)
  | tup {a : Addr} {xs : List V} {ds : List PyData} (e : SqT K H a xs) (r : AvAll K H xs ds) : Av K H (.ref a) (.tuple ds)
  | dct {a : Addr} (e : H a = some (.dK [])) : Av K H (.ref a) (.dict [])
inductive AvAll (K : PySem.W.Frag) (H : Hp) : List V → List PyData → Prop
  | nil : AvAll K H [] []
  | cons {v : V} {vs : List V} {d : PyData} {ds : List PyData} (r : Av K H v d) (rs : AvAll K H vs ds) : AvAll K H (v :: vs) (d :: ds)
end
section
variable {K : PySem.W.Frag} {H H' : Hp}
mutual
theorem Av.same (e : Same H H') : ∀ {v : V} {d : PyData}, Av K H v d → Av K H' v d
  | _, _, .non => .non
  | _, _, .bl b => .bl b
  | _, _, .int i => .int i
  | _, _, .str x => .str x
  | _, _, .lst h r => .lst (e.seq h) (AvAll.same e r)
  | _, _, .tup h r => .tup (e.seqT h) (AvAll.same e r)
  | _, _, .dct h => .dct (e _ _ h)
theorem AvAll.same (e : Same H H') : ∀ {vs : List V} {ds : List PyData}, AvAll K H vs ds → AvAll K H' vs ds
  | _, _, .nil => .nil
  | _, _, .cons h r => .cons (Av.same e h) (AvAll.same e r)
end
theorem AvAll.length : ∀ {vs : List V} {ds : List PyData}, AvAll K H vs ds → vs.length = ds.length
  | _, _, .nil => rfl
  | _, _, .cons _ r => by rw [List.length_cons, List.length_cons, AvAll.length r]
theorem AvAll.app : ∀ {vs ws : List V} {ds es : List PyData}, AvAll K H vs ds → AvAll K H ws es → AvAll K H (vs ++ ws) (ds ++ es)
  | _, _, _, _, .nil, s => s
  | _, _, _, _, .cons h r, s => .cons h (AvAll.app r s)
end
section
variable {X : Cx} {pins : List (Addr × Obj)} {σ : St} {H : Hp} {s : Shared}
mutual
theorem Av.sd (I : Inv X pins σ H s) : ∀ {v : V} {d : PyData} {u : Value}, Av X.K H v d → RelV v u → Sd s.heap u d
  | _, _, _, .non, r => by cases r; exact .non
  | _, _, _, .bl b, r => by cases r; exact .bl b
  | _, _, _, .int i, r => by obtain ⟨t, rfl⟩ := r; exact .int i t
  | _, _, _, .str x, r => by obtain ⟨t, rfl⟩ := r; exact .str x t
  | _, _, _, .lst e a, r => by
    cases r
    obtain ⟨its, rv, ⟨o, n, ho, hc, _, hd⟩, _⟩ := I.list e
    exact .lst ho hc hd (AvAll.sd I a (by simpa using rv))
  | _, _, _, .tup e a, r => by
    cases r
    obtain ⟨its, rv, ⟨o, ho, hc, n, hd⟩, _⟩ := I.tuple e
    exact .tup ho hc hd (AvAll.sd I a (by simpa using rv))
  | _, _, _, .dct (a := a) e, r => by
    obtain rfl : _ = Value.ref a := r
    obtain ⟨_, low, vs, kv, m⟩ : ([] : List (Key × V)).length ≤ sizeLine ∧ (a == sysModules) = false ∧ ∃ vs, KV ([] : List (Key × V)) vs ∧ s.heap.DictOf (mixKind X.prog X.w) a vs := I.hok a _ e
    cases kv
    obtain ⟨o, es, n, e1, e2, e3, e4⟩ := m
    have e5 : es.toList = [] := by
      have q := e4.2.1
      generalize es.toList = l at q
      cases q
      rfl
    exact .dct e1 e2.1 e3 low (by rw [e5]; exact .nil) (by rw [e5]; exact .nil)
theorem AvAll.sd (I : Inv X pins σ H s) : ∀ {vs : List V} {ds : List PyData} {us : List Value}, AvAll X.K H vs ds → Vals vs us → SdAll s.heap us ds
  | _, _, _, .nil, r => by cases r; exact .nil
  | _, _, _, .cons a b, r => by
    cases r with
    | cons r1 r2 => exact .cons (Av.sd I a r1) (AvAll.sd I b r2)
end
end
def rReprV (K : PySem.W.Frag) : List V → Hp → VK → Prop := fun xs H Q => ∃ v d, xs = [v] ∧ Av K H v d ∧ d.showable = true ∧ d.depth ≤ 60 ∧ d.shown.length ≤ sizeLine ∧ Q (.str d.shown) H
theorem call_reprV {X : Cx} (hgd : X.A.guards = some []) (hu : X.A.units + 64 < cLine) : CallR X (.builtin "repr") (rReprV X.K) := by
  intro pins s σ H xs us Q I r h
  obtain ⟨v, d, rfl, hv, hs, hdp, hz, q⟩ := h
  obtain ⟨u, rfl, ru⟩ := vals1 r
  exact call_repr_sd (Av.sd I hv ru) hs hz hgd (by omega) fun h' t tk hk => ⟨.str _, H, I.kept hk, ⟨_, rfl⟩, q⟩
end L2
set_option Elab.async false
set_option linter.all false
set_option maxRecDepth 100000
set_option maxHeartbeats 4000000
/-! a tuple of any items compared to () -/
namespace GQ
open PySem PySem.SeqAt
open AutoSeq1 (wpAny_loadPart')
open MeetsSeq MeetsSeq2 MeetsSeq3 SeqRoads2
section
variable {prog : Program} {w : World} {A : Around} {R : Result → Shared → Prop}
theorem tup_nilG {l b : Addr} {its : Array Value} {n n2 : Nat} {dd dd2 : Option Addr} {sl sl2 : Array (Option Value)} {s : Shared} (h1 : s.heap.get? l = some { cls := .type "tuple", dict := dd, data := .seq its n, slots := sl })
    (h2 : s.heap.get? b = some { cls := .type "tuple", dict := dd2, data := .seq #[] n2, slots := sl2 }) (fin : ∀ t, R (.ok (.ret (.bool (its.size == 0)))) { s with toks := t }) :
    wpAny (model prog w) A.in1 (Builtin.«tuple.__eq__» ⟨[.ref l, .ref b], []⟩) (FinOf prog w A R) (fun e s' => R (.error e) s') s := by
  have sub2 := AutoSeq1.sub_tuple_tuple
  obtain ⟨hp, g, d, tk, os⟩ := s
  wp_walk using wpAny_loadPart' h1, wpAny_loadPart' h2, wpAny_forIn_list _ (fun rest b s' => b.1 = none ∧ rest = [] ∧ s' = ⟨hp, g, d, tk, os⟩) _
  case turn =>
    rintro ⟨y, x⟩ rest b s' ⟨_, z, _⟩
    cases z
  case fin =>
    rintro ⟨b1, b2⟩ s' ⟨z1, _, z3⟩
    simp only at z1
    subst z1 z3
    have z := fin tk
    wp_walk
    simp [Builtin.Tuple.tupleCompareSizes]
    exact z
  case h =>
    exact ⟨rfl, by simp, rfl⟩
theorem rc_tupNil {l b : Addr} {its : Array Value} {E : Value → Shared → Prop} {s : Shared} {Q : Value → Shared → Prop} (hu : A.units < cLine) (hl : s.heap.IsTuple l its) (hb : s.heap.IsTuple b #[]) (fin : ∀ t, Q (.bool (its.size == 0)) { s with toks := t }) :
    wpAny (model prog w) A (richCompare .Eq (.ref l) (.ref b)) Q E s := by
  obtain ⟨⟨c1, d1, q1, s1⟩, o1, k1, n1, e1⟩ := id hl
  obtain ⟨⟨c2, d2, q2, s2⟩, o2, k2, n2, e2⟩ := id hb
  simp only at k1 e1 k2 e2
  subst k1 e1 k2 e2
  refine wpAny_richCompare_same_room (op := .Eq) ⟨_, o1, rfl⟩ ⟨_, o2, rfl⟩ F.slot_tuple_eq (call_here F.slot_tuple_eq ⟨_, o1, rfl⟩ F.entry_tuple_eq (F.args_tuple_eq_2 _ _) ?_) hu
  exact tup_nilG (R := wants (fun v s' => v ≠ .notImplemented ∧ Q v s') E) o1 o2 fun t => ⟨(fun x => nomatch x), fin t⟩
end
end GQ
namespace L2
open PySem PySem.Spec PyProof.Rows
/-- xs == (), xs any tuple -/
def rEqNilT (K : PySem.W.Frag) : R2 := fun x y H Q => ∃ a b xs, x = .ref a ∧ y = .ref b ∧ SqT K H a xs ∧ SqT K H b [] ∧ Q (.bl xs.isEmpty) H
theorem op_eqNilT {X : Cx} (hu : X.A.units + 64 < cLine) : OpR X (compareOp .Eq) (rEqNilT X.K) := by
  intro pins s σ H x y v u Q I rx ry h
  obtain ⟨a, b, xs, rfl, rfl, ha, hb, q⟩ := h
  cases rx
  cases ry
  obtain ⟨its, r, t1, _⟩ := I.tuple ha
  obtain ⟨its2, r2, t2, _⟩ := I.tuple hb
  cases r2
  show wpAny (model X.prog X.w) X.A (richCompare .Eq (.ref a) (.ref b)) (EP X pins σ Q) X.xe s
  refine GQ.rc_tupNil (Nat.lt_of_le_of_lt (by omega) hu) t1 t2 fun t => ⟨.bl xs.isEmpty, H, I.tok t, ?_, q⟩
  show Value.bool _ = Value.bool _
  congr 1
  have e := r.length
  rw [List.size_toArray, ← e]
  cases xs <;> rfl
end L2

set_option Elab.async false
set_option linter.all false
set_option maxRecDepth 100000
set_option maxHeartbeats 4000000
/-! enumerate of a tuple; enumerate of a list from a written number on -/
namespace PySem
open Sem (wp)
set_option maxHeartbeats 1000000 in
theorem meets_enum1 {v : Value} {o : Obj} {H : Heap → Prop} (B : Begins v o H) :
    Meets (Builtin.«enumerate.__new__» ⟨[.type "enumerate", v], []⟩) (fun _ R s => H s.heap ∧
      R (.ok (.ret (.ref (s.heap.push o).objs.size))) { s with heap := (s.heap.push o).push { cls := .type "enumerate", data := .fields #[.none, .bool false, .ref s.heap.objs.size, rawInt 0, .none, .none] } }) :=
  .of_wp fun prog w A R ⟨hp, gs, dr, tk, os⟩ z => by
    obtain ⟨hH, hR⟩ := z
    have sb := sub_enumerate
    have it : ∀ {A' : Around} {E : Value → Shared → Prop} {Q : Value → Shared → Prop}, Q (.ref hp.objs.size) ⟨hp.push o, gs, dr, tk, os⟩ → wpAny (model prog w) A' (pyIter v) Q E ⟨hp, gs, dr, tk, os⟩ := fun q => B.iter prog w _ _ ⟨hp, gs, dr, tk, os⟩ _ hH q
    wp_walk using it
    refine wpAny_stack_any fun _ => wpAny_pure ?_
    split
    · rename_i c _ _ _ _ _
      cases (c == Value.type "enumerate") <;> (wp_walk using it; exact ⟨_, rfl, hR⟩)
    · wp_walk using it
      exact ⟨_, rfl, hR⟩
theorem enum_begins1 {prog : Program} {w : World} {A : Around} {E : Value → Shared → Prop} {s : Shared} {v : Value} {o : Obj} {H : Heap → Prop} {Q : Value → Shared → Prop} (B : Begins v o H) (hH : H s.heap)
    (fin : ∀ h', IsEnum h' (s.heap.objs.size + 1) s.heap.objs.size 0 .none → h'.get? s.heap.objs.size = some o → (∀ b o, s.heap.get? b = some o → h'.get? b = some o) → Q (.ref (s.heap.objs.size + 1)) { s with heap := h' }) :
    wpAny (model prog w) A (call (.type "enumerate") [v]) Q E s := by
  refine callType_new F.called_enumerate (by decide) (F.typeCall_enumerate_1 _) (F.newCall_enumerate_1 _) (fun obj => F.args_object_init_2 obj _) F.entry_enumerate_new (meets_enum1 B) ⟨hH, ?_⟩
  have sz : (s.heap.push o).objs.size = s.heap.objs.size + 1 := Heap.size_push ..
  rw [sz]
  have e : IsEnum ((s.heap.push o).push { cls := .type "enumerate", data := .fields #[.none, .bool false, .ref s.heap.objs.size, rawInt 0, .none, .none] }) (s.heap.objs.size + 1) s.heap.objs.size 0 .none := by
    have z := Heap.get?_push_size (s.heap.push o) (o := { cls := .type "enumerate", data := .fields #[.none, .bool false, .ref s.heap.objs.size, rawInt 0, .none, .none] }) rfl
    rw [sz] at z
    exact z
  exact ⟨⟨_, e, rfl⟩, fin _ e (Heap.get?_push_of_some _ (Heap.get?_push_size _ B.free)) fun b u x => Heap.get?_push_of_some _ (Heap.get?_push_of_some _ x)⟩
end PySem
namespace L2
open PySem PySem.Spec PyProof.Rows
/-- enumerate from k0 on of the tuple at a: each item in a new pair behind its number -/
def ItqT (K : PySem.W.Frag) (k0 : Int) (a : Addr) : It :=
  ⟨fun i H => ∃ (xs : List V) (x : V), SqT K H a xs ∧ xs[i]? = some x, fun i H v H' => ∃ T x, v = .ref T ∧ H T = none ∧ H' = upd H T (.tup [.int (k0 + (i : Nat)), x]) ∧ ∀ xs, SqT K H a xs → xs[i]? = some x, fun i H => ∃ xs : List V, SqT K H a xs ∧ xs.length = i⟩
theorem turnQT {P : Program} {w : World} {K : PySem.W.Frag} {elts : List Expr} {kk : Nat} {tpos : Pos} (k0 : Int) (a e it : Addr) :
    Turn P w K (.Tuple elts kk tpos) (ItqT K k0 a) [e, it] e (fun i h => (∃ old, IsEnum h e it (k0 + (i : Nat)) old) ∧ h.IsTupleIter it a i ∧ (e ≠ it ∧ a ≠ it ∧ a ≠ e)) where
  mem := List.mem_cons_self ..
  obj := fun i h st b hb => by
    obtain ⟨⟨old, he⟩, ⟨o, ho, _, hd⟩, _⟩ := st
    rcases List.mem_cons.mp hb with rfl | hb
    · exact ⟨_, he, fun v q => nomatch q⟩
    · rw [List.mem_singleton.mp hb]
      exact ⟨o, ho, fun v q => by rw [hd] at q; cases q⟩
  keep := fun i h h' st k => by
    obtain ⟨⟨old, he⟩, hi, hne⟩ := st
    exact ⟨⟨old, k e (by simp) _ he⟩, hi.at fun o q => k it (by simp) o q, hne⟩
  item := by
    intro X hP hw hK hc i pins s σ H E I hfree st hgo
    subst hP hw hK
    obtain ⟨⟨old, he⟩, hit, hne⟩ := st
    obtain ⟨xs, x, hq, hx⟩ := hgo
    obtain ⟨its, rv, p, hz⟩ := I.tuple hq
    obtain ⟨u, hu, ru⟩ := rv.get hx
    have hel : e < s.heap.objs.size := Heap.lt_size he
    have hil : it < s.heap.objs.size := by obtain ⟨_, q, _⟩ := hit; exact Heap.lt_size q
    have lt : i < its.toArray.size := by
      have z := (List.getElem?_eq_some_iff.mp hu).1
      rw [List.size_toArray]; exact z
    refine wpAny_pyNext_enum_itemC (Draws.tuple (A := X.A.in1) (I.ok.hd hc) it a hne.2.1 its.toArray) he ⟨hit, p⟩ lt hne.1 (by simpa using ⟨hne.1, fun z => hne.2.2 z.symm⟩) fun v h' tk hv ho hit' hT hsz hk => ?_
    have ev : v = u := by
      have z : its[i]? = some v := by simpa using hv
      exact Option.some.inj (z.symm.trans hu)
    subst ev
    refine ⟨_, rfl, wpAny_letOwnedTupleGo_enum (s := { s with heap := h', toks := tk + 1 }) ho fun h2 he' sb => ?_⟩
    have hT2 : h2.get? s.heap.objs.size = some { cls := .type "tuple", data := .seq #[.int (k0 + (i : Nat)) tk, v] } := (sb.2 _ (Nat.ne_of_gt hel)).trans hT
    have new : ObjOk X.prog X.w (upd H s.heap.objs.size (.tup [.int (k0 + (i : Nat)), x])) h2 s.heap.objs.size (.tup [.int (k0 + (i : Nat)), x]) :=
      ⟨by show 2 ≤ sizeLine; decide, [.int (k0 + (i : Nat)) tk, v], .cons ⟨_, rfl⟩ (.cons ru .nil), ⟨_, hT2, rfl, _, rfl⟩⟩
    have I1 : Inv X pins σ (upd H s.heap.objs.size (.tup [.int (k0 + (i : Nat)), x])) { s with heap := h2, toks := tk + 1 } :=
      I.turnedNew (ch := [e, it]) (fun b ob hb q => by
        have n1 : b ≠ e := fun z => hb (by simp [z])
        have n2 : b ≠ it := fun z => hb (by simp [z])
        exact (sb.2 b n1).trans (hk b ob n1 n2 q)) hfree (Nat.le_refl _) new
    refine ⟨.ref s.heap.objs.size, _, I1, rfl, ⟨_, x, rfl, I.hok.fresh (Nat.le_refl _), rfl, fun ys hy => by rw [I.tuple_inj hy hq]; exact hx⟩, ⟨⟨v, ?_⟩, hit'.1.at fun o q => (sb.2 it (Ne.symm hne.1)).trans q, hne⟩, fun b hb => ?_⟩
    · have e1 : k0 + ((i + 1 : Nat) : Int) = k0 + (i : Nat) + 1 := by omega
      rw [e1]; exact he'
    · have hb' : b < s.heap.objs.size := by
        rcases List.mem_cons.mp hb with rfl | hb
        · exact hel
        · rw [List.mem_singleton.mp hb]; exact hil
      rw [upd_ne (Nat.ne_of_lt hb')]
      exact (hfree b hb).1
  done := by
    intro X hP hw hK hc i pins s σ H E I hfree st hst
    subst hP hw hK
    obtain ⟨⟨old, he⟩, hit, hne⟩ := st
    obtain ⟨xs, hq, hx⟩ := hst
    obtain ⟨its, rv, p, hz⟩ := I.tuple hq
    obtain ⟨f0, f1, f2, f3, f4, f5⟩ := hfree it (by simp)
    have hl := rv.length
    have hsz : its.toArray.size = i := by rw [List.size_toArray, ← hl]; exact hx
    subst hsz
    exact wpAny_pyNext_enum_endD (Draws.tuple (A := X.A.in1) (I.ok.hd hc) it a hne.2.1 its.toArray) he ⟨hit, p⟩ fun h' eb => ⟨rfl, I.turned (t' := s.toks) (fun b o hb q => eb b o hb q) f0 f1 f3 f4 f5⟩
  self := fun A i s Q E st h => by
    obtain ⟨⟨old, he⟩, _⟩ := st
    exact wpAny_pyIter_enum he h
/-- enumerate from k0 on of the list at a: each item in a new pair behind its number -/
def ItqL (K : PySem.W.Frag) (k0 : Int) (a : Addr) : It :=
  ⟨fun i H => ∃ (xs : List V) (x : V), SqL K H a xs ∧ xs[i]? = some x, fun i H v H' => ∃ T x, v = .ref T ∧ H T = none ∧ H' = upd H T (.tup [.int (k0 + (i : Nat)), x]) ∧ ∀ xs, SqL K H a xs → xs[i]? = some x, fun i H => ∃ xs : List V, SqL K H a xs ∧ xs.length = i⟩
theorem turnQL {P : Program} {w : World} {K : PySem.W.Frag} {elts : List Expr} {kk : Nat} {tpos : Pos} (k0 : Int) (a e it : Addr) :
    Turn P w K (.Tuple elts kk tpos) (ItqL K k0 a) [e, it] e (fun i h => (∃ old, IsEnum h e it (k0 + (i : Nat)) old) ∧ h.IsListIter it a i ∧ (e ≠ it ∧ a ≠ it ∧ a ≠ e)) where
  mem := List.mem_cons_self ..
  obj := fun i h st b hb => by
    obtain ⟨⟨old, he⟩, ⟨o, ho, _, hd⟩, _⟩ := st
    rcases List.mem_cons.mp hb with rfl | hb
    · exact ⟨_, he, fun v q => nomatch q⟩
    · rw [List.mem_singleton.mp hb]
      exact ⟨o, ho, fun v q => by rw [hd] at q; cases q⟩
  keep := fun i h h' st k => by
    obtain ⟨⟨old, he⟩, hi, hne⟩ := st
    exact ⟨⟨old, k e (by simp) _ he⟩, hi.at fun o q => k it (by simp) o q, hne⟩
  item := by
    intro X hP hw hK hc i pins s σ H E I hfree st hgo
    subst hP hw hK
    obtain ⟨⟨old, he⟩, hit, hne⟩ := st
    obtain ⟨xs, x, hq, hx⟩ := hgo
    obtain ⟨its, rv, p, hz⟩ := I.list hq
    obtain ⟨u, hu, ru⟩ := rv.get hx
    have hel : e < s.heap.objs.size := Heap.lt_size he
    have hil : it < s.heap.objs.size := by obtain ⟨_, q, _⟩ := hit; exact Heap.lt_size q
    have lt : i < its.toArray.size := by
      have z := (List.getElem?_eq_some_iff.mp hu).1
      rw [List.size_toArray]; exact z
    refine wpAny_pyNext_enum_itemC (Draws.list (A := X.A.in1) (I.ok.hd hc) it a hne.2.1 its.toArray) he ⟨hit, p.isList⟩ lt hne.1 (by simpa using ⟨hne.1, fun z => hne.2.2 z.symm⟩) fun v h' tk hv ho hit' hT hsz hk => ?_
    have ev : v = u := by
      have z : its[i]? = some v := by simpa using hv
      exact Option.some.inj (z.symm.trans hu)
    subst ev
    refine ⟨_, rfl, wpAny_letOwnedTupleGo_enum (s := { s with heap := h', toks := tk + 1 }) ho fun h2 he' sb => ?_⟩
    have hT2 : h2.get? s.heap.objs.size = some { cls := .type "tuple", data := .seq #[.int (k0 + (i : Nat)) tk, v] } := (sb.2 _ (Nat.ne_of_gt hel)).trans hT
    have new : ObjOk X.prog X.w (upd H s.heap.objs.size (.tup [.int (k0 + (i : Nat)), x])) h2 s.heap.objs.size (.tup [.int (k0 + (i : Nat)), x]) :=
      ⟨by show 2 ≤ sizeLine; decide, [.int (k0 + (i : Nat)) tk, v], .cons ⟨_, rfl⟩ (.cons ru .nil), ⟨_, hT2, rfl, _, rfl⟩⟩
    have I1 : Inv X pins σ (upd H s.heap.objs.size (.tup [.int (k0 + (i : Nat)), x])) { s with heap := h2, toks := tk + 1 } :=
      I.turnedNew (ch := [e, it]) (fun b ob hb q => by
        have n1 : b ≠ e := fun z => hb (by simp [z])
        have n2 : b ≠ it := fun z => hb (by simp [z])
        exact (sb.2 b n1).trans (hk b ob n1 n2 q)) hfree (Nat.le_refl _) new
    refine ⟨.ref s.heap.objs.size, _, I1, rfl, ⟨_, x, rfl, I.hok.fresh (Nat.le_refl _), rfl, fun ys hy => by rw [I.list_inj hy hq]; exact hx⟩, ⟨⟨v, ?_⟩, hit'.1.at fun o q => (sb.2 it (Ne.symm hne.1)).trans q, hne⟩, fun b hb => ?_⟩
    · have e1 : k0 + ((i + 1 : Nat) : Int) = k0 + (i : Nat) + 1 := by omega
      rw [e1]; exact he'
    · have hb' : b < s.heap.objs.size := by
        rcases List.mem_cons.mp hb with rfl | hb
        · exact hel
        · rw [List.mem_singleton.mp hb]; exact hil
      rw [upd_ne (Nat.ne_of_lt hb')]
      exact (hfree b hb).1
  done := by
    intro X hP hw hK hc i pins s σ H E I hfree st hst
    subst hP hw hK
    obtain ⟨⟨old, he⟩, hit, hne⟩ := st
    obtain ⟨xs, hq, hx⟩ := hst
    obtain ⟨its, rv, p, hz⟩ := I.list hq
    obtain ⟨f0, f1, f2, f3, f4, f5⟩ := hfree it (by simp)
    have hl := rv.length
    have hsz : its.toArray.size = i := by rw [List.size_toArray, ← hl]; exact hx
    subst hsz
    exact wpAny_pyNext_enum_endD (Draws.list (A := X.A.in1) (I.ok.hd hc) it a hne.2.1 its.toArray) he ⟨hit, p.isList⟩ fun h' eb => ⟨rfl, I.turned (t' := s.toks) (fun b o hb q => eb b o hb q) f0 f1 f3 f4 f5⟩
  self := fun A i s Q E st h => by
    obtain ⟨⟨old, he⟩, _⟩ := st
    exact wpAny_pyIter_enum he h
theorem walkQT {K : PySem.W.Frag} {a : Addr} {k0 : Int} {xs : List V} : Walk (ItqT K k0 a) xs.length (fun H => SqT K H a xs) (fun i H v H' => ∃ T x, v = .ref T ∧ H T = none ∧ H' = upd H T (.tup [.int (k0 + (i : Nat)), x]) ∧ xs[i]? = some x) := by
  refine ⟨fun i _ hi q => ⟨xs, xs[i], q, by simp [hi]⟩, fun _ q => ⟨xs, q, rfl⟩, fun i H v H' _ q y => ?_⟩
  obtain ⟨T, x, h1, h2, h3, h4⟩ := y
  exact ⟨T, x, h1, h2, h3, h4 xs q⟩
theorem walkQL {K : PySem.W.Frag} {a : Addr} {k0 : Int} {xs : List V} : Walk (ItqL K k0 a) xs.length (fun H => SqL K H a xs) (fun i H v H' => ∃ T x, v = .ref T ∧ H T = none ∧ H' = upd H T (.tup [.int (k0 + (i : Nat)), x]) ∧ xs[i]? = some x) := by
  refine ⟨fun i _ hi q => ⟨xs, xs[i], q, by simp [hi]⟩, fun _ q => ⟨xs, q, rfl⟩, fun i H v H' _ q y => ?_⟩
  obtain ⟨T, x, h1, h2, h3, h4⟩ := y
  exact ⟨T, x, h1, h2, h3, h4 xs q⟩
/-- enumerate(tuple) -/
def iEnumT (K : PySem.W.Frag) (ta : TA) : TI := fun σ H R => ta σ H fun vs H1 => ∃ a xs, vs = [.ref a] ∧ SqT K H1 a xs ∧ R (ItqT K 0 a) H1
theorem pi_enumT {X : Cx} {e : Expr} {ta : TA} {p pos tpos : Pos} {elts : List Expr} {kk : Nat} (hg : Gl X "enumerate") (hm : X.mg "enumerate" = none) (ha : PA X [e] ta) (hs : starEach [e] X.env = [(false, eval e X.env)] := by rfl) :
    PI X (.Tuple elts kk tpos) (.Call (.Name "enumerate" p) [e] [] pos) (iEnumT X.K ta) := by
  refine ⟨fun pins s σ H R I h => Call_ (ld_blt I hg hm boot_enumerate (PyProof.Rows.callWith_type1 (thn (ha.run pos pins s σ H _ I h) fun us s1 ⟨vs, H1, I1, r1, a, xs, ex, hq, q⟩ => ?_) hs rfl))⟩
  subst ex
  obtain ⟨u, rfl, ru⟩ := vals1 r1
  cases ru
  obtain ⟨its, rv, p', hz⟩ := I1.tuple hq
  have la : a < s1.heap.objs.size := by obtain ⟨_, z, _⟩ := p'; exact Heap.lt_size z
  refine enum_begins1 (begins_tuple a its.toArray) p' fun h' he hit hk => wpAny_pyIter_enum he ?_
  have I2 : Inv X pins σ H1 { s1 with heap := h' } := I1.kept (t' := s1.toks) hk
  refine ⟨s1.heap.objs.size + 1, [s1.heap.objs.size + 1, s1.heap.objs.size], _, _, H1, rfl, I2, turnQT 0 a (s1.heap.objs.size + 1) s1.heap.objs.size, ⟨⟨.none, he⟩, ⟨_, hit, rfl, rfl⟩, Nat.succ_ne_self _, Nat.ne_of_lt la, Nat.ne_of_lt (Nat.lt_succ_of_lt la)⟩, fun b hb => ?_, q⟩
  have hle : s1.heap.objs.size ≤ b := by
    rcases List.mem_cons.mp hb with rfl | z
    · exact Nat.le_succ _
    · rw [List.mem_singleton.mp z]; exact Nat.le_refl _
  exact I1.fpOk hle (I1.hok.fresh hle)
end L2
set_option Elab.async false
set_option linter.all false
set_option maxRecDepth 100000
set_option maxHeartbeats 4000000
/-! enumerate(list, start=k) -/
namespace L2
open PySem PySem.Spec PyProof.Rows
theorem cw_typeKw {M : Model} {A : Around} {E : Value → Shared → Prop} {s : Shared} {env : Env} {pos : Pos} {T : String} {e : Expr} {es : List Expr} {kws : List Keyword} {Q : Value → Shared → Prop} (hall : (backToKw pos (keywordEach kws env)).all (·.1.isSome) = true)
    (h : wpAny M A (spliced (backTo pos (starEach (e :: es) env))) (fun vs s1 => wpAny M A (evalAll ((backToKw pos (keywordEach kws env)).map (·.2))) (fun ks s2 => wpAny M A (call (.type T) vs (((backToKw pos (keywordEach kws env)).filterMap (·.1)).zip ks)) Q E s2) E s1) E s)
    (hpl : ((backTo pos (starEach (e :: es) env)).any (·.1) || (backToKw pos (keywordEach kws env)).any (·.1.isNone)) = false) (he : starEach (e :: es) env = (false, eval e env) :: starEach es env) :
    wpAny M A (callWith pos (.type T) [] (backTo pos (starEach (e :: es) env)) (backToKw pos (keywordEach kws env))) Q E s := by
  unfold callWith
  refine wpAny_bind (wpAny_holding (wpAny_mono (PyProof.Rows.evalArgs_kw2 (Q := fun a s1 => wpAny M A (call (.type T) a.pos a.kw) Q E s1) hall h he) (fun a s1 h1 => wpAny_bind (wpAny_standAt ?_)) fun _ _ z => z))
  simp only [hpl]
  refine wpAny_bind (wpAny_pure ?_)
  exact wpAny_bind (wpAny_mono h1 (fun r s2 hr => wpAny_bind (wpAny_holding (wpAny_point (wpAny_pure hr)))) fun _ _ z => z)
/-- enumerate(list, start=k), k written -/
def iEnumL (K : PySem.W.Frag) (k0 : Int) (ta : TA) : TI := fun σ H R => ta σ H fun vs H1 => ∃ a xs, vs = [.ref a] ∧ SqL K H1 a xs ∧ R (ItqL K k0 a) H1
theorem pi_enumL {X : Cx} {e : Expr} {ta : TA} {p pos tpos kp cp : Pos} {elts : List Expr} {kk j : Nat} {k0 : Int} (hg : Gl X "enumerate") (hm : X.mg "enumerate" = none) (ha : PA X [e] ta) (hk : 0 ≤ k0 ∧ k0 < 1000)
    (hall : (backToKw pos (keywordEach [⟨some "start", .Constant (.int k0) j cp, kp⟩] X.env)).all (·.1.isSome) = true := by rfl) (hks : (backToKw pos (keywordEach [⟨some "start", .Constant (.int k0) j cp, kp⟩] X.env)).filterMap (·.1) = [("start" : Str)] := by rfl)
    (hpl : ((backTo pos (starEach [e] X.env)).any (·.1) || (backToKw pos (keywordEach [⟨some "start", .Constant (.int k0) j cp, kp⟩] X.env)).any (·.1.isNone)) = false := by rfl) (he : starEach [e] X.env = (false, eval e X.env) :: starEach [] X.env := by rfl) :
    PI X (.Tuple elts kk tpos) (.Call (.Name "enumerate" p) [e] [⟨some "start", .Constant (.int k0) j cp, kp⟩] pos) (iEnumL X.K k0 ta) := by
  refine ⟨fun pins s σ H R I h => wpAny_Call_Name_kw (ld_blt I hg hm boot_enumerate (cw_typeKw hall (thn (ha.run pos pins s σ H _ I h) fun us s1 ⟨vs, H1, I1, r1, a, xs, ex, hq, q⟩ => ?_) hpl he))⟩
  subst ex
  obtain ⟨u, rfl, ru⟩ := vals1 r1
  cases ru
  have kw : PK X [⟨some "start", .Constant (.int k0) j cp, kp⟩] (tCons (tC (.int k0)) tNil) := pk_cons pe_int pk_nil
  refine thn (kw.run pos pins s1 σ H1 (fun vs H2 => vs = [.int k0] ∧ H2 = H1) I1 ⟨rfl, rfl⟩) fun ws s2 ⟨zs, H2, I2, rz, ez, eH⟩ => ?_
  subst ez
  subst eH
  obtain ⟨w1, rfl, t, rfl⟩ := vals1 rz
  rw [hks]
  obtain ⟨its, rv, p', hz⟩ := I2.list hq
  have la : a < s2.heap.objs.size := by obtain ⟨_, z, _⟩ := p'.isList; exact Heap.lt_size z
  refine enum_begins_start (begins_list a its.toArray) p'.isList (by omega) (by omega) fun h' he hit hsz hk' => wpAny_pyIter_enum he ?_
  have I3 : Inv X pins σ H2 { s2 with heap := h' } := I2.kept (t' := s2.toks) hk'
  refine ⟨s2.heap.objs.size + 1, [s2.heap.objs.size + 1, s2.heap.objs.size], _, _, H2, rfl, I3, turnQL k0 a (s2.heap.objs.size + 1) s2.heap.objs.size, ⟨⟨.none, ?_⟩, ⟨_, hit, rfl, rfl⟩, Nat.succ_ne_self _, Nat.ne_of_lt la, Nat.ne_of_lt (Nat.lt_succ_of_lt la)⟩, fun b hb => ?_, q⟩
  · have e0 : k0 + ((0 : Nat) : Int) = k0 := by omega
    rw [e0]
    exact he
  · have hle : s2.heap.objs.size ≤ b := by
      rcases List.mem_cons.mp hb with rfl | z
      · exact Nat.le_succ _
      · rw [List.mem_singleton.mp z]; exact Nat.le_refl _
    exact I2.fpOk hle (I2.hok.fresh hle)
end L2
set_option Elab.async false
set_option linter.all false
set_option maxRecDepth 100000
set_option maxHeartbeats 4000000
/-! flat lists as data: xs == [], xs != [] -/
namespace L2
open PySem PySem.Spec PyProof.Rows
def flatD : V → PyData
  | .bl b => .bool b
  | .int i => .int i
  | .str x => .str x
  | _ => .none
def okV : V → Bool
  | .str x => PyData.strOk x
  | .non => true
  | .bl _ => true
  | .int _ => true
  | _ => false
theorem okV_flat {v : V} (h : okV v = true) : flatV v = true := by
  cases v <;> first | rfl | cases h
theorem okV_all {xs : List V} (h : xs.all okV = true) : xs.all flatV = true := by
  rw [List.all_eq_true] at h ⊢
  exact fun x hx => okV_flat (h x hx)
theorem flatD_dp {K : PySem.W.Frag} {H : Hp} {v : V} (h : flatV v = true) : Dp K H v (flatD v) := by
  cases v <;> first | exact .non | exact .bl _ | exact .int _ | exact .str _ | cases h
theorem flatD_all {K : PySem.W.Frag} {H : Hp} : ∀ {xs : List V}, xs.all flatV = true → DpAll K H xs (xs.map flatD)
  | [], _ => .nil
  | x :: xs, h => by
    rw [List.all_cons, Bool.and_eq_true] at h
    exact .cons (flatD_dp h.1) (flatD_all h.2)
theorem flatD_lay {v : V} (h : okV v = true) : (flatD v).canLay0 = true ∧ (flatD v).depth = 0 ∧ (flatD v).hasDict = false := by
  cases v <;> first | exact ⟨h, rfl, rfl⟩ | exact ⟨rfl, rfl, rfl⟩ | cases h
theorem flatD_layAll : ∀ {xs : List V}, xs.all okV = true → PyData.canLayAll0 (xs.map flatD) = true ∧ PyData.depthAll (xs.map flatD) = 0 ∧ PyData.hasDictAll (xs.map flatD) = false
  | [], _ => ⟨rfl, rfl, rfl⟩
  | x :: xs, h => by
    rw [List.all_cons, Bool.and_eq_true] at h
    obtain ⟨h1, h2, h3⟩ := flatD_layAll h.2
    obtain ⟨q1, q2, q3⟩ := flatD_lay h.1
    refine ⟨?_, ?_, ?_⟩
    · simp only [List.map_cons, PyData.canLayAll0, h1, q1, Bool.and_self]
    · simp only [List.map_cons, PyData.depthAll, h2, q2, Nat.max_self]
    · simp only [List.map_cons, PyData.hasDictAll, h3, q3, Bool.or_self]
theorem shaped_flat {xs : List V} (h : xs.all okV = true) : SeqAt.shaped (.list (xs.map flatD)) = true := by
  obtain ⟨h1, h2, _⟩ := flatD_layAll h
  unfold SeqAt.shaped
  simp only [PyData.canLay0, PyData.depth, h1, h2]
  decide
theorem eqv_nil (xs : List V) : PyData.eqv (.list (xs.map flatD)) (.list []) = xs.isEmpty := by
  cases xs with
  | nil => simp [PyData.eqv, PyData.eqvAll]
  | cons x r => simp [PyData.eqv, PyData.eqvAll]
theorem rEq_nil {K : PySem.W.Frag} {H : Hp} {p q : Addr} {xs : List V} {Q : VK} (hx : SqL K H p xs) (hf : xs.all okV = true) (hq : H q = some (.lst [])) (h : Q (.bl xs.isEmpty) H) : rEqD K (.ref p) (.ref q) H Q :=
  ⟨_, _, .lst hx (flatD_all (okV_all hf)), .lst (SqL.of hq) .nil, shaped_flat hf, by decide, by rw [eqv_nil]; exact h⟩
theorem rNe_nil {K : PySem.W.Frag} {H : Hp} {p q : Addr} {xs : List V} {Q : VK} (hx : SqL K H p xs) (hf : xs.all okV = true) (hq : H q = some (.lst [])) (h : Q (.bl (!xs.isEmpty)) H) : rNeD K (.ref p) (.ref q) H Q :=
  ⟨_, _, .lst hx (flatD_all (okV_all hf)), .lst (SqL.of hq) .nil, shaped_flat hf, by decide, by rw [eqv_nil]; exact h⟩
end L2
set_option Elab.async false
set_option linter.all false
set_option maxRecDepth 100000
set_option maxHeartbeats 4000000
/-! a token is out: behind a join of a written text; text times number; codes of a replaced text -/
namespace L2
open PySem PySem.Spec PyProof.Rows CwR
def PEI (X : Cx) (e : Expr) (t : TE) : Prop :=
  ∀ (pins : List (Addr × Obj)) (s : Shared) (σ : St) (H : Hp) (Q : VK), Inv X pins σ H s → t σ H Q → wpAny (model X.prog X.w) X.A (eval e X.env) (fun v s' => 1 ≤ s'.toks ∧ EP X pins σ Q v s') X.xe s
def PTT (X : Cx) (e : Expr) (t : TT) : Prop :=
  ∀ (pins : List (Addr × Obj)) (s : Shared) (σ : St) (H : Hp) (Q : Bool → Hp → Prop), 1 ≤ s.toks → Inv X pins σ H s → t σ H Q → wpAny (model X.prog X.w) X.A (isTrue e X.env (eval e X.env)) (TP X pins σ Q) X.xe s
def PWT (X : Cx) (e : Expr) (t : TT) : Prop :=
  ∀ (whole : Sem Value) (pins : List (Addr × Obj)) (s : Shared) (σ : St) (H : Hp) (Q : Bool → Hp → Prop), 1 ≤ s.toks → Inv X pins σ H s → t σ H Q → wpAny (model X.prog X.w) X.A (isTrue e X.env whole) (TP X pins σ Q) X.xe s
section
variable {X : Cx} {a b : Expr} {rest : List Expr} {tA tB' : TT} {pos : Pos}
theorem PTT.of (h : PT X a tA) : PTT X a tA := fun pins s σ H Q _ I q => h.run pins s σ H Q I q
theorem PWT.pt (h : PWT X a tA) : PTT X a tA := fun pins s σ H Q h0 I q => h _ pins s σ H Q h0 I q
theorem pwt_or1 (ha : PTT X a tA) : PWT X (.BoolOp .Or [a] pos) tA := by
  intro wh pins s σ H Q h0 I h
  refine isTrue_or (thn (ha pins s σ H Q h0 I h) fun c s1 e => ?_)
  cases c with
  | false => exact isTrue_or_nil e
  | true => exact e
theorem pwt_or (ha : PTT X a tA) (hb : PWT X (.BoolOp .Or (b :: rest) pos) tB') : PWT X (.BoolOp .Or (a :: b :: rest) pos) (tOr tA tB') := by
  intro wh pins s σ H Q h0 I h
  refine isTrue_or (wpAny_mono (PySem.wpAny_toks (ha pins s σ H _ h0 I h)) (fun c s1 q => ?_) fun _ _ z => z.2)
  obtain ⟨hk, H1, I1, q1⟩ := q
  cases c with
  | true => exact ⟨H1, I1, q1⟩
  | false => exact hb wh pins s1 σ H1 Q (Nat.le_trans h0 hk) I1 q1
theorem ptt_not (ha : PTT X a tA) : PTT X (.UnaryOp .Not a pos) (tNot tA) := by
  intro pins s σ H Q h0 I h
  exact isTrue_not (ha pins s σ H (fun c H1 => Q (!c) H1) h0 I h)
theorem ptt_val {e : Expr} {t : TE} (h : PET X e t) (he : ∀ whole, isTrue e X.env whole = (do let v ← whole; standAt e.pos; holding [v] (truthy v)) := by intro _; rfl) : PTT X e (tB t) := by
  intro pins s σ H Q h0 I hw
  refine isTrue_plain (thn (h pins s σ H _ h0 I hw) fun v s1 ⟨x, H1, I1, r1, q1⟩ => ?_) (he _)
  obtain ⟨d, rfl, q⟩ := q1
  cases r1
  exact wpAny_truthy_bool ⟨H1, I1, q⟩
theorem pst_ifT {c : Expr} {a b : List Stmt} {tc : TT} {t u : TS} (hc : PTT X c tc) (ha : PSsT X a t) (hb : PSsT X b u) : PST X (.If c a b pos) (tIfS tc t u) := by
  intro pins s σ H D h0 I h
  refine wpAny_If (wpAny_mono (PySem.wpAny_toks (hc pins s σ H _ h0 I h)) (fun d s1 q => ?_) fun _ _ z => z.2)
  obtain ⟨hk, H1, I1, q1⟩ := q
  cases d with
  | true => exact ha pins s1 σ H1 D (Nat.le_trans h0 hk) I1 q1
  | false => exact hb pins s1 σ H1 D (Nat.le_trans h0 hk) I1 q1
/-- a call of the package's or the law's own functions, its arguments by tokens -/
theorem pet_callG {k : Nat} {f : Addr} {fd : FuncData} {ps : List Str} {sp : Sp} {dvs : List V} {ds : List Value} {E : St → XK} {x : Str} {p : Pos} {e : Expr} {es : List Expr} {t : TA}
    (F : FnG X.prog X.w X.K X.mg X.base k f fd ps sp) (hr : Room k X.A) (hgd : X.A.guards = some []) (hg : Gl X x) (hm : X.mg x = some (.ref f)) (hk : PySem.W.keepIn X.K (.ref f) = true) (hb : Binds X.K fd ps ds) (hd : Vals dvs ds)
    (hx : ∀ σ, PassesAt (L2.CX X.prog X.w) X σ (E σ)) (ha : PAT X (e :: es) t) (hdb : (x == ("__debug__" : Str)) = false := by decide) (he : starEach (e :: es) X.env = (false, eval e X.env) :: starEach es X.env := by rfl)
    (hpl : (backTo pos (starEach es X.env)).any (·.1) = false := by rfl) : PET X (.Call (.Name x p) (e :: es) [] pos) (tCallG sp dvs E t) :=
  fun pins s σ H Q h0 I h => wpAny_Call_Name_kw (ld_glob I hg hm (PySem.W.callWith_K (h₀ := X.base) I.ok.mod.kin hk (thn (ha pos pins s σ H _ h0 I h) fun us s1 ⟨vs, H1, I1, r, q⟩ => ⟨I1.kIn, callG_at F hr hgd hb hd (hx σ) I1 r q⟩) he hpl) hdb)
/-- 'c'.join(e): behind it a token is out -/
theorem pei_join {c : Str} {j : Nat} {cpos apos : Pos} {e : Expr} {te : TE} (he : PE X e te) (hs : starEach [e] X.env = [(false, eval e X.env)] := by rfl) (hbase : attributeBase (.Constant (.str c) j cpos) "join" X.env (eval (.Constant (.str c) j cpos) X.env) = eval (.Constant (.str c) j cpos) X.env := by rfl)
    (hline : (apos.endLine == pos.line) = true := by rfl) :
    PEI X (.Call (.Attribute (.Constant (.str c) j cpos) "join" apos) [e] [] pos) (tM1 (fun x xs H Q => ∃ a p, ∃ ys : List Str, x = .str a ∧ xs = [.ref p] ∧ (SqL X.K H p (ys.map V.str) ∨ SqT X.K H p (ys.map V.str)) ∧
      (ys.map (·.length)).sum + ys.length * a.length ≤ 16777216 ∧ Q (.str (Txt.join a ys)) H) (tC (.str c)) te) := by
  intro pins s σ H Q I h
  obtain ⟨_, q1⟩ := h
  refine PySem.Call_method1 hbase hs hline (Calls.Constant_str ?_)
  refine ⟨"str", _, F.plainAttrs_str, F.slot_str_join, F.type_str_join, typeIs_str _ _ _, (fun _ e => nomatch e), Calls.callWith_builtin rfl (Calls.evalArgs_plain (Calls.spliced_cons ?_))⟩
  refine wpAny_mono (PySem.wpAny_toks (he.run pins _ σ H _ (I.tok (s.toks + 1)) q1)) (fun u s2 q => ?_) fun _ _ z => z.2
  obtain ⟨hk, y, H2, I2, r2, q2⟩ := q
  have hk' : s.toks + 1 ≤ s2.toks := hk
  refine Calls.spliced_nil (wpAny_mono (PySem.wpAny_toks (mt_join pins s2 σ H2 (.str c) [y] _ [u] Q I2 ⟨s.toks, rfl⟩ (.cons r2 .nil) q2)) (fun v s3 q => ?_) fun _ _ z => z.2)
  exact ⟨Nat.le_trans (by omega) q.1, q.2⟩
theorem pss_setI {i : Nat} {x : Str} {e : Expr} {te : TE} {rest : List Stmt} {u : TS} {pos' : Pos} (hN : X.N.Nodup) (hi : X.N[i]? = some x) (hx : Loc X.env.scope x) (he : PEI X e te) (h2 : PSsT X rest u)
    (hs : swapsWith e (some (.Name x pos')) pos.line X.env = pure false := by rfl) (hf : X.fn x = true ∨ X.env.scope.names.lookup x = some .local := by first | exact .inl rfl | exact .inr rfl | assumption) :
    PSs X (.Assign [.Name x pos'] e pos :: rest) (tSeq (tAsg te (gName i)) u) := by
  refine ⟨fun pins s σ H D I h => ?_⟩
  refine wpAny_execs_cons (wpAny_Assign_Name (thn (he pins s σ H _ I h) fun v s1 q => ?_) hs)
  obtain ⟨hk, y, H1, I1, r1, q1⟩ := q
  refine wpAny_mono (PySem.wpAny_toks (store_ok (Q := fun _ s2 => Inv X pins (σ.set i (some y)) H1 s2) I1 hN hi hx r1 (fun _ I2 => I2) hf)) (fun _ s2 q => ?_) fun _ _ z => z.2
  exact h2 pins s2 _ H1 D (Nat.le_trans hk q.1) q.2 q1
end
/-- text times number -/
def rMulS : R2 := fun x y H Q => ∃ z n, x = .str z ∧ y = .int n ∧ MulOk z n ∧ Q (.str (Txt.mul z n)) H
theorem op_mulS {X : Cx} : OpR X (binaryOp .Mult) rMulS := by
  intro pins s σ H x y v u Q I rx ry h
  obtain ⟨z, n, rfl, rfl, hok, q⟩ := h
  obtain ⟨t, rfl⟩ := rx
  obtain ⟨t2, rfl⟩ := ry
  exact PySem.SB.mul hok fun t' k => ⟨.str (Txt.mul z n), H, I.tok k, ⟨t', rfl⟩, q⟩
theorem replS_mem {y z : List Nat} {c : Nat} : ∀ (n : Nat) (l : List Nat), c ∈ PySem.StrLaws.replS y z n l → c ∈ l ∨ c ∈ z
  | n, [], h => by
    rw [PySem.StrLaws.replS] at h
    cases h
  | 0, a :: r, h => by
    rw [PySem.StrLaws.replS] at h
    split at h
    · rcases List.mem_append.mp h with h | h
      · exact .inr h
      · exact (replS_mem _ r h).imp (List.mem_cons_of_mem _) _root_.id
    · rcases List.mem_cons.mp h with h | h
      · rw [h]; exact .inl List.mem_cons_self
      · exact (replS_mem _ r h).imp (List.mem_cons_of_mem _) _root_.id
  | n + 1, a :: r, h => by
    rw [PySem.StrLaws.replS] at h
    exact (replS_mem n r h).imp (List.mem_cons_of_mem _) _root_.id
theorem replace_mem {x y z : Str} (hy : 1 ≤ y.length) {c : Nat} (h : c ∈ (Txt.replace x y z).cps.toList) : c ∈ x.cps.toList ∨ c ∈ z.cps.toList := by
  rw [PySem.StrLaws.replace_list hy] at h
  exact replS_mem 0 _ h
end L2
set_option Elab.async false
set_option linter.all false
set_option maxRecDepth 100000
set_option maxHeartbeats 4000000
/-! data by trees: what a value stands for, whatever the addresses -/
namespace DL
open PySem PySem.Spec L2
open PySem.W (Frag)

inductive D where
  | non | bl (b : Bool) | int (i : Int) | str (x : Str)
  | lst (ds : List D) | tup (ds : List D) | dct (kvs : List (Key × D)) | obj (c : String) (fs : List (Str × D)) | dk | cls (c : String) | shw (p : PyData)

/-- where own classes stand -/
structure G where
  K : Frag
  cl : String → Addr
  own : List String
  dk : Addr

/-- a text that can be: not too long, its signs are signs -/
def SOk (x : Str) : Prop := x.length ≤ sizeLine ∧ PyData.strOk x = true
mutual
/-- v stands for d, by the objects of F -/
inductive Rep (g : G) (F : Hp) : V → D → Prop
  | non : Rep g F .non .non
  | bl (b : Bool) : Rep g F (.bl b) (.bl b)
  | int (i : Int) : Rep g F (.int i) (.int i)
  | str {x : Str} (h : SOk x) : Rep g F (.str x) (.str x)
  | lst {a : Addr} {vs : List V} {ds : List D} (e : F a = some (.lst vs)) (r : RepAll g F vs ds) : Rep g F (.ref a) (.lst ds)
  | tup {a : Addr} {vs : List V} {ds : List D} (e : SqT g.K F a vs) (r : RepAll g F vs ds) : Rep g F (.ref a) (.tup ds)
  | dct {a : Addr} {kvs : List (Key × V)} {ds : List (Key × D)} (e : F a = some (.dK kvs)) (r : RepKv g F kvs ds) : Rep g F (.ref a) (.dct ds)
  | obj {a dx : Addr} {c : String} {fs : List (Str × V)} {ds : List (Str × D)} (hc : c ∈ g.own) (e : F a = some (.ins (g.cl c) dx fs)) (r : RepFs g F fs ds) : Rep g F (.ref a) (.obj c ds)
  | dk : Rep g F (.ref g.dk) .dk
  | cls (c : String) : Rep g F (.ref (g.cl c)) (.cls c)
  | shw (p : PyData) : Rep g F (.str p.shown) (.shw p)
inductive RepAll (g : G) (F : Hp) : List V → List D → Prop
  | nil : RepAll g F [] []
  | cons {v : V} {vs : List V} {d : D} {ds : List D} (r : Rep g F v d) (rs : RepAll g F vs ds) : RepAll g F (v :: vs) (d :: ds)
inductive RepKv (g : G) (F : Hp) : List (Key × V) → List (Key × D) → Prop
  | nil : RepKv g F [] []
  | cons {k : Key} {v : V} {vs : List (Key × V)} {d : D} {ds : List (Key × D)} (r : Rep g F v d) (rs : RepKv g F vs ds) : RepKv g F ((k, v) :: vs) ((k, d) :: ds)
inductive RepFs (g : G) (F : Hp) : List (Str × V) → List (Str × D) → Prop
  | nil : RepFs g F [] []
  | cons {k : Str} {v : V} {vs : List (Str × V)} {d : D} {ds : List (Str × D)} (r : Rep g F v d) (rs : RepFs g F vs ds) : RepFs g F ((k, v) :: vs) ((k, d) :: ds)
end
section
variable {g : G} {F F' : Hp}
mutual
theorem Rep.same (e : Same F F') : ∀ {v : V} {d : D}, Rep g F v d → Rep g F' v d
  | _, _, .non => .non
  | _, _, .bl b => .bl b
  | _, _, .int i => .int i
  | _, _, .str h => .str h
  | _, _, .lst h r => .lst (e _ _ h) (RepAll.same e r)
  | _, _, .tup h r => .tup (e.seqT h) (RepAll.same e r)
  | _, _, .dct h r => .dct (e _ _ h) (RepKv.same e r)
  | _, _, .obj hc h r => .obj hc (e _ _ h) (RepFs.same e r)
  | _, _, .dk => .dk
  | _, _, .cls c => .cls c
  | _, _, .shw p => .shw p
theorem RepAll.same (e : Same F F') : ∀ {vs : List V} {ds : List D}, RepAll g F vs ds → RepAll g F' vs ds
  | _, _, .nil => .nil
  | _, _, .cons h r => .cons (Rep.same e h) (RepAll.same e r)
theorem RepKv.same (e : Same F F') : ∀ {vs : List (Key × V)} {ds : List (Key × D)}, RepKv g F vs ds → RepKv g F' vs ds
  | _, _, .nil => .nil
  | _, _, .cons h r => .cons (Rep.same e h) (RepKv.same e r)
theorem RepFs.same (e : Same F F') : ∀ {vs : List (Str × V)} {ds : List (Str × D)}, RepFs g F vs ds → RepFs g F' vs ds
  | _, _, .nil => .nil
  | _, _, .cons h r => .cons (Rep.same e h) (RepFs.same e r)
end
theorem RepAll.length : ∀ {vs : List V} {ds : List D}, RepAll g F vs ds → vs.length = ds.length
  | _, _, .nil => rfl
  | _, _, .cons _ r => by rw [List.length_cons, List.length_cons, RepAll.length r]
theorem RepAll.app : ∀ {vs ws : List V} {ds es : List D}, RepAll g F vs ds → RepAll g F ws es → RepAll g F (vs ++ ws) (ds ++ es)
  | _, _, _, _, .nil, s => s
  | _, _, _, _, .cons h r, s => .cons h (RepAll.app r s)
theorem RepAll.get : ∀ {vs : List V} {ds : List D} {i : Nat} {d : D}, RepAll g F vs ds → ds[i]? = some d → ∃ v, vs[i]? = some v ∧ Rep g F v d
  | _, _, _, _, .nil, e => by simp at e
  | _, _, 0, _, .cons r _, e => by simp at e; subst e; exact ⟨_, rfl, r⟩
  | _, _, i + 1, x, .cons _ t, e => by
    obtain ⟨u, h1, h2⟩ := RepAll.get (i := i) (d := x) t (by simpa using e)
    exact ⟨u, by simpa using h1, h2⟩
theorem RepAll.get' : ∀ {vs : List V} {ds : List D} {i : Nat} {v : V}, RepAll g F vs ds → vs[i]? = some v → ∃ d, ds[i]? = some d ∧ Rep g F v d
  | _, _, _, _, .nil, e => by simp at e
  | _, _, 0, _, .cons r _, e => by simp at e; subst e; exact ⟨_, rfl, r⟩
  | _, _, i + 1, x, .cons _ t, e => by
    obtain ⟨u, h1, h2⟩ := RepAll.get' (i := i) (v := x) t (by simpa using e)
    exact ⟨u, by simpa using h1, h2⟩
theorem RepAll.take : ∀ {vs : List V} {ds : List D} (n : Nat), RepAll g F vs ds → RepAll g F (vs.take n) (ds.take n)
  | _, _, 0, _ => .nil
  | _, _, _ + 1, .nil => .nil
  | _, _, n + 1, .cons r t => .cons r (RepAll.take n t)
theorem RepAll.drop : ∀ {vs : List V} {ds : List D} (n : Nat), RepAll g F vs ds → RepAll g F (vs.drop n) (ds.drop n)
  | _, _, 0, r => r
  | _, _, _ + 1, .nil => .nil
  | _, _, n + 1, .cons _ t => RepAll.drop n t
theorem RepAll.rev : ∀ {vs : List V} {ds : List D}, RepAll g F vs ds → RepAll g F vs.reverse ds.reverse
  | _, _, .nil => .nil
  | _, _, .cons r t => by rw [List.reverse_cons, List.reverse_cons]; exact (RepAll.rev t).app (.cons r .nil)
theorem RepFs.lookup {k : Str} {d : D} : ∀ {vs : List (Str × V)} {ds : List (Str × D)}, RepFs g F vs ds → ds.lookup k = some d → ∃ v, vs.lookup k = some v ∧ Rep g F v d
  | _, _, .nil, e => by cases e
  | _, _, .cons (k := k') r t, e => by
    rw [List.lookup_cons] at e ⊢
    cases hb : k == k' with
    | true => rw [hb] at e; simp only [cond_true] at e ⊢; cases e; exact ⟨_, rfl, r⟩
    | false => rw [hb] at e; simp only [cond_false] at e ⊢; exact RepFs.lookup t e
theorem RepFs.lookupN {k : Str} : ∀ {vs : List (Str × V)} {ds : List (Str × D)}, RepFs g F vs ds → ds.lookup k = none → vs.lookup k = none
  | _, _, .nil, e => rfl
  | _, _, .cons (k := k') r t, e => by
    rw [List.lookup_cons] at e ⊢
    cases hb : k == k' with
    | true => rw [hb] at e; cases e
    | false => rw [hb] at e; simp only [cond_false] at e ⊢; exact RepFs.lookupN t e
theorem RepKv.lookup {k : Key} {d : D} : ∀ {vs : List (Key × V)} {ds : List (Key × D)}, RepKv g F vs ds → ds.lookup k = some d → ∃ v, vs.lookup k = some v ∧ Rep g F v d
  | _, _, .nil, e => by cases e
  | _, _, .cons (k := k') r t, e => by
    rw [List.lookup_cons] at e ⊢
    cases hb : k == k' with
    | true => rw [hb] at e; simp only [cond_true] at e ⊢; cases e; exact ⟨_, rfl, r⟩
    | false => rw [hb] at e; simp only [cond_false] at e ⊢; exact RepKv.lookup t e
end

/-! ### data -/
mutual
def D.py : D → Option PyData
  | .non => some .none
  | .bl b => some (.bool b)
  | .int i => some (.int i)
  | .str x => some (.str x)
  | .lst ds => (D.pyAll ds).map .list
  | .tup ds => (D.pyAll ds).map .tuple
  | .dct [] => some (.dict [])
  | .dct _ => none
  | .obj _ _ => none
  | .dk => none
  | .cls _ => none
  | .shw _ => none
def D.pyAll : List D → Option (List PyData)
  | [] => some []
  | d :: ds => match D.py d, D.pyAll ds with
    | some x, some xs => some (x :: xs)
    | _, _ => none
end
section
variable {g : G} {F : Hp}
mutual
theorem Rep.av : ∀ {v : V} {d : D} {p : PyData}, Rep g F v d → d.py = some p → Av g.K F v p
  | _, _, _, .non, e => by cases e; exact .non
  | _, _, _, .bl b, e => by cases e; exact .bl b
  | _, _, _, .int i, e => by cases e; exact .int i
  | _, _, _, .str h, e => by cases e; exact .str _
  | _, _, _, .lst (ds := ds) h r, e => by
    simp only [D.py] at e
    cases hx : D.pyAll ds with
    | none => rw [hx] at e; cases e
    | some xs => rw [hx] at e; cases e; exact .lst (SqL.of h) (RepAll.av r hx)
  | _, _, _, .tup (ds := ds) h r, e => by
    simp only [D.py] at e
    cases hx : D.pyAll ds with
    | none => rw [hx] at e; cases e
    | some xs => rw [hx] at e; cases e; exact .tup h (RepAll.av r hx)
  | _, _, _, .dct (ds := ds) h r, e => by
    cases r with
    | nil => cases e; exact .dct h
    | cons _ _ => simp [D.py] at e
  | _, _, _, .obj _ h r, e => by cases e
  | _, _, _, .dk, e => by cases e
  | _, _, _, .cls _, e => by cases e
  | _, _, _, .shw _, e => by cases e
theorem RepAll.av : ∀ {vs : List V} {ds : List D} {ps : List PyData}, RepAll g F vs ds → D.pyAll ds = some ps → AvAll g.K F vs ps
  | _, _, _, .nil, e => by cases e; exact .nil
  | _, _, _, .cons (d := d) (ds := ds) h r, e => by
    simp only [D.pyAll] at e
    cases hx : D.py d with
    | none => rw [hx] at e; cases e
    | some x =>
      cases hy : D.pyAll ds with
      | none => rw [hx, hy] at e; cases e
      | some xs => rw [hx, hy] at e; cases e; exact .cons (Rep.av h hx) (RepAll.av r hy)
end
mutual
theorem av_dp : ∀ {v : V} {p : PyData}, Av g.K F v p → p.hasDict = false → Dp g.K F v p
  | _, _, .non, _ => .non
  | _, _, .bl b, _ => .bl b
  | _, _, .int i, _ => .int i
  | _, _, .str x, _ => .str x
  | _, _, .lst h r, e => .lst h (av_dpAll r (by simpa [PyData.hasDict] using e))
  | _, _, .tup h r, e => .tup h (av_dpAll r (by simpa [PyData.hasDict] using e))
  | _, _, .dct h, e => by simp [PyData.hasDict] at e
theorem av_dpAll : ∀ {vs : List V} {ps : List PyData}, AvAll g.K F vs ps → PyData.hasDictAll ps = false → DpAll g.K F vs ps
  | _, _, .nil, _ => .nil
  | _, _, .cons h r, e => by
    simp only [PyData.hasDictAll, Bool.or_eq_false_iff] at e
    exact .cons (av_dp h e.1) (av_dpAll r e.2)
end
end
end DL
set_option Elab.async false
set_option linter.all false
set_option maxRecDepth 100000
set_option maxHeartbeats 4000000
/-! the state by trees; expressions as functions of it -/
namespace DL
open PySem PySem.Spec L2
open PySem.W (Frag)

/-- what the deck holds -/
structure Dk where
  c : Addr
  ns : List Int
  m : Int
  t : Int
  len : ns.length ≤ 63
abbrev DkO := Option Dk
def dkM (g : G) : DkO → Addr → Prop
  | none, _ => False
  | some k, b => b = g.dk ∨ b = k.c
def DkOk (g : G) (H F : Hp) : DkO → Prop
  | none => True
  | some k => H g.dk = some (.dK [(.inr "cells", .ref k.c), (.inr "mixed", .int k.m), (.inr "draws", .int k.t)]) ∧ H k.c = some (.lst (k.ns.map V.int)) ∧ F g.dk = none ∧ F k.c = none
def DkS : DkO → DkO → Prop
  | none, none => True
  | some a, some b => a.c = b.c
  | _, _ => False
theorem DkS.refl : ∀ k : DkO, DkS k k
  | none => trivial
  | some _ => rfl
theorem DkS.trans : ∀ {a b c : DkO}, DkS a b → DkS b c → DkS a c
  | none, none, none, _, _ => trivial
  | some _, some _, some _, h, q => Eq.trans h q
  | none, some _, _, h, _ => h.elim
  | some _, none, _, h, _ => h.elim
  | none, none, some _, _, h => h.elim
  | some _, some _, none, _, h => h.elim
theorem DkS.m {g : G} : ∀ {a b : DkO} {x : Addr}, DkS a b → (dkM g b x ↔ dkM g a x)
  | none, none, _, _ => Iff.rfl
  | some a, some b, x, h => by
    have h' : a.c = b.c := h
    show (x = g.dk ∨ x = b.c) ↔ (x = g.dk ∨ x = a.c)
    rw [h']
  | none, some _, _, h => h.elim
  | some _, none, _, h => h.elim

structure Sta (g : G) (H F : Hp) (k : DkO) : Prop where
  sub : Same F H
  dk : DkOk g H F k
/-- a step: from (H, F, k) to (H', F', k') -/
structure Stp (g : G) (H F : Hp) (k : DkO) (H' F' : Hp) (k' : DkO) : Prop where
  st : Sta g H' F' k'
  ff : Same F F'
  keep : ∀ b o, ¬ dkM g k b → H b = some o → H' b = some o
  new : ∀ b, F b = none → H b ≠ none → F' b = none
  ks : DkS k k'
section
variable {g : G} {H F H1 F1 H2 F2 : Hp} {k k1 k2 : DkO}
theorem dk_none {b : Addr} (h : DkOk g H F k) (m : dkM g k b) : F b = none ∧ H b ≠ none := by
  cases k with
  | none => exact m.elim
  | some d =>
    obtain ⟨h1, h2, h3, h4⟩ := h
    rcases m with rfl | rfl
    · exact ⟨h3, by rw [h1]; exact fun z => by cases z⟩
    · exact ⟨h4, by rw [h2]; exact fun z => by cases z⟩
theorem Stp.refl (s : Sta g H F k) : Stp g H F k H F k := ⟨s, Same.refl _, fun _ _ _ e => e, fun _ e _ => e, .refl _⟩
theorem Stp.trans (a : Stp g H F k H1 F1 k1) (b : Stp g H1 F1 k1 H2 F2 k2) : Stp g H F k H2 F2 k2 := by
  refine ⟨b.st, a.ff.trans b.ff, fun x o hx e => b.keep x o (fun z => hx (a.ks.m.mp z)) (a.keep x o hx e), fun x hF hH => ?_, a.ks.trans b.ks⟩
  by_cases hx : dkM g k x
  · exact (dk_none b.st.dk ((a.ks.trans b.ks).m.mpr hx)).1
  · refine b.new x (a.new x hF hH) fun z => ?_
    cases q : H x with
    | none => exact hH q
    | some o => rw [a.keep x o hx q] at z; cases z
/-- a new object, known from now on -/
theorem Stp.laid {p : Addr} {o : HO} (s : Sta g H F k) (np : H p = none) : Stp g H F k (upd H p o) (upd F p o) k := by
  have fp : F p = none := by
    cases q : F p with
    | none => rfl
    | some u => rw [s.sub _ _ q] at np; cases np
  have old : ∀ b u, H b = some u → upd H p o b = some u := fun b u e => by rw [upd_ne (ne_of_none e np)]; exact e
  have oldF : ∀ b u, F b = some u → upd F p o b = some u := fun b u e => by rw [upd_ne (ne_of_none e fp)]; exact e
  refine ⟨⟨fun b u e => ?_, ?_⟩, oldF, fun b u _ e => old b u e, fun b e h => ?_, .refl _⟩
  · by_cases hb : b = p
    · subst hb; rw [upd_same] at e ⊢; exact e
    · rw [upd_ne hb] at e ⊢; exact s.sub b u e
  · cases k with
    | none => trivial
    | some d =>
      obtain ⟨h1, h2, h3, h4⟩ := s.dk
      exact ⟨old _ _ h1, old _ _ h2, by rw [upd_ne (ne_of_none h1 np)]; exact h3, by rw [upd_ne (ne_of_none h2 np)]; exact h4⟩
  · have hb : b ≠ p := fun z => by subst z; exact h np
    rw [upd_ne hb]; exact e
/-- a new object that is not known -/
theorem Stp.hid {p : Addr} {o : HO} (s : Sta g H F k) (np : H p = none) : Stp g H F k (upd H p o) F k := by
  have old : ∀ b u, H b = some u → upd H p o b = some u := fun b u e => by rw [upd_ne (ne_of_none e np)]; exact e
  refine ⟨⟨fun b u e => old b u (s.sub b u e), ?_⟩, Same.refl _, fun b u _ e => old b u e, fun b e _ => e, .refl _⟩
  cases k with
  | none => trivial
  | some d =>
    obtain ⟨h1, h2, h3, h4⟩ := s.dk
    exact ⟨old _ _ h1, old _ _ h2, h3, h4⟩
end

/-! ### slots -/
inductive En where
  | no | d (x : D) | own (ds : List D) | ownK (kvs : List (Key × D)) | ownO (c : String) (fs : List (Str × D)) | exc (c : String) (fs : List (Str × D))
def En.isOwn : En → Bool
  | .own _ => true
  | .ownK _ => true
  | .ownO _ _ => true
  | _ => false
/-- what is handled: the exception's address, its dict's, its class; or which object is self -/
inductive XC where
  | none
  | exc (a dx : Addr) (cls : Value)
  | self (p : Addr)
def xcOf (a : Addr) (d : Option Addr) (cls : Value) : XC := match d with
  | .some dx => .exc a dx cls
  | .none => .none
def EnOk (g : G) (xc : XC) (k : DkO) (H F : Hp) (w : Option V) : En → Prop
  | .no => True
  | .d x => ∃ v, w = some v ∧ Rep g F v x
  | .own ds => ∃ p vs, w = some (.ref p) ∧ H p = some (.lst vs) ∧ F p = none ∧ ¬ dkM g k p ∧ RepAll g F vs ds
  | .ownK ds => ∃ p vs, w = some (.ref p) ∧ H p = some (.dK vs) ∧ F p = none ∧ ¬ dkM g k p ∧ RepKv g F vs ds
  | .ownO c ds => ∃ p dx vs, w = some (.ref p) ∧ H p = some (.ins (g.cl c) dx vs) ∧ F p = none ∧ ¬ dkM g k p ∧ RepFs g F vs ds ∧ xc = .self p
  | .exc c ds => ∃ a dx vs, w = some (.ref a) ∧ xc = .exc a dx (.ref (g.cl c)) ∧ F dx = some (.xd vs) ∧ RepFs g F vs ds
def EnvOk (g : G) (xc : XC) (k : DkO) (σ : L2.St) (H F : Hp) (env : List En) : Prop := σ.length = env.length ∧ ∀ (i : Nat) (e : En), env[i]? = some e → EnOk g xc k H F (σ[i]?.getD none) e
section
variable {g : G} {xc : XC} {H F H1 F1 : Hp} {k k1 : DkO} {σ : L2.St} {env : List En}
theorem EnOk.step {w : Option V} {e : En} (s : Stp g H F k H1 F1 k1) (h : EnOk g xc k H F w e) : EnOk g xc k1 H1 F1 w e := by
  have nn : ∀ {p o}, H p = some o → F p = none → F1 p = none := fun {p o} e1 e2 => s.new p e2 (by rw [e1]; exact fun z => by cases z)
  cases e with
  | no => trivial
  | d x => obtain ⟨v, e, r⟩ := h; exact ⟨v, e, r.same s.ff⟩
  | own ds => obtain ⟨p, vs, e, h1, h2, h3, r⟩ := h; exact ⟨p, vs, e, s.keep _ _ h3 h1, nn h1 h2, fun z => h3 (s.ks.m.mp z), r.same s.ff⟩
  | ownK ds => obtain ⟨p, vs, e, h1, h2, h3, r⟩ := h; exact ⟨p, vs, e, s.keep _ _ h3 h1, nn h1 h2, fun z => h3 (s.ks.m.mp z), r.same s.ff⟩
  | ownO c ds => obtain ⟨p, dx, vs, e, h1, h2, h3, r, hx⟩ := h; exact ⟨p, dx, vs, e, s.keep _ _ h3 h1, nn h1 h2, fun z => h3 (s.ks.m.mp z), r.same s.ff, hx⟩
  | exc c ds => obtain ⟨a, dx, vs, e, h1, h2, r⟩ := h; exact ⟨a, dx, vs, e, h1, s.ff _ _ h2, r.same s.ff⟩
theorem EnvOk.step (s : Stp g H F k H1 F1 k1) (h : EnvOk g xc k σ H F env) : EnvOk g xc k1 σ H1 F1 env := ⟨h.1, fun i e q => (h.2 i e q).step s⟩
end

/-! ### outcomes -/
inductive Out (α : Type) where
  | ok (a : α) (k : DkO)
  | err (c : String) (fs : List (Str × D)) (k : DkO)
  | bad
def Out.bind {α β : Type} (o : Out α) (f : α → DkO → Out β) : Out β := match o with
  | .ok a k => f a k
  | .err c fs k => .err c fs k
  | .bad => .bad
def Out.of {α : Type} (o : Option α) (k : DkO) : Out α := match o with
  | some a => .ok a k
  | none => .bad
@[simp] theorem bind_ok {α β : Type} {a : α} {k : DkO} {f : α → DkO → Out β} : (Out.ok a k).bind f = f a k := rfl
@[simp] theorem bind_err {α β : Type} {c : String} {fs : List (Str × D)} {k : DkO} {f : α → DkO → Out β} : (Out.err c fs k).bind f = .err c fs k := rfl
@[simp] theorem bind_bad {α β : Type} {f : α → DkO → Out β} : (Out.bad : Out α).bind f = .bad := rfl
@[simp] theorem of_some {α : Type} {a : α} {k : DkO} : Out.of (some a) k = .ok a k := rfl
@[simp] theorem of_none {α : Type} {k : DkO} : Out.of (none : Option α) k = .bad := rfl

abbrev Sm (α : Type) := List En → DkO → Out α
/-- what is asked for an outcome -/
def Ask {α : Type} (g : G) (W : WX) (σ : L2.St) (H F : Hp) (k : DkO) (o : Out α) (Q : α → Hp → Hp → DkO → Prop) : Prop := match o with
  | .ok a k' => ∀ H' F', Stp g H F k H' F' k' → Q a H' F' k'
  | .err c fs k' => ∀ dx H' F' vs, Stp g H F k H' F' k' → H' dx = none → RepFs g F' vs fs → W (.ref (g.cl c)) (some dx) σ (upd H' dx (.xd vs))
  | .bad => False
section
variable {g : G} {W : WX} {xc : XC} {H F : Hp} {k : DkO} {σ : L2.St} {env : List En}
theorem Ask.imp {α : Type} {o : Out α} {Q Q' : α → Hp → Hp → DkO → Prop} (h : Ask g W σ H F k o Q) (f : ∀ a H' F' k', o = .ok a k' → Stp g H F k H' F' k' → Q a H' F' k' → Q' a H' F' k') : Ask g W σ H F k o Q' := by
  cases o with
  | ok a k' => exact fun H' F' s => f a H' F' k' rfl s (h H' F' s)
  | err c fs k' => exact h
  | bad => exact h
theorem Ask.bind {α β : Type} {o : Out α} {f : α → DkO → Out β} {Q : β → Hp → Hp → DkO → Prop} (h : Ask g W σ H F k (o.bind f) Q) :
    Ask g W σ H F k o fun a H1 F1 k1 => Ask g W σ H1 F1 k1 (f a k1) Q := by
  cases o with
  | bad => exact h
  | err c fs k' => exact h
  | ok a k' =>
    intro H1 F1 s1
    have h' : Ask g W σ H F k (f a k') Q := h
    show Ask g W σ H1 F1 k' (f a k') Q
    cases q : f a k' with
    | bad => rw [q] at h'; exact h'
    | err c fs k2 =>
      rw [q] at h'
      exact fun dx H2 F2 vs s2 hd r => h' dx H2 F2 vs (s1.trans s2) hd r
    | ok b k2 =>
      rw [q] at h'
      exact fun H2 F2 s2 => h' H2 F2 (s1.trans s2)
end
theorem Ask.after {g : G} {W : WX} {H F : Hp} {k : DkO} {σ : L2.St} {H1 F1 : Hp} {k1 : DkO} {α : Type} {o : Out α} {Q : α → Hp → Hp → DkO → Prop} (h : Ask g W σ H F k o Q) (s : Stp g H F k H1 F1 k1) : Ask g W σ H1 F1 k1 o Q := by
  cases o with
  | bad => exact h
  | ok a k' => exact fun H3 F3 s3 => h H3 F3 (s.trans s3)
  | err c fs k' => exact fun dx H3 F3 vs s3 hd rr => h dx H3 F3 vs (s.trans s3) hd rr
/-- an expression's reading by its function of the state -/
def tD (g : G) (xc : XC) (W : WX) (f : Sm D) : TE := fun σ H Q => ∃ F k env, Sta g H F k ∧ EnvOk g xc k σ H F env ∧ Ask g W σ H F k (f env k) fun d H' F' k' => ∀ v, Rep g F' v d → Q v H'
def tDT (g : G) (xc : XC) (W : WX) (f : Sm Bool) : TT := fun σ H Q => ∃ F k env, Sta g H F k ∧ EnvOk g xc k σ H F env ∧ Ask g W σ H F k (f env k) fun b H' F' k' => Q b H'
def tDA (g : G) (xc : XC) (W : WX) (f : Sm (List D)) : TA := fun σ H Q => ∃ F k env, Sta g H F k ∧ EnvOk g xc k σ H F env ∧ Ask g W σ H F k (f env k) fun ds H' F' k' => ∀ vs, RepAll g F' vs ds → Q vs H'
def PD (X : Cx) (g : G) (xc : XC) (W : WX) (e : Expr) (f : Sm D) : Prop := PE X e (tD g xc W f)
def PDT (X : Cx) (g : G) (xc : XC) (W : WX) (e : Expr) (f : Sm Bool) : Prop := PT X e (tDT g xc W f)
def PDW (X : Cx) (g : G) (xc : XC) (W : WX) (e : Expr) (f : Sm Bool) : Prop := PW X e (tDT g xc W f)
def PDA (X : Cx) (g : G) (xc : XC) (W : WX) (es : List Expr) (f : Sm (List D)) : Prop := PA X es (tDA g xc W f)
theorem PE.imp {X : Cx} {e : Expr} {t t' : TE} (h : PE X e t) (f : ∀ σ H Q, t' σ H Q → t σ H Q) : PE X e t' := ⟨fun pins s σ H Q I q => h.run pins s σ H Q I (f σ H Q q)⟩
theorem PT.imp {X : Cx} {e : Expr} {t t' : TT} (h : PT X e t) (f : ∀ σ H Q, t' σ H Q → t σ H Q) : PT X e t' := ⟨fun pins s σ H Q I q => h.run pins s σ H Q I (f σ H Q q)⟩
theorem PW.imp {X : Cx} {e : Expr} {t t' : TT} (h : PW X e t) (f : ∀ σ H Q, t' σ H Q → t σ H Q) : PW X e t' := ⟨fun wh pins s σ H Q I q => h.run wh pins s σ H Q I (f σ H Q q)⟩
theorem PA.imp {X : Cx} {e : List Expr} {t t' : TA} (h : PA X e t) (f : ∀ σ H Q, t' σ H Q → t σ H Q) : PA X e t' := ⟨fun pos pins s σ H Q I q => h.run pos pins s σ H Q I (f σ H Q q)⟩

section
variable {X : Cx} {g : G} {xc : XC} {W : WX} {a b c e : Expr} {es : List Expr} {f h q : Sm D} {pos : Pos}

/-! ### names, constants -/
def sV (i : Nat) : Sm D := fun env k => match env[i]? with
  | some (.d x) => .ok x k
  | _ => .bad
def sC (d : D) : Sm D := fun _ k => .ok d k
theorem pd_var {i : Nat} (h : PE X e (tVar i)) : PD X g xc W e (sV i) := by
  refine PE.imp h fun σ H Q ⟨F, k, env, s, ok, q⟩ => ?_
  unfold sV at q
  cases hx : env[i]? with
  | none => rw [hx] at q; exact q.elim
  | some en =>
    rw [hx] at q
    cases en with
    | d x =>
      obtain ⟨v, ev, r⟩ := ok.2 i _ hx
      refine ⟨v, ?_, q H F (.refl s) v r⟩
      cases hs : σ[i]? with
      | none => rw [hs] at ev; cases ev
      | some w => rw [hs] at ev; rw [show w = some v from ev]
    | _ => exact q.elim
theorem pd_const {v : V} {d : D} (h : PE X e (tC v)) (r : ∀ F, Rep g F v d) : PD X g xc W e (sC d) :=
  PE.imp h fun σ H Q ⟨F, k, env, s, ok, q⟩ => q H F (.refl s) v (r F)
theorem pd_int {i j pos} : PD X g xc W (.Constant (.int i) j pos) (sC (.int i)) := pd_const pe_int fun _ => .int i
theorem pd_bl {b j pos} : PD X g xc W (.Constant (.bool b) j pos) (sC (.bl b)) := pd_const pe_bl fun _ => .bl b
theorem pd_non {j pos} : PD X g xc W (.Constant .none j pos) (sC .non) := pd_const pe_non fun _ => .non
theorem pd_str {x j pos} (h : SOk x := by exact ⟨by decide +kernel, by decide +kernel⟩) : PD X g xc W (.Constant (.str x) j pos) (sC (.str x)) := pd_const pe_str fun _ => .str h
theorem pd_globS {x z : Str} {t : Tok} {pos : Pos} (hg : Gl X x) (hm : X.mg x = some (.str z t)) (hz : SOk z := by exact ⟨by decide +kernel, by decide +kernel⟩) (hd : (x == ("__debug__" : Str)) = false := by decide) : PD X g xc W (.Name x pos) (sC (.str z)) :=
  pd_const (pe_glob (v := .str z) hg hm ⟨_, rfl⟩ hd) fun _ => .str hz
theorem pd_globI {x : Str} {i : Int} {t : Tok} {pos : Pos} (hg : Gl X x) (hm : X.mg x = some (.int i t)) (hd : (x == ("__debug__" : Str)) = false := by decide) : PD X g xc W (.Name x pos) (sC (.int i)) :=
  pd_const (pe_glob (v := .int i) hg hm ⟨_, rfl⟩ hd) fun _ => .int i

/-! ### operators by values -/
/-- a two-place operation by trees -/
def OpD (X : Cx) (g : G) (f : Value → Value → Sem Value) (op : D → D → Option D) : Prop :=
  ∃ r : R2, OpR X f r ∧ ∀ H F k x y a b d Q, Sta g H F k → Rep g F x a → Rep g F y b → op a b = some d → (∀ w H' F', Stp g H F k H' F' k → Rep g F' w d → Q w H') → r x y H Q
def sOp (op : D → D → Option D) (f h : Sm D) : Sm D := fun env k => (f env k).bind fun x k1 => (h env k1).bind fun y k2 => .of (op x y) k2
theorem op_ask {r : R2} {op : D → D → Option D} {x y : V} {a b : D} {H F : Hp} {k : DkO} {σ : L2.St} {Q : VK}
    (hr : ∀ H F k x y a b d Q, Sta g H F k → Rep g F x a → Rep g F y b → op a b = some d → (∀ w H' F', Stp g H F k H' F' k → Rep g F' w d → Q w H') → r x y H Q)
    (s : Sta g H F k) (ra : Rep g F x a) (rb : Rep g F y b) (h : Ask g W σ H F k (.of (op a b) k) fun d H' F' k' => ∀ v, Rep g F' v d → Q v H') : r x y H Q := by
  cases hq : op a b with
  | none => rw [hq] at h; exact h.elim
  | some d =>
    rw [hq] at h
    exact hr H F k x y a b d Q s ra rb hq fun w H' F' s' rw' => h H' F' s' w rw'
/-- from an expression's question to the next one -/
theorem tD_then {σ : L2.St} {H F : Hp} {k : DkO} {env : List En} {Q : VK} {R : D → DkO → Out D} (s : Sta g H F k) (ok : EnvOk g xc k σ H F env)
    (h0 : Ask g W σ H F k ((f env k).bind R) fun d H' F' k' => ∀ v, Rep g F' v d → Q v H') {Q2 : VK}
    (hn : ∀ v d H1 F1 k1, Sta g H1 F1 k1 → EnvOk g xc k1 σ H1 F1 env → Same F F1 → Rep g F1 v d → Ask g W σ H1 F1 k1 (R d k1) (fun d H' F' k' => ∀ v, Rep g F' v d → Q v H') → Q2 v H1) : tD g xc W f σ H Q2 :=
  ⟨F, k, env, s, ok, (Ask.bind h0).imp fun d H1 F1 k1 _ s1 q v r => hn v d H1 F1 k1 s1.st (ok.step s1) s1.ff r q⟩
theorem pd_op {op : Operator} {o : D → D → Option D} (ho : OpD X g (binaryOp op) o) (ha : PD X g xc W a f) (hb : PD X g xc W b h) : PD X g xc W (.BinOp a op b pos) (sOp o f h) := by
  obtain ⟨r, h1, h2⟩ := ho
  refine PE.imp (pe_op h1 ha hb) fun σ H Q ⟨F, k, env, s, ok, q⟩ => ?_
  refine tD_then s ok q fun x da H1 F1 k1 s1 ok1 ff1 rx q1 => ?_
  refine tD_then s1 ok1 q1 fun y db H2 F2 k2 s2 ok2 ff2 ry q2 => ?_
  exact op_ask h2 s2 (rx.same ff2) ry q2
theorem pd_cmp {op : CmpOp} {o : D → D → Option D} (ho : OpD X g (compareOp op) o) (ha : PD X g xc W a f) (hb : PD X g xc W b h) (hm : behindInMarks op b = false) : PD X g xc W (.Compare a [op] [b] pos) (sOp o f h) := by
  obtain ⟨r, h1, h2⟩ := ho
  refine PE.imp (pe_cmpR h1 ha hb hm) fun σ H Q ⟨F, k, env, s, ok, q⟩ => ?_
  refine tD_then s ok q fun x da H1 F1 k1 s1 ok1 ff1 rx q1 => ?_
  refine tD_then s1 ok1 q1 fun y db H2 F2 k2 s2 ok2 ff2 ry q2 => ?_
  exact op_ask h2 s2 (rx.same ff2) ry q2
end
end DL
set_option Elab.async false
set_option linter.all false
set_option maxRecDepth 100000
set_option maxHeartbeats 4000000
/-! operators by trees -/
namespace DL
open PySem PySem.Spec L2
open PySem.W (Frag)
theorem R2.or {X : Cx} {f : Value → Value → Sem Value} {r r' : R2} (h : OpR X f r) (h' : OpR X f r') : OpR X f (fun x y H Q => r x y H Q ∨ r' x y H Q) := OpR.or h h'
/-- the one or, where it has no answer, the other -/
def orD (o o' : D → D → Option D) : D → D → Option D := fun a b => match o a b with
  | some d => some d
  | none => o' a b
theorem OpD.or {X : Cx} {g : G} {f : Value → Value → Sem Value} {o o' : D → D → Option D} (h : OpD X g f o) (h' : OpD X g f o') : OpD X g f (orD o o') := by
  obtain ⟨r, h1, h2⟩ := h
  obtain ⟨r', h1', h2'⟩ := h'
  refine ⟨_, OpR.or h1 h1', fun H F k x y a b d Q s ra rb e q => ?_⟩
  unfold orD at e
  cases hq : o a b with
  | some z => rw [hq] at e; cases e; exact .inl (h2 H F k x y a b _ Q s ra rb hq q)
  | none => rw [hq] at e; exact .inr (h2' H F k x y a b d Q s ra rb e q)
theorem sqT_of {K : Frag} {F H : Hp} {a : Addr} {vs : List V} (s : Same F H) (h : SqT K F a vs) : SqT K H a vs := s.seqT h
theorem strOk_app {x y : Str} (h : PyData.strOk x = true) (h2 : PyData.strOk y = true) : PyData.strOk (x ++ y) = true := by
  unfold PyData.strOk at *
  rw [Array.all_eq_true'] at *
  intro c hc
  have e : (x ++ y).cps = x.cps ++ y.cps := rfl
  rw [e, Array.mem_append] at hc
  exact hc.elim (h c) (h2 c)

section
variable {X : Cx} {g : G}
theorem repInt {F : Hp} {i : Int} {v : V} (h : Rep g F v (.int i)) : v = .int i := by cases h; rfl
theorem repStr {F : Hp} {x : Str} {v : V} (h : Rep g F v (.str x)) : v = .str x ∧ SOk x := by cases h; exact ⟨rfl, by assumption⟩
theorem repBl {F : Hp} {b : Bool} {v : V} (h : Rep g F v (.bl b)) : v = .bl b := by cases h; rfl
theorem repNon {F : Hp} {v : V} (h : Rep g F v .non) : v = .non := by cases h; rfl
theorem repLst {F : Hp} {ds : List D} {v : V} (h : Rep g F v (.lst ds)) : ∃ a vs, v = .ref a ∧ F a = some (.lst vs) ∧ RepAll g F vs ds := by cases h; exact ⟨_, _, rfl, by assumption, by assumption⟩
theorem repTup {F : Hp} {ds : List D} {v : V} (h : Rep g F v (.tup ds)) : ∃ a vs, v = .ref a ∧ SqT g.K F a vs ∧ RepAll g F vs ds := by cases h; exact ⟨_, _, rfl, by assumption, by assumption⟩
theorem repObj {F : Hp} {c : String} {ds : List (Str × D)} {v : V} (h : Rep g F v (.obj c ds)) : ∃ a dx fs, v = .ref a ∧ c ∈ g.own ∧ F a = some (.ins (g.cl c) dx fs) ∧ RepFs g F fs ds := by cases h; exact ⟨_, _, _, rfl, by assumption, by assumption, by assumption⟩

/-! ### ints -/
def intOp (C : Int → Int → Bool) (f : Int → Int → D) : D → D → Option D
  | .int i, .int j => if C i j then some (f i j) else none
  | _, _ => none
theorem intOp_some {C : Int → Int → Bool} {f : Int → Int → D} {a b d : D} (e : intOp C f a b = some d) : ∃ i j, a = .int i ∧ b = .int j ∧ C i j = true ∧ d = f i j := by
  unfold intOp at e
  split at e
  · split at e
    · cases e; exact ⟨_, _, rfl, rfl, by assumption, rfl⟩
    · cases e
  · cases e
theorem opd_int {f : Value → Value → Sem Value} {C : Int → Int → Bool} {CP : Int → Int → Prop} {h : Int → Int → Int} (ho : OpR X f (rI CP fun i j => .int (h i j))) (hc : ∀ i j, C i j = true → CP i j) : OpD X g f (intOp C fun i j => .int (h i j)) :=
  ⟨_, ho, fun H F k x y a b d Q s ra rb e q => by
    obtain ⟨i, j, rfl, rfl, hC, rfl⟩ := intOp_some e
    rw [repInt ra, repInt rb]
    exact ⟨i, j, rfl, rfl, hc i j hC, q _ H F (.refl s) (.int _)⟩⟩
theorem opd_int0 {f : Value → Value → Sem Value} {h : Int → Int → Int} (ho : OpR X f (rI0 fun i j => .int (h i j))) : OpD X g f (intOp (fun _ _ => true) fun i j => .int (h i j)) :=
  ⟨_, ho, fun H F k x y a b d Q s ra rb e q => by
    obtain ⟨i, j, rfl, rfl, hC, rfl⟩ := intOp_some e
    rw [repInt ra, repInt rb]
    exact ⟨i, j, rfl, rfl, q _ H F (.refl s) (.int _)⟩⟩
theorem opd_intB {f : Value → Value → Sem Value} {h : Int → Int → Bool} (ho : OpR X f (rI0 fun i j => .bl (h i j))) : OpD X g f (intOp (fun _ _ => true) fun i j => .bl (h i j)) :=
  ⟨_, ho, fun H F k x y a b d Q s ra rb e q => by
    obtain ⟨i, j, rfl, rfl, hC, rfl⟩ := intOp_some e
    rw [repInt ra, repInt rb]
    exact ⟨i, j, rfl, rfl, q _ H F (.refl s) (.bl _)⟩⟩
def small (i : Int) : Bool := decide (-(2 ^ 64) < i) && decide (i < 2 ^ 64)
def mulD := intOp (fun i j => small i || small j) fun i j => .int (i * j)
def modD := intOp (fun _ j => decide (0 < j)) fun i j => .int (i % j)
def fdivD := intOp (fun _ j => decide (j ≠ 0) && decide (j.natAbs < 1073741824)) fun i j => .int (i.fdiv j)
def powD := intOp (fun i j => decide (0 ≤ j) && decide (j ≤ 1000000) && decide (i.natAbs < 2 ^ 64)) fun i j => .int (i ^ j.toNat)
def subD := intOp (fun _ _ => true) fun i j => .int (i - j)
theorem opd_sub : OpD X g (binaryOp .Sub) subD := opd_int0 op_sub
theorem opd_mulI : OpD X g (binaryOp .Mult) mulD := opd_int op_mul fun i j h => by
  simp only [small, Bool.or_eq_true, Bool.and_eq_true, decide_eq_true_eq] at h
  exact h
theorem opd_mod : OpD X g (binaryOp .Mod) modD := opd_int op_mod fun i j h => of_decide_eq_true h
theorem opd_fdiv : OpD X g (binaryOp .FloorDiv) fdivD := opd_int op_fdivN fun i j h => by
  simp only [Bool.and_eq_true, decide_eq_true_eq] at h
  exact h
theorem opd_pow : OpD X g (binaryOp .Pow) powD := opd_int op_pow fun i j h => by
  simp only [Bool.and_eq_true, decide_eq_true_eq] at h
  exact ⟨h.1.1, h.1.2, h.2⟩

/-! ### + -/
def catD : D → D → Option D
  | .int i, .int j => some (.int (i + j))
  | .str x, .str y => if x.length + y.length ≤ sizeLine then some (.str (x ++ y)) else none
  | .lst xs, .lst ys => if xs.length + ys.length ≤ sizeLine then some (.lst (xs ++ ys)) else none
  | .tup xs, .tup ys => if xs.length + ys.length ≤ sizeLine then some (.tup (xs ++ ys)) else none
  | _, _ => none
theorem opd_add (hK : X.K = g.K) : OpD X g (binaryOp .Add) catD := by
  refine ⟨_, OpR.or (OpR.or op_add op_add_str) (OpR.or op_cat (by have := @op_catA X; exact this)), fun H F k x y a b d Q s ra rb e q => ?_⟩
  unfold catD at e
  split at e
  · cases e
    rw [repInt ra, repInt rb]
    exact .inl (.inl ⟨_, _, rfl, rfl, q _ H F (.refl s) (.int _)⟩)
  · split at e
    · cases e
      obtain ⟨rfl, hx⟩ := repStr ra
      obtain ⟨rfl, hy⟩ := repStr rb
      rename_i hz
      refine .inl (.inr ⟨_, _, rfl, rfl, hz, q _ H F (.refl s) (.str ⟨?_, strOk_app hx.2 hy.2⟩)⟩)
      rw [Str.length_append]; exact hz
    · cases e
  · split at e
    · cases e
      obtain ⟨a, vs, rfl, h1, r1⟩ := repLst ra
      obtain ⟨b, ws, rfl, h2, r2⟩ := repLst rb
      rename_i hz
      refine .inr (.inl ⟨a, b, vs, ws, rfl, rfl, s.sub _ _ h1, s.sub _ _ h2, by rw [r1.length, r2.length]; exact hz, fun p np => ?_⟩)
      have st := Stp.laid (o := .lst (vs ++ ws)) s np
      exact q _ _ _ st (.lst upd_same ((r1.same st.ff).app (r2.same st.ff)))
    · cases e
  · split at e
    · cases e
      obtain ⟨a, vs, rfl, h1, r1⟩ := repTup ra
      obtain ⟨b, ws, rfl, h2, r2⟩ := repTup rb
      rename_i hz
      refine .inr (.inr ⟨a, b, vs, ws, rfl, rfl, by rw [hK]; exact s.sub.seqT h1, by rw [hK]; exact s.sub.seqT h2, by rw [r1.length, r2.length]; exact hz, fun h0 => ?_, fun _ h0 => ?_, fun _ _ p np => ?_⟩)
      · subst h0
        cases r1
        exact q _ H F (.refl s) (.tup h2 r2)
      · subst h0
        cases r2
        simp only [List.append_nil] at q
        exact q _ H F (.refl s) (.tup h1 r1)
      · have st := Stp.laid (o := .tup (vs ++ ws)) s np
        exact q _ _ _ st (.tup (SqT.of upd_same) ((r1.same st.ff).app (r2.same st.ff)))
    · cases e
  · cases e
/-- list * n -/
def repD : D → D → Option D
  | .lst xs, .int n => if decide (-(2 ^ 63) ≤ n) && decide (n < 2 ^ 63) && decide (xs.length * n.toNat ≤ sizeLine) then some (.lst (List.replicate n.toNat xs).flatten) else none
  | _, _ => none
theorem RepAll.rep {F : Hp} {vs : List V} {ds : List D} (r : RepAll g F vs ds) : ∀ n, RepAll g F (List.replicate n vs).flatten (List.replicate n ds).flatten
  | 0 => .nil
  | n + 1 => by rw [List.replicate_succ, List.replicate_succ, List.flatten_cons, List.flatten_cons]; exact r.app (RepAll.rep r n)
theorem opd_rep : OpD X g (binaryOp .Mult) repD := by
  refine ⟨_, op_rep, fun H F k x y a b d Q s ra rb e q => ?_⟩
  unfold repD at e
  split at e
  · split at e
    · cases e
      rename_i xs n hz
      simp only [Bool.and_eq_true, decide_eq_true_eq] at hz
      obtain ⟨a, vs, rfl, h1, r1⟩ := repLst ra
      rw [repInt rb]
      refine ⟨a, n, vs, rfl, rfl, s.sub _ _ h1, hz.1.1, hz.1.2, by rw [r1.length]; exact hz.2, fun p np => ?_⟩
      have st := Stp.laid (o := .lst (List.replicate n.toNat vs).flatten) s np
      exact q _ _ _ st (.lst upd_same (RepAll.rep (r1.same st.ff) _))
    · cases e
  · cases e
theorem opd_mul : OpD X g (binaryOp .Mult) (orD mulD repD) := opd_mulI.or opd_rep

/-! ### ==, != -/
mutual
theorem canLay_of {F : Hp} : ∀ {v : V} {d : D} {p : PyData}, Rep g F v d → d.py = some p → p.hasDict = false → p.canLay0 = true
  | _, _, _, .non, e, _ => by cases e; rfl
  | _, _, _, .bl b, e, _ => by cases e; rfl
  | _, _, _, .int i, e, _ => by cases e; rfl
  | _, _, _, .str h, e, _ => by cases e; exact h.2
  | _, _, _, .lst (ds := ds) h r, e, hd => by
    simp only [D.py] at e
    cases hx : D.pyAll ds with
    | none => rw [hx] at e; cases e
    | some xs => rw [hx] at e; cases e; simp only [PyData.hasDict] at hd; simp only [PyData.canLay0]; exact canLayAll_of r hx hd
  | _, _, _, .tup (ds := ds) h r, e, hd => by
    simp only [D.py] at e
    cases hx : D.pyAll ds with
    | none => rw [hx] at e; cases e
    | some xs => rw [hx] at e; cases e; simp only [PyData.hasDict] at hd; simp only [PyData.canLay0]; exact canLayAll_of r hx hd
  | _, _, _, .dct (ds := ds) h r, e, hd => by
    cases ds with
    | nil => cases e; simp [PyData.hasDict] at hd
    | cons _ _ => simp [D.py] at e
  | _, _, _, .obj _ h r, e, _ => by cases e
  | _, _, _, .dk, e, _ => by cases e
  | _, _, _, .cls _, e, _ => by cases e
  | _, _, _, .shw _, e, _ => by cases e
theorem canLayAll_of {F : Hp} : ∀ {vs : List V} {ds : List D} {ps : List PyData}, RepAll g F vs ds → D.pyAll ds = some ps → PyData.hasDictAll ps = false → PyData.canLayAll0 ps = true
  | _, _, _, .nil, e, _ => by cases e; rfl
  | _, _, _, .cons (d := d) (ds := ds) h r, e, hd => by
    simp only [D.pyAll] at e
    cases hx : D.py d with
    | none => rw [hx] at e; cases e
    | some x =>
      cases hy : D.pyAll ds with
      | none => rw [hx, hy] at e; cases e
      | some xs =>
        rw [hx, hy] at e; cases e
        simp only [PyData.hasDictAll, Bool.or_eq_false_iff] at hd
        simp only [PyData.canLayAll0, Bool.and_eq_true]
        exact ⟨canLay_of h hx hd.1, canLayAll_of r hy hd.2⟩
end
/-- data without dicts, not too deep -/
def flatPy (p : PyData) : Bool := !p.hasDict && decide (p.depth ≤ 64)
theorem dp_of {F : Hp} {v : V} {d : D} {p : PyData} (r : Rep g F v d) (e : d.py = some p) (hf : flatPy p = true) : Dp g.K F v p ∧ SeqAt.shaped p = true := by
  simp only [flatPy, Bool.and_eq_true, Bool.not_eq_true', decide_eq_true_eq] at hf
  exact ⟨av_dp (r.av e) hf.1, by unfold SeqAt.shaped; rw [canLay_of r e hf.1, Bool.true_and]; exact decide_eq_true hf.2⟩
def eqvD (f : Bool → Bool) : D → D → Option D := fun a b => match a.py, b.py with
  | some p, some q => if flatPy p && flatPy q then some (.bl (f (PyData.eqv p q))) else none
  | _, _ => none
theorem eqvD_some {f : Bool → Bool} {a b d : D} (e : eqvD f a b = some d) : ∃ p q, a.py = some p ∧ b.py = some q ∧ flatPy p = true ∧ flatPy q = true ∧ d = .bl (f (PyData.eqv p q)) := by
  unfold eqvD at e
  split at e
  · split at e
    · cases e
      rename_i h
      rw [Bool.and_eq_true] at h
      exact ⟨_, _, by assumption, by assumption, h.1, h.2, rfl⟩
    · cases e
  · cases e
def nilT : D → D → Option D
  | .tup xs, .tup [] => some (.bl xs.isEmpty)
  | _, _ => none
theorem opd_eqv (hK : X.K = g.K) (hu : X.A.units + 64 < cLine) : OpD X g (compareOp .Eq) (eqvD fun b => b) :=
  ⟨_, op_eqD hu, fun H F k x y a b d Q s ra rb e q => by
    obtain ⟨p, r, e1, e2, f1, f2, rfl⟩ := eqvD_some e
    obtain ⟨d1, s1⟩ := dp_of ra e1 f1
    obtain ⟨d2, s2⟩ := dp_of rb e2 f2
    rw [hK]
    exact ⟨p, r, d1.same s.sub, d2.same s.sub, s1, s2, q _ H F (.refl s) (.bl _)⟩⟩
theorem opd_nev (hK : X.K = g.K) (hu : X.A.units + 64 < cLine) : OpD X g (compareOp .NotEq) (eqvD fun b => !b) :=
  ⟨_, op_neD hu, fun H F k x y a b d Q s ra rb e q => by
    obtain ⟨p, r, e1, e2, f1, f2, rfl⟩ := eqvD_some e
    obtain ⟨d1, s1⟩ := dp_of ra e1 f1
    obtain ⟨d2, s2⟩ := dp_of rb e2 f2
    rw [hK]
    exact ⟨p, r, d1.same s.sub, d2.same s.sub, s1, s2, q _ H F (.refl s) (.bl _)⟩⟩
theorem opd_nilT (hK : X.K = g.K) (hu : X.A.units + 64 < cLine) : OpD X g (compareOp .Eq) nilT :=
  ⟨_, op_eqNilT hu, fun H F k x y a b d Q s ra rb e q => by
    unfold nilT at e
    split at e
    · cases e
      rename_i xs
      obtain ⟨a, vs, rfl, h1, r1⟩ := repTup ra
      obtain ⟨b, ws, rfl, h2, r2⟩ := repTup rb
      cases r2
      rw [hK]
      refine ⟨a, b, vs, rfl, rfl, s.sub.seqT h1, s.sub.seqT h2, ?_⟩
      have e : vs.isEmpty = xs.isEmpty := by
        cases r1 <;> rfl
      rw [e]
      exact q _ H F (.refl s) (.bl _)
    · cases e⟩
/-- of two reprs -/
def eqShw (f : Bool → Bool) : D → D → Option D
  | .shw p, .shw q => some (.bl (f (decide (p.shown = q.shown))))
  | _, _ => none
theorem eqShw_some {f : Bool → Bool} {a b d : D} (e : eqShw f a b = some d) : ∃ p q, a = .shw p ∧ b = .shw q ∧ d = .bl (f (decide (p.shown = q.shown))) := by
  unfold eqShw at e
  split at e
  · cases e; exact ⟨_, _, rfl, rfl, rfl⟩
  · cases e
theorem opd_eqShw : OpD X g (compareOp .Eq) (eqShw fun b => b) :=
  ⟨_, op_eq, fun H F k x y a b d Q s ra rb e q => by
    obtain ⟨p, r, rfl, rfl, rfl⟩ := eqShw_some e
    cases ra
    cases rb
    refine ⟨rfl, ?_⟩
    have e : decide (V.str p.shown = V.str r.shown) = decide (p.shown = r.shown) := by
      rw [Bool.eq_iff_iff]; simp
    rw [e]
    exact q _ H F (.refl s) (.bl _)⟩
theorem opd_neShw : OpD X g (compareOp .NotEq) (eqShw fun b => !b) :=
  ⟨_, op_ne, fun H F k x y a b d Q s ra rb e q => by
    obtain ⟨p, r, rfl, rfl, rfl⟩ := eqShw_some e
    cases ra
    cases rb
    refine ⟨rfl, ?_⟩
    have e : decide (V.str p.shown = V.str r.shown) = decide (p.shown = r.shown) := by
      rw [Bool.eq_iff_iff]; simp
    rw [e]
    exact q _ H F (.refl s) (.bl _)⟩
def eqD : D → D → Option D := orD (orD nilT (eqvD fun b => b)) (eqShw fun b => b)
def neD : D → D → Option D := orD (eqvD fun b => !b) (eqShw fun b => !b)
theorem opd_eq (hK : X.K = g.K) (hu : X.A.units + 64 < cLine) : OpD X g (compareOp .Eq) eqD := ((opd_nilT hK hu).or (opd_eqv hK hu)).or opd_eqShw
theorem opd_ne (hK : X.K = g.K) (hu : X.A.units + 64 < cLine) : OpD X g (compareOp .NotEq) neD := (opd_nev hK hu).or opd_neShw

/-! ### <, .. -/
def strOp (f : List Nat → List Nat → Bool) : D → D → Option D
  | .str x, .str y => some (.bl (f x.cps.toList y.cps.toList))
  | _, _ => none
theorem opd_strB {f : Value → Value → Sem Value} {h : List Nat → List Nat → Bool} (ho : OpR X f (fun x y H Q => ∃ i j, x = .str i ∧ y = .str j ∧ Q (.bl (h i.cps.toList j.cps.toList)) H)) : OpD X g f (strOp h) :=
  ⟨_, ho, fun H F k x y a b d Q s ra rb e q => by
    unfold strOp at e
    split at e
    · cases e
      rw [(repStr ra).1, (repStr rb).1]
      exact ⟨_, _, rfl, rfl, q _ H F (.refl s) (.bl _)⟩
    · cases e⟩
def ltD : D → D → Option D := orD (intOp (fun _ _ => true) fun i j => .bl (decide (i < j))) (strOp fun x y => decide (x < y))
def leD : D → D → Option D := orD (intOp (fun _ _ => true) fun i j => .bl (decide (i ≤ j))) (strOp fun x y => !decide (y < x))
def gtD : D → D → Option D := intOp (fun _ _ => true) fun i j => .bl (decide (j < i))
def geD : D → D → Option D := intOp (fun _ _ => true) fun i j => .bl (decide (j ≤ i))
theorem opd_lt : OpD X g (compareOp .Lt) ltD := (opd_intB op_lt).or (opd_strB op_lt_str)
theorem opd_le : OpD X g (compareOp .LtE) leD := (opd_intB op_le).or (opd_strB (h := fun x y => !decide (y < x)) op_le_str)
theorem opd_gt : OpD X g (compareOp .Gt) gtD := opd_intB op_gt
theorem opd_ge : OpD X g (compareOp .GtE) geD := opd_intB op_ge

/-! ### is -/
def D.isNon : D → Bool
  | .non => true
  | _ => false
def isD (f : Bool → Bool) : D → D → Option D
  | .non, .non => some (.bl (f true))
  | _, .non => some (.bl (f false))
  | .bl a, .bl b => some (.bl (f (decide (a = b))))
  | _, _ => none
theorem rep_non_iff {F : Hp} {v : V} {d : D} (r : Rep g F v d) : decide (v = .non) = d.isNon := by
  cases r <;> first | rfl | exact decide_eq_false (fun z => by cases z)
theorem isD_non {f : Bool → Bool} {a : D} : isD f a .non = some (.bl (f a.isNon)) := by cases a <;> rfl
theorem opd_is : OpD X g (compareOp .Is) (isD fun b => b) := by
  refine ⟨_, OpR.or op_isN op_isBl, fun H F k x y a b d Q s ra rb e q => ?_⟩
  cases b with
  | non =>
    rw [isD_non] at e
    cases e
    rw [repNon rb]
    refine .inl ⟨rfl, ?_⟩
    rw [rep_non_iff ra]
    exact q _ H F (.refl s) (.bl _)
  | bl b =>
    cases a with
    | bl a =>
      cases e
      rw [repBl ra, repBl rb]
      exact .inr ⟨_, _, rfl, rfl, q _ H F (.refl s) (.bl _)⟩
    | _ => cases e
  | _ => cases a <;> cases e
theorem opd_isNot : OpD X g (compareOp .IsNot) (isD fun b => !b) := by
  refine ⟨_, OpR.or op_notN op_notBl, fun H F k x y a b d Q s ra rb e q => ?_⟩
  cases b with
  | non =>
    rw [isD_non] at e
    cases e
    rw [repNon rb]
    refine .inl ⟨rfl, ?_⟩
    rw [rep_non_iff ra]
    exact q _ H F (.refl s) (.bl _)
  | bl b =>
    cases a with
    | bl a =>
      cases e
      rw [repBl ra, repBl rb]
      exact .inr ⟨_, _, rfl, rfl, q _ H F (.refl s) (.bl _)⟩
    | _ => cases e
  | _ => cases a <;> cases e

/-! ### in -/
def inSign (f : Bool → Bool) : D → D → Option D
  | .str x, .str y => match x.cps.toList with
    | [c] => some (.bl (f (decide (c ∈ y.cps.toList))))
    | _ => none
  | _, _ => none
theorem one_sign {x : Str} {c : Nat} (h : x.cps.toList = [c]) : x = ⟨#[c]⟩ := by
  obtain ⟨⟨l⟩⟩ := x
  have z : l = [c] := h
  subst z; rfl
theorem inSign_some {f : Bool → Bool} {a b d : D} (e : inSign f a b = some d) : ∃ c y, a = .str ⟨#[c]⟩ ∧ b = .str y ∧ d = .bl (f (decide (c ∈ y.cps.toList))) := by
  unfold inSign at e
  split at e
  · split at e
    · cases e
      rename_i x y _ c hx
      exact ⟨c, y, by rw [one_sign hx], rfl, rfl⟩
    · cases e
  · cases e
theorem opd_inSign : OpD X g (compareOp .In) (inSign fun b => b) :=
  ⟨_, op_in_sign, fun H F k x y a b d Q s ra rb e q => by
    obtain ⟨c, z, rfl, rfl, rfl⟩ := inSign_some e
    rw [(repStr ra).1, (repStr rb).1]
    exact ⟨c, z, rfl, rfl, q _ H F (.refl s) (.bl _)⟩⟩
theorem opd_notInSign : OpD X g (compareOp .NotIn) (inSign fun b => !b) :=
  ⟨_, op_notIn_sign, fun H F k x y a b d Q s ra rb e q => by
    obtain ⟨c, z, rfl, rfl, rfl⟩ := inSign_some e
    rw [(repStr ra).1, (repStr rb).1]
    exact ⟨c, z, rfl, rfl, q _ H F (.refl s) (.bl _)⟩⟩
/-- .. in a list or tuple of flat items -/
def flatDD : D → Option V
  | .non => some .non
  | .bl b => some (.bl b)
  | .int i => some (.int i)
  | .str x => some (.str x)
  | _ => none
def flatAll : List D → Option (List V)
  | [] => some []
  | d :: ds => match flatDD d, flatAll ds with
    | some v, some vs => some (v :: vs)
    | _, _ => none
theorem flat_rep {F : Hp} {v w : V} {d : D} (r : Rep g F v d) (e : flatDD d = some w) : v = w ∧ flatV v = true := by
  cases r <;> first | (cases e; exact ⟨rfl, rfl⟩) | cases e
theorem flat_repAll {F : Hp} : ∀ {vs ws : List V} {ds : List D}, RepAll g F vs ds → flatAll ds = some ws → vs = ws ∧ vs.all flatV = true
  | _, _, _, .nil, e => by cases e; exact ⟨rfl, rfl⟩
  | _, _, _, .cons (d := d) (ds := ds) r rs, e => by
    simp only [flatAll] at e
    cases h1 : flatDD d with
    | none => rw [h1] at e; cases e
    | some v =>
      cases h2 : flatAll ds with
      | none => rw [h1, h2] at e; cases e
      | some vs =>
        rw [h1, h2] at e; cases e
        obtain ⟨rfl, q1⟩ := flat_rep r h1
        obtain ⟨rfl, q2⟩ := flat_repAll rs h2
        exact ⟨rfl, by rw [List.all_cons, q1, q2]; rfl⟩
def seqOf : D → Option (List D)
  | .lst ds => some ds
  | .tup ds => some ds
  | _ => none
theorem seq_rep {F : Hp} {v : V} {d : D} {ds : List D} (r : Rep g F v d) (e : seqOf d = some ds) : ∃ a vs, v = .ref a ∧ (SqL g.K F a vs ∨ SqT g.K F a vs) ∧ RepAll g F vs ds := by
  cases r with
  | lst h r => cases e; exact ⟨_, _, rfl, .inl (SqL.of h), r⟩
  | tup h r => cases e; exact ⟨_, _, rfl, .inr h, r⟩
  | _ => cases e
def inSeq (neg : Bool) : D → D → Option D := fun a b => match flatDD a, (seqOf b).bind flatAll with
  | some v, some vs => some (.bl (if neg then !inV v vs else inV v vs))
  | _, _ => none
theorem opd_inSeq_ {op : CmpOp} {neg : Bool} (hK : X.K = g.K) (ho : OpR X (compareOp op) (rIn X.K neg)) : OpD X g (compareOp op) (inSeq neg) :=
  ⟨_, ho, fun H F k x y a b d Q s ra rb e q => by
    unfold inSeq at e
    cases h1 : flatDD a with
    | none => rw [h1] at e; cases e
    | some v =>
      cases h2 : seqOf b with
      | none => rw [h1, h2] at e; cases e
      | some ds =>
        cases h3 : flatAll ds with
        | none => rw [h1, h2] at e; simp only [Option.bind_some, h3] at e; cases e
        | some vs =>
          rw [h1, h2] at e; simp only [Option.bind_some, h3] at e; cases e
          obtain ⟨rfl, f1⟩ := flat_rep ra h1
          obtain ⟨p, ws, rfl, hs, r⟩ := seq_rep rb h2
          obtain ⟨rfl, f2⟩ := flat_repAll r h3
          rw [hK]
          exact ⟨p, ws, rfl, hs.imp s.sub.seq s.sub.seqT, f1, f2, q _ H F (.refl s) (.bl _)⟩⟩
def inD : D → D → Option D := orD (inSign fun b => b) (inSeq false)
def notInD : D → D → Option D := orD (inSign fun b => !b) (inSeq true)
theorem opd_in (hK : X.K = g.K) : OpD X g (compareOp .In) inD := opd_inSign.or (opd_inSeq_ hK op_in_seq)
theorem opd_notIn (hK : X.K = g.K) : OpD X g (compareOp .NotIn) notInD := opd_notInSign.or (opd_inSeq_ hK op_notIn_seq)
end
end DL
set_option Elab.async false
set_option linter.all false
set_option maxRecDepth 100000
set_option maxHeartbeats 4000000
/-! tests, displays, subscripts, fields -/
namespace DL
open PySem PySem.Spec L2
open PySem.W (Frag)
section
variable {X : Cx} {g : G} {xc : XC} {W : WX} {a b c e o : Expr} {es rest : List Expr} {f h q : Sm D} {p p' : Sm Bool} {l : Sm (List D)} {pos : Pos}

/-! ### from a question to the next one -/
theorem tD_then' {α : Type} {σ : L2.St} {H F : Hp} {k : DkO} {env : List En} {f : Sm D} {R : D → DkO → Out α} {Qa : α → Hp → Hp → DkO → Prop} (s : Sta g H F k) (ok : EnvOk g xc k σ H F env)
    (h0 : Ask g W σ H F k ((f env k).bind R) Qa) {Q2 : VK}
    (hn : ∀ v d H1 F1 k1, Sta g H1 F1 k1 → EnvOk g xc k1 σ H1 F1 env → Same F F1 → Rep g F1 v d → Ask g W σ H1 F1 k1 (R d k1) Qa → Q2 v H1) : tD g xc W f σ H Q2 :=
  ⟨F, k, env, s, ok, (Ask.bind h0).imp fun d H1 F1 k1 _ s1 q v r => hn v d H1 F1 k1 s1.st (ok.step s1) s1.ff r q⟩
theorem tDT_then {α : Type} {σ : L2.St} {H F : Hp} {k : DkO} {env : List En} {p : Sm Bool} {R : Bool → DkO → Out α} {Qa : α → Hp → Hp → DkO → Prop} (s : Sta g H F k) (ok : EnvOk g xc k σ H F env)
    (h0 : Ask g W σ H F k ((p env k).bind R) Qa) {Q2 : Bool → Hp → Prop}
    (hn : ∀ b H1 F1 k1, Sta g H1 F1 k1 → EnvOk g xc k1 σ H1 F1 env → Same F F1 → Ask g W σ H1 F1 k1 (R b k1) Qa → Q2 b H1) : tDT g xc W p σ H Q2 :=
  ⟨F, k, env, s, ok, (Ask.bind h0).imp fun b H1 F1 k1 _ s1 q => hn b H1 F1 k1 s1.st (ok.step s1) s1.ff q⟩
theorem tDA_then {α : Type} {σ : L2.St} {H F : Hp} {k : DkO} {env : List En} {l : Sm (List D)} {R : List D → DkO → Out α} {Qa : α → Hp → Hp → DkO → Prop} (s : Sta g H F k) (ok : EnvOk g xc k σ H F env)
    (h0 : Ask g W σ H F k ((l env k).bind R) Qa) {Q2 : List V → Hp → Prop}
    (hn : ∀ vs ds H1 F1 k1, Sta g H1 F1 k1 → EnvOk g xc k1 σ H1 F1 env → Same F F1 → RepAll g F1 vs ds → Ask g W σ H1 F1 k1 (R ds k1) Qa → Q2 vs H1) : tDA g xc W l σ H Q2 :=
  ⟨F, k, env, s, ok, (Ask.bind h0).imp fun ds H1 F1 k1 _ s1 q vs r => hn vs ds H1 F1 k1 s1.st (ok.step s1) s1.ff r q⟩
theorem ask_id {α : Type} {σ : L2.St} {H F : Hp} {k : DkO} {o : Out α} {Q : α → Hp → Hp → DkO → Prop} (h : Ask g W σ H F k o Q) : Ask g W σ H F k (o.bind fun a k1 => .ok a k1) Q := by
  cases o <;> exact h

/-! ### truth -/
def truD : D → Option Bool
  | .non => some false
  | .bl b => some b
  | .int i => some (i != 0)
  | .str x => some ((x.length : Int) != 0)
  | .lst ds => some (!ds.isEmpty)
  | .tup ds => some (!ds.isEmpty)
  | .dct ds => some (!ds.isEmpty)
  | _ => none
theorem empty_all {F : Hp} {vs : List V} {ds : List D} (r : RepAll g F vs ds) : (!ds.isEmpty) = !vs.isEmpty := by cases r <;> rfl
theorem empty_kv {F : Hp} {vs : List (Key × V)} {ds : List (Key × D)} (r : RepKv g F vs ds) : (!ds.isEmpty) = !vs.isEmpty := by cases r <;> rfl
theorem tru_of {H F : Hp} {v : V} {d : D} {b : Bool} (hs : Same F H) (r : Rep g F v d) (e : truD d = some b) : TruV g.K v H b := by
  cases r with
  | non => cases e; rfl
  | bl b => cases e; rfl
  | int i => cases e; rfl
  | str hx => cases e; exact ⟨hx.1, rfl⟩
  | lst h r => cases e; exact .inl ⟨_, SqL.of (hs _ _ h), empty_all r⟩
  | tup h r => cases e; exact .inr (.inl ⟨_, hs.seqT h, empty_all r⟩)
  | dct h r => cases e; exact .inr (.inr ⟨_, hs _ _ h, empty_kv r⟩)
  | obj _ _ _ => cases e
  | dk => cases e
  | cls _ => cases e
  | shw _ => cases e
def sTru (f : Sm D) : Sm Bool := fun env k => (f env k).bind fun d k1 => .of (truD d) k1
theorem pdt_truth (hK : X.K = g.K) (ha : PD X g xc W a f) (he : ∀ whole, isTrue a X.env whole = (do let v ← whole; standAt a.pos; holding [v] (truthy v)) := by intro _; rfl) : PDT X g xc W a (sTru f) := by
  refine PT.imp (pt_truth ha he) fun σ H Q ⟨F, k, env, s, ok, q⟩ => ?_
  refine tD_then' s ok q fun v d H1 F1 k1 s1 ok1 ff1 r q1 => ?_
  cases ht : truD d with
  | none => rw [ht] at q1; exact q1.elim
  | some b =>
    rw [ht] at q1
    refine ⟨b, by rw [hK]; exact tru_of s1.sub r ht, q1 _ _ (.refl s1)⟩
def sB (f : Sm D) : Sm Bool := fun env k => (f env k).bind fun d k1 => match d with
  | .bl b => .ok b k1
  | _ => .bad
theorem pdt_cmp {op : CmpOp} {o : D → D → Option D} (ho : OpD X g (compareOp op) o) (ha : PD X g xc W a f) (hb : PD X g xc W b h) (hm : behindInMarks op b = false) : PDT X g xc W (.Compare a [op] [b] pos) (sB (sOp o f h)) := by
  obtain ⟨r, h1, h2⟩ := ho
  refine PT.imp (pt_cmpR h1 ha hb hm) fun σ H Q ⟨F, k, env, s, ok, q⟩ => ?_
  have q' : Ask g W σ H F k ((f env k).bind fun x k1 => (h env k1).bind fun y k2 => (Out.of (o x y) k2).bind fun d k3 => match d with | .bl b => .ok b k3 | _ => .bad) fun b H' F' k' => Q b H' := by
    have e : sB (sOp o f h) env k = (f env k).bind fun x k1 => (h env k1).bind fun y k2 => (Out.of (o x y) k2).bind fun d k3 => match d with | .bl b => .ok b k3 | _ => .bad := by
      unfold sB sOp
      cases f env k with
      | ok x k1 => simp only [bind_ok]; cases h env k1 <;> rfl
      | err c fs k1 => rfl
      | bad => rfl
    rw [← e]; exact q
  refine tD_then' s ok q' fun x da H1 F1 k1 s1 ok1 ff1 rx q1 => ?_
  refine tD_then' s1 ok1 q1 fun y db H2 F2 k2 s2 ok2 ff2 ry q2 => ?_
  cases hq : o da db with
  | none => rw [hq] at q2; exact q2.elim
  | some d =>
    rw [hq] at q2
    refine h2 H2 F2 k2 x y da db d _ s2 (rx.same ff2) ry hq fun w' H' F' s' rw' => ?_
    cases d with
    | bl b => rw [repBl rw']; exact ⟨b, rfl, q2 _ _ s'⟩
    | _ => exact q2.elim
/-- a bool as a test -/
theorem pdt_val (ha : PD X g xc W a f) (he : ∀ whole, isTrue a X.env whole = (do let v ← whole; standAt a.pos; holding [v] (truthy v)) := by intro _; rfl) : PDT X g xc W a (sB f) := by
  refine PT.imp (pt_val ha he) fun σ H Q ⟨F, k, env, s, ok, q⟩ => ?_
  refine tD_then' s ok q fun v d H1 F1 k1 s1 ok1 ff1 r q1 => ?_
  cases d with
  | bl b => rw [repBl r]; exact ⟨b, rfl, q1 _ _ (.refl s1)⟩
  | _ => exact q1.elim
def sAndB (p p' : Sm Bool) : Sm Bool := fun env k => (p env k).bind fun b k1 => if b = true then p' env k1 else .ok false k1
def sOrB (p p' : Sm Bool) : Sm Bool := fun env k => (p env k).bind fun b k1 => if b = true then .ok true k1 else p' env k1
def sNotB (p : Sm Bool) : Sm Bool := fun env k => (p env k).bind fun b k1 => .ok (!b) k1
theorem pdw_and1 (ha : PDT X g xc W a p) : PDW X g xc W (.BoolOp .And [a] pos) p := pw_and1 ha
theorem pdw_or1 (ha : PDT X g xc W a p) : PDW X g xc W (.BoolOp .Or [a] pos) p := pw_or1 ha
theorem tDT_id {σ : L2.St} {H F : Hp} {k : DkO} {env : List En} {Q : Bool → Hp → Prop} (s : Sta g H F k) (ok : EnvOk g xc k σ H F env) (q : Ask g W σ H F k (p env k) fun b H' F' k' => Q b H') : tDT g xc W p σ H Q := ⟨F, k, env, s, ok, q⟩
theorem pdw_and (ha : PDT X g xc W a p) (hb : PDW X g xc W (.BoolOp .And (b :: rest) pos) p') : PDW X g xc W (.BoolOp .And (a :: b :: rest) pos) (sAndB p p') := by
  refine PW.imp (pw_and ha hb) fun σ H Q ⟨F, k, env, s, ok, q⟩ => ?_
  refine tDT_then s ok q fun d H1 F1 k1 s1 ok1 ff1 q1 => ?_
  cases d with
  | true => exact tDT_id s1 ok1 q1
  | false => exact q1 _ _ (.refl s1)
theorem pdw_or (ha : PDT X g xc W a p) (hb : PDW X g xc W (.BoolOp .Or (b :: rest) pos) p') : PDW X g xc W (.BoolOp .Or (a :: b :: rest) pos) (sOrB p p') := by
  refine PW.imp (pw_or ha hb) fun σ H Q ⟨F, k, env, s, ok, q⟩ => ?_
  refine tDT_then s ok q fun d H1 F1 k1 s1 ok1 ff1 q1 => ?_
  cases d with
  | true => exact q1 _ _ (.refl s1)
  | false => exact tDT_id s1 ok1 q1
theorem PDW.pt (hh : PDW X g xc W e p) : PDT X g xc W e p := L2.PW.pt hh
theorem pdt_not (ha : PDT X g xc W a p) : PDT X g xc W (.UnaryOp .Not a pos) (sNotB p) := by
  refine PT.imp (pt_not ha) fun σ H Q ⟨F, k, env, s, ok, q⟩ => ?_
  exact tDT_then s ok q fun d H1 F1 k1 s1 ok1 ff1 q1 => q1 _ _ (.refl s1)

/-! ### and, or, not as values -/
def sAnd (f h : Sm D) : Sm D := fun env k => (f env k).bind fun d k1 => match truD d with
  | some true => h env k1
  | some false => .ok d k1
  | none => .bad
def sOr (f h : Sm D) : Sm D := fun env k => (f env k).bind fun d k1 => match truD d with
  | some true => .ok d k1
  | some false => h env k1
  | none => .bad
def sNot (f : Sm D) : Sm D := fun env k => (f env k).bind fun d k1 => match truD d with
  | some b => .ok (.bl (!b)) k1
  | none => .bad
theorem tD_id {σ : L2.St} {H F : Hp} {k : DkO} {env : List En} {Q : VK} (s : Sta g H F k) (ok : EnvOk g xc k σ H F env) (q : Ask g W σ H F k (f env k) fun d H' F' k' => ∀ v, Rep g F' v d → Q v H') : tD g xc W f σ H Q := ⟨F, k, env, s, ok, q⟩
theorem pd_one {op} (ha : PD X g xc W a f) : PD X g xc W (.BoolOp op [a] pos) f := pe_one ha
theorem pd_and (hK : X.K = g.K) (ha : PD X g xc W a f) (hb : PD X g xc W (.BoolOp .And (b :: rest) pos) h) : PD X g xc W (.BoolOp .And (a :: b :: rest) pos) (sAnd f h) := by
  refine PE.imp (pe_andT ha hb) fun σ H Q ⟨F, k, env, s, ok, q⟩ => ?_
  refine tD_then' s ok q fun v d H1 F1 k1 s1 ok1 ff1 r q1 => ?_
  cases ht : truD d with
  | none => rw [ht] at q1; exact q1.elim
  | some b =>
    rw [ht] at q1
    refine ⟨b, by rw [hK]; exact tru_of s1.sub r ht, ?_⟩
    cases b with
    | true => exact tD_id s1 ok1 q1
    | false => exact q1 _ _ (.refl s1) v r
theorem pd_or (hK : X.K = g.K) (ha : PD X g xc W a f) (hb : PD X g xc W (.BoolOp .Or (b :: rest) pos) h) : PD X g xc W (.BoolOp .Or (a :: b :: rest) pos) (sOr f h) := by
  refine PE.imp (pe_orT ha hb) fun σ H Q ⟨F, k, env, s, ok, q⟩ => ?_
  refine tD_then' s ok q fun v d H1 F1 k1 s1 ok1 ff1 r q1 => ?_
  cases ht : truD d with
  | none => rw [ht] at q1; exact q1.elim
  | some b =>
    rw [ht] at q1
    refine ⟨b, by rw [hK]; exact tru_of s1.sub r ht, ?_⟩
    cases b with
    | true => exact q1 _ _ (.refl s1) v r
    | false => exact tD_id s1 ok1 q1
theorem pd_not (hK : X.K = g.K) (ha : PD X g xc W a f) : PD X g xc W (.UnaryOp .Not a pos) (sNot f) := by
  refine PE.imp (pe_notT ha) fun σ H Q ⟨F, k, env, s, ok, q⟩ => ?_
  refine tD_then' s ok q fun v d H1 F1 k1 s1 ok1 ff1 r q1 => ?_
  cases ht : truD d with
  | none => rw [ht] at q1; exact q1.elim
  | some b =>
    rw [ht] at q1
    exact ⟨b, by rw [hK]; exact tru_of s1.sub r ht, q1 _ _ (.refl s1) _ (.bl _)⟩
def sIf (p : Sm Bool) (f h : Sm D) : Sm D := fun env k => (p env k).bind fun b k1 => if b = true then f env k1 else h env k1
theorem pd_if (hc : PDT X g xc W c p) (ha : PD X g xc W a f) (hb : PD X g xc W b h) : PD X g xc W (.IfExp c a b pos) (sIf p f h) := by
  refine PE.imp (pe_ifExp hc ha hb) fun σ H Q ⟨F, k, env, s, ok, q⟩ => ?_
  refine tDT_then s ok q fun d H1 F1 k1 s1 ok1 ff1 q1 => ?_
  cases d with
  | true => exact tD_id s1 ok1 q1
  | false => exact tD_id s1 ok1 q1
theorem pd_neg (ha : PD X g xc W a f) : PD X g xc W (.UnaryOp .USub a pos) (fun env k => (f env k).bind fun d k1 => match d with | .int i => .ok (.int (-i)) k1 | _ => .bad) := by
  refine PE.imp (pe_un un_neg ha) fun σ H Q ⟨F, k, env, s, ok, q⟩ => ?_
  refine tD_then' s ok q fun v d H1 F1 k1 s1 ok1 ff1 r q1 => ?_
  cases d with
  | int i => rw [repInt r]; exact ⟨i, rfl, q1 _ _ (.refl s1) _ (.int _)⟩
  | _ => exact q1.elim
/-- a op b op' c -/
def sChain (o o' : D → D → Option D) (f h q : Sm D) : Sm D := fun env k => (f env k).bind fun x k1 => (h env k1).bind fun y k2 => match o x y with
  | some (.bl true) => (q env k2).bind fun z k3 => match o' y z with
    | some (.bl b) => .ok (.bl b) k3
    | _ => .bad
  | some (.bl false) => .ok (.bl false) k2
  | _ => .bad
theorem chain_rd {r r' : R2} {op op' : D → D → Option D}
    (h2 : ∀ H F k x y a b d Q, Sta g H F k → Rep g F x a → Rep g F y b → op a b = some d → (∀ w H' F', Stp g H F k H' F' k → Rep g F' w d → Q w H') → r x y H Q)
    (h2' : ∀ H F k x y a b d Q, Sta g H F k → Rep g F x a → Rep g F y b → op' a b = some d → (∀ w H' F', Stp g H F k H' F' k → Rep g F' w d → Q w H') → r' x y H Q)
    {σ : L2.St} {H F : Hp} {k : DkO} {env : List En} {Q : Bool → Hp → Prop} (s : Sta g H F k) (ok : EnvOk g xc k σ H F env)
    (q0 : Ask g W σ H F k (sChain op op' f h q env k) fun d H' F' k' => ∀ b, d = .bl b → Q b H') {Q' : VK} (hQ : ∀ b H, Q b H → Q' (.bl b) H) : tChain r r' (tD g xc W f) (tD g xc W h) (tD g xc W q) σ H Q' := by
  refine tD_then' s ok q0 fun x da H1 F1 k1 s1 ok1 ff1 rx q1 => ?_
  refine tD_then' s1 ok1 q1 fun y db H2 F2 k2 s2 ok2 ff2 ry q2 => ?_
  cases hq : op da db with
  | none => rw [hq] at q2; exact q2.elim
  | some d =>
    rw [hq] at q2
    refine h2 H2 F2 k2 x y da db d _ s2 (rx.same ff2) ry hq fun w' H' F' s' rw' => ?_
    cases d with
    | bl b =>
      rw [repBl rw']
      refine ⟨b, rfl, ?_⟩
      cases b with
      | false => exact hQ _ _ (q2 _ _ s' _ rfl)
      | true =>
        have q3 := Ask.after q2 s'
        refine tD_then' s'.st (ok2.step s') q3 fun z dz H4 F4 k4 s4 ok4 ff4 rz q4 => ?_
        cases hq2 : op' db dz with
        | none => rw [hq2] at q4; exact q4.elim
        | some d2 =>
          rw [hq2] at q4
          refine h2' H4 F4 k4 y z db dz d2 _ s4 ((ry.same s'.ff).same ff4) rz hq2 fun w2 H5 F5 s5 rw2 => ?_
          cases d2 with
          | bl b2 => rw [repBl rw2]; exact hQ _ _ (q4 _ _ s5 _ rfl)
          | _ => exact q4.elim
    | _ => exact q2.elim
theorem sChain_bl {op op' : D → D → Option D} {env : List En} {k k' : DkO} {d : D} (e : sChain op op' f h q env k = .ok d k') : ∃ b, d = .bl b := by
  unfold sChain at e
  cases hf : f env k with
  | bad => rw [hf] at e; cases e
  | err c fs k1 => rw [hf] at e; cases e
  | ok x k1 =>
    rw [hf] at e; simp only [bind_ok] at e
    cases hh : h env k1 with
    | bad => rw [hh] at e; cases e
    | err c fs k1 => rw [hh] at e; cases e
    | ok y k2 =>
      rw [hh] at e; simp only [bind_ok] at e
      split at e
      · cases hq : q env k2 with
        | bad => rw [hq] at e; cases e
        | err c fs k1 => rw [hq] at e; cases e
        | ok z k3 =>
          rw [hq] at e; simp only [bind_ok] at e
          split at e
          · cases e; exact ⟨_, rfl⟩
          · cases e
      · cases e; exact ⟨_, rfl⟩
      · cases e
theorem pd_chain {op op' : CmpOp} {o o' : D → D → Option D} (ho : OpD X g (compareOp op) o) (ho' : OpD X g (compareOp op') o') (ha : PD X g xc W a f) (hb : PD X g xc W b h) (hc : PD X g xc W c q)
    (hm : lastMarks [op, op'] [b, c] = false := by with_unfolding_all rfl) : PD X g xc W (.Compare a [op, op'] [b, c] pos) (sChain o o' f h q) := by
  obtain ⟨r, h1, h2⟩ := ho
  obtain ⟨r', h1', h2'⟩ := ho'
  refine PE.imp (pe_chain h1 h1' ha hb hc hm) fun σ H Q ⟨F, k, env, s, ok, q0⟩ => ?_
  refine chain_rd (Q := fun b H' => Q (.bl b) H') h2 h2' s ok (q0.imp fun d H' F' k' _ st z b e => ?_) fun b H z => z
  subst e; exact z _ (.bl _)
theorem pdt_chain {op op' : CmpOp} {o o' : D → D → Option D} (ho : OpD X g (compareOp op) o) (ho' : OpD X g (compareOp op') o') (ha : PD X g xc W a f) (hb : PD X g xc W b h) (hc : PD X g xc W c q)
    (hm : lastMarks [op, op'] [b, c] = false := by with_unfolding_all rfl) : PDT X g xc W (.Compare a [op, op'] [b, c] pos) (sB (sChain o o' f h q)) := by
  obtain ⟨r, h1, h2⟩ := ho
  obtain ⟨r', h1', h2'⟩ := ho'
  refine PT.imp (pt_chain h1 h1' ha hb hc hm) fun σ H Q ⟨F, k, env, s, ok, q0⟩ => ?_
  refine chain_rd (Q := fun b H' => Q b H') h2 h2' s ok ((Ask.bind q0).imp fun d H' F' k' _ st z b e => ?_) fun b H z => ⟨b, rfl, z⟩
  subst e; exact z _ _ (.refl st.st)

/-! ### displays -/
def lNil : Sm (List D) := fun _ k => .ok [] k
def lCons (f : Sm D) (l : Sm (List D)) : Sm (List D) := fun env k => (f env k).bind fun d k1 => (l env k1).bind fun ds k2 => .ok (d :: ds) k2
def lStar (f : Sm D) (l : Sm (List D)) : Sm (List D) := fun env k => (f env k).bind fun d k1 => match seqOf d with
  | some xs => (l env k1).bind fun ds k2 => .ok (xs ++ ds) k2
  | none => .bad
theorem pda_nil : PDA X g xc W [] lNil := PA.imp pa_nil fun σ H Q ⟨F, k, env, s, ok, q⟩ => q H F (.refl s) [] .nil
theorem pda_cons (ha : PD X g xc W e f) (hr : PDA X g xc W es l) (hs : starEach (e :: es) X.env = (false, eval e X.env) :: starEach es X.env := by rfl) : PDA X g xc W (e :: es) (lCons f l) := by
  refine PA.imp (pa_cons ha hr hs) fun σ H Q ⟨F, k, env, s, ok, q⟩ => ?_
  refine tD_then' s ok q fun v d H1 F1 k1 s1 ok1 ff1 r q1 => ?_
  exact tDA_then s1 ok1 q1 fun vs ds H2 F2 k2 s2 ok2 ff2 rs q2 => q2 _ _ (.refl s2) _ (.cons (r.same ff2) rs)
theorem pda_star {p : Pos} (hK : X.K = g.K) (ha : PD X g xc W e f) (hr : PDA X g xc W es l) (hs : starEach (.Starred e p :: es) X.env = (true, eval e X.env) :: starEach es X.env := by rfl) : PDA X g xc W (.Starred e p :: es) (lStar f l) := by
  refine PA.imp (StX.pa_star ha hr hs) fun σ H Q ⟨F, k, env, s, ok, q⟩ => ?_
  refine tD_then' s ok q fun v d H1 F1 k1 s1 ok1 ff1 r q1 => ?_
  cases hq : seqOf d with
  | none => rw [hq] at q1; exact q1.elim
  | some xs =>
    rw [hq] at q1
    obtain ⟨a, vs, rfl, hs, rx⟩ := seq_rep r hq
    refine ⟨a, vs, rfl, by rw [hK]; exact hs.symm.imp s1.sub.seqT s1.sub.seq, ?_⟩
    exact tDA_then s1 ok1 q1 fun ws ds H2 F2 k2 s2 ok2 ff2 rs q2 => q2 _ _ (.refl s2) _ ((rx.same ff2).app rs)
def sTup (l : Sm (List D)) : Sm D := fun env k => (l env k).bind fun ds k1 => if ds.length ≤ sizeLine then .ok (.tup ds) k1 else .bad
def sLst (l : Sm (List D)) : Sm D := fun env k => (l env k).bind fun ds k1 => if ds.length ≤ sizeLine then .ok (.lst ds) k1 else .bad
theorem pd_tup {x1} (hl : PDA X g xc W es l) : PD X g xc W (.Tuple es x1 pos) (sTup l) := by
  refine PE.imp (pe_tup hl) fun σ H Q ⟨F, k, env, s, ok, q⟩ => ?_
  refine tDA_then s ok q fun vs ds H1 F1 k1 s1 ok1 ff1 r q1 => ?_
  by_cases hz : ds.length ≤ sizeLine
  · rw [if_pos hz] at q1
    refine ⟨by rw [r.length]; exact hz, fun p np => ?_⟩
    have st := Stp.laid (o := .tup vs) s1 np
    exact q1 _ _ st _ (.tup (SqT.of upd_same) (r.same st.ff))
  · rw [if_neg hz] at q1; exact q1.elim
theorem pd_lst (hl : PDA X g xc W es l) : PD X g xc W (.List es pos) (sLst l) := by
  refine PE.imp (pe_lst hl) fun σ H Q ⟨F, k, env, s, ok, q⟩ => ?_
  refine tDA_then s ok q fun vs ds H1 F1 k1 s1 ok1 ff1 r q1 => ?_
  by_cases hz : ds.length ≤ sizeLine
  · rw [if_pos hz] at q1
    refine ⟨by rw [r.length]; exact hz, fun p np => ?_⟩
    have st := Stp.laid (o := .lst vs) s1 np
    exact q1 _ _ st _ (.lst upd_same (r.same st.ff))
  · rw [if_neg hz] at q1; exact q1.elim
theorem pd_dnew : PD X g xc W (.Dict [] [] pos) (sC (.dct [])) := by
  refine PE.imp pe_dnewK fun σ H Q ⟨F, k, env, s, ok, q⟩ => ?_
  intro d hd
  have st := Stp.laid (o := .dK []) s hd
  exact q _ _ st _ (.dct upd_same .nil)

/-! ### subscripts -/
def IxD (X : Cx) (g : G) (op : D → D → Option D) : Prop :=
  ∃ r : R2, IxR X r ∧ ∀ H F k x y a b d Q, Sta g H F k → Rep g F x a → Rep g F y b → op a b = some d → (∀ w H' F', Stp g H F k H' F' k → Rep g F' w d → Q w H') → r x y H Q
def ixD : D → D → Option D
  | .lst ds, .int i => atI ds i
  | .tup ds, .int i => atI ds i
  | .str x, .int i => (atI x.cps.toList i).map fun c => .str ⟨#[c]⟩
  | _, _ => none
theorem RepAll.atI {F : Hp} {vs : List V} {ds : List D} {i : Int} {d : D} (r : RepAll g F vs ds) (e : L2.atI ds i = some d) : ∃ v, L2.atI vs i = some v ∧ Rep g F v d := by
  unfold L2.atI at *
  rw [r.length]
  cases hq : ixN ds.length i with
  | none => rw [hq] at e; cases e
  | some j =>
    rw [hq] at e
    exact r.get e
theorem sign_ok {x : Str} {c : Nat} (h : SOk x) (hc : c ∈ x.cps.toList) : SOk ⟨#[c]⟩ := by
  refine ⟨by show 1 ≤ sizeLine; decide, ?_⟩
  have h2 := h.2
  unfold PyData.strOk at *
  rw [Array.all_eq_true'] at h2 ⊢
  intro d hd
  have e : d = c := by simpa using hd
  subst e
  exact h2 d (by simpa using hc)
theorem atI_mem {α : Type} {xs : List α} {i : Int} {x : α} (h : L2.atI xs i = some x) : x ∈ xs := by
  obtain ⟨j, _, h2, _⟩ := atI_get h
  exact List.mem_of_getElem? h2
theorem ixd (hK : X.K = g.K) : IxD X g ixD := by
  refine ⟨_, IxR.or ix_list (IxR.or ix_tup ix_str), fun H F k x y a b d Q s ra rb e q => ?_⟩
  unfold ixD at e
  split at e
  · obtain ⟨p, vs, rfl, h1, r1⟩ := repLst ra
    obtain ⟨v, e1, rv⟩ := r1.atI e
    rw [repInt rb, hK]
    exact .inl ⟨p, vs, _, v, rfl, rfl, SqL.of (s.sub _ _ h1), e1, q _ _ _ (.refl s) rv⟩
  · obtain ⟨p, vs, rfl, h1, r1⟩ := repTup ra
    obtain ⟨v, e1, rv⟩ := r1.atI e
    rw [repInt rb, hK]
    exact .inr (.inl ⟨p, vs, _, v, rfl, rfl, s.sub.seqT h1, e1, q _ _ _ (.refl s) rv⟩)
  · obtain ⟨rfl, hx⟩ := repStr ra
    rw [repInt rb]
    obtain ⟨c, e1, rfl⟩ := Option.map_eq_some_iff.mp e
    exact .inr (.inr ⟨_, _, c, rfl, rfl, hx.1, e1, q _ _ _ (.refl s) (.str (sign_ok hx (atI_mem e1)))⟩)
  · cases e
def sIx (f h : Sm D) : Sm D := sOp ixD f h
theorem pd_ix (hK : X.K = g.K) (ha : PD X g xc W a f) (hb : PD X g xc W b h) (hs : PlainIx b := by exact fun _ _ => rfl) : PD X g xc W (.Subscript a b pos) (sIx f h) := by
  obtain ⟨r, h1, h2⟩ := ixd hK
  refine PE.imp (pe_ix h1 ha hb hs) fun σ H Q ⟨F, k, env, s, ok, q⟩ => ?_
  refine tD_then' s ok q fun x da H1 F1 k1 s1 ok1 ff1 rx q1 => ?_
  refine tD_then' s1 ok1 q1 fun y db H2 F2 k2 s2 ok2 ff2 ry q2 => ?_
  exact op_ask h2 s2 (rx.same ff2) ry q2
/-! slices -/
def PDO (X : Cx) (g : G) (xc : XC) (W : WX) (e : Option Expr) (f : Sm (Option Int)) : Prop :=
  PO X e fun σ H Q => ∃ F k env, Sta g H F k ∧ EnvOk g xc k σ H F env ∧ Ask g W σ H F k (f env k) fun i H' F' k' => Q i H'
def oNone : Sm (Option Int) := fun _ k => .ok none k
def oSome (f : Sm D) : Sm (Option Int) := fun env k => (f env k).bind fun d k1 => match d with
  | .int i => .ok (some i) k1
  | _ => .bad
theorem PO.imp {X : Cx} {e : Option Expr} {t t' : TO} (h : PO X e t) (f : ∀ σ H Q, t' σ H Q → t σ H Q) : PO X e t' := ⟨fun pins s σ H Q I q => h.run pins s σ H Q I (f σ H Q q)⟩
theorem pdo_none : PDO X g xc W none oNone := PO.imp po_none fun σ H Q ⟨F, k, env, s, ok, q⟩ => q H F (.refl s)
theorem pdo_some (ha : PD X g xc W a f) : PDO X g xc W (some a) (oSome f) := by
  refine PO.imp (po_some ha) fun σ H Q ⟨F, k, env, s, ok, q⟩ => ?_
  refine tD_then' s ok q fun v d H1 F1 k1 s1 ok1 ff1 r q1 => ?_
  cases d with
  | int i => rw [repInt r]; exact ⟨i, rfl, q1 _ _ (.refl s1)⟩
  | _ => exact q1.elim
def cutL {α : Type} (xs : List α) (lo hi : Option Int) : List α := (xs.drop (HT.sIx xs.length 0 lo)).take (HT.sIx xs.length xs.length hi - HT.sIx xs.length 0 lo)
def slD : D → Option Int → Option Int → Option D
  | .lst ds, lo, hi => some (.lst (cutL ds lo hi))
  | .tup ds, lo, hi => some (.tup (cutL ds lo hi))
  | .str x, lo, hi => some (.str (cutS x lo hi))
  | _, _, _ => none
theorem RepAll.cut {F : Hp} {vs : List V} {ds : List D} (r : RepAll g F vs ds) (lo hi : Option Int) : RepAll g F (cutV vs lo hi) (cutL ds lo hi) := by
  unfold cutV cutL
  rw [r.length]
  exact (r.drop _).take _
theorem strOk_sub {x y : Str} (h : PyData.strOk x = true) (hs : ∀ c ∈ y.cps.toList, c ∈ x.cps.toList) : PyData.strOk y = true := by
  unfold PyData.strOk at *
  rw [Array.all_eq_true'] at h ⊢
  exact fun c hc => h c (by simpa using hs c (by simpa using hc))
theorem len_list (x : Str) : x.length = x.cps.toList.length := by
  show x.cps.size = _
  simp
theorem cut_ok {x : Str} (h : SOk x) (lo hi : Option Int) : SOk (cutS x lo hi) := by
  refine ⟨?_, strOk_sub h.2 fun c hc => ?_⟩
  · have e : (cutS x lo hi).length = ((x.cps.toList.drop (HT.sIx x.length 0 lo)).take (HT.sIx x.length x.length hi - HT.sIx x.length 0 lo)).length := by
      rw [len_list]; rfl
    rw [e, List.length_take, List.length_drop, ← len_list]
    have := h.1
    omega
  · have hc' : c ∈ (x.cps.toList.drop (HT.sIx x.length 0 lo)).take (HT.sIx x.length x.length hi - HT.sIx x.length 0 lo) := hc
    exact List.mem_of_mem_drop (List.mem_of_mem_take hc')
theorem cut_whole {α : Type} {xs : List α} {lo hi : Option Int} (h : HT.sIx xs.length 0 lo = 0 ∧ HT.sIx xs.length xs.length hi = xs.length) : cutL xs lo hi = xs := by
  unfold cutL
  rw [h.1, h.2]
  simp
def sSl (f : Sm D) (lo hi : Sm (Option Int)) : Sm D := fun env k => (f env k).bind fun d k1 => (lo env k1).bind fun l k2 => (hi env k2).bind fun u k3 => .of (slD d l u) k3
theorem pd_slice {lo hi : Option Expr} {fl fh : Sm (Option Int)} {p2 : Pos} (hK : X.K = g.K) (ha : PD X g xc W a f) (hl : PDO X g xc W lo fl) (hh : PDO X g xc W hi fh) : PD X g xc W (.Subscript a (.Slice lo hi none p2) pos) (sSl f fl fh) := by
  refine PE.imp (pe_slice (SlR.or sl_list (SlR.or (by have := @sl_tupA X; exact this) sl_str)) ha hl hh) fun σ H Q ⟨F, k, env, s, ok, q⟩ => ?_
  refine tD_then' s ok q fun x d H1 F1 k1 s1 ok1 ff1 rx q1 => ?_
  refine ⟨F1, k1, env, s1, ok1, (Ask.bind q1).imp fun l H2 F2 k2 _ s2 q2 => ?_⟩
  refine ⟨F2, k2, env, s2.st, ok1.step s2, (Ask.bind q2).imp fun u H3 F3 k3 _ s3 q3 => ?_⟩
  have r3 := (rx.same s2.ff).same s3.ff
  have S := s3.st
  cases d with
  | lst ds =>
    obtain ⟨p, vs, rfl, h1, r1⟩ := repLst r3
    refine .inl ⟨p, vs, rfl, by rw [hK]; exact SqL.of (S.sub _ _ h1), fun z nz => ?_⟩
    have st := Stp.laid (o := .lst (cutV vs l u)) S nz
    exact q3 _ _ st _ (.lst upd_same ((r1.cut l u).same st.ff))
  | tup ds =>
    obtain ⟨p, vs, rfl, h1, r1⟩ := repTup r3
    refine .inr (.inl ⟨p, vs, rfl, by rw [hK]; exact S.sub.seqT h1, fun hw => ?_, fun _ z nz => ?_⟩)
    · rw [r1.length] at hw
      refine q3 _ _ (.refl S) _ ?_
      rw [cut_whole hw]
      exact .tup h1 r1
    · have st := Stp.laid (o := .tup (cutV vs l u)) S nz
      exact q3 _ _ st _ (.tup (SqT.of upd_same) ((r1.cut l u).same st.ff))
  | str z =>
    obtain ⟨rfl, hx⟩ := repStr r3
    exact .inr (.inr ⟨z, rfl, hx.1, q3 _ _ (.refl S) _ (.str (cut_ok hx l u))⟩)
  | _ => exact q3.elim
end
end DL
set_option Elab.async false
set_option linter.all false
set_option maxRecDepth 100000
set_option maxHeartbeats 4000000
/-! fields, built-in calls, methods of texts -/
namespace DL
open PySem PySem.Spec L2
open PySem.W (Frag)
/-- what the written part says of an own class -/
structure OwnC (K : Frag) (C : Addr) : Prop where
  cl : Cls K C
  c1 : PySem.W.findIn K (.ref C) "__class__" = some (some (.builtin "object.__class__"))
  c2 : PySem.W.specialIn K (.builtin "object.__class__") "__get__" = some (some (.builtin "getset_descriptor.__get__"))
  c3 : PySem.W.takesIn K (.builtin "object.__class__") = some true
  c4 : PySem.W.mroIn K C (.type "object") = some true
  ty : PySem.W.typeIn K (.ref C) = some (.type "type")
  self : PySem.W.mroIn K C (.ref C) = some true
  nb : ∀ T : String, T ∈ ["bool", "int", "str", "tuple", "list", "dict"] → PySem.W.mroIn K C (.type T) = some false
theorem OwnC.isCls {K : Frag} {C : Addr} (o : OwnC K C) : (PySem.W.clsIn K C).isSome = true := by
  have h := o.cl.hd
  unfold PySem.W.hasDictIn at h
  obtain ⟨cd, hc, _⟩ := PySem.W.any_some h
  rw [hc]; rfl
/-- of every own class in use -/
def OwnAll (g : G) : Prop := ∀ c, c ∈ g.own → OwnC g.K (g.cl c)
def bltTy : List String := ["bool", "int", "str", "tuple", "list", "dict"]
/-- the name of the type -/
def tyN : D → String
  | .non => "NoneType"
  | .bl _ => "bool"
  | .int _ => "int"
  | .str _ => "str"
  | .lst _ => "list"
  | .tup _ => "tuple"
  | .dct _ => "dict"
  | .dk => "dict"
  | .obj c _ => c
  | .cls c => c
  | .shw _ => "str"
def D.isObj : D → Bool
  | .obj _ _ => true
  | _ => false
def D.isCls : D → Bool
  | .cls _ => true
  | .shw _ => true
  | _ => false
def isTyN (T n : String) : Bool := T == n || (T == "int" && n == "bool")
def isTy (T : String) : D → Bool
  | .obj _ _ => false
  | .cls _ => false
  | d => isTyN T (tyN d)
theorem kit_all : ∀ n ∈ ["NoneType", "bool", "int", "str", "list", "tuple", "dict"], ∀ T ∈ bltTy, kitB n T = some (isTyN T n) := by decide +kernel
def isTyV : Value → Bool
  | .type _ => true
  | _ => false
theorem mro_all : ∀ n ∈ ["NoneType", "bool", "int", "str", "list", "tuple", "dict"], (PySem.fastBuiltinMro n).map (·.all isTyV) = some true := by decide +kernel
theorem mro_ty (n : String) (hn : n ∈ ["NoneType", "bool", "int", "str", "list", "tuple", "dict"]) (C : Addr) : (PySem.fastBuiltinMro n).map (·.contains (Value.ref C)) = some false := by
  have h := mro_all n hn
  cases q : PySem.fastBuiltinMro n with
  | none => rw [q] at h; cases h
  | some l =>
    rw [q] at h
    have h' : l.all isTyV = true := Option.some.inj h
    show some (l.contains (Value.ref C)) = some false
    congr 1
    rw [Bool.eq_false_iff]
    intro z
    have hm : Value.ref C ∈ l := by simpa using z
    have := List.all_eq_true.mp h' _ hm
    cases this
section
variable {X : Cx} {g : G} {xc : XC} {W : WX} {a b c e o : Expr} {es rest : List Expr} {f h q : Sm D} {p p' : Sm Bool} {l : Sm (List D)} {pos : Pos}

/-! ### types -/
theorem ty_of (hO : OwnAll g) {H F : Hp} {v : V} {d : D} {k : DkO} (s : Sta g H F k) (hk : d = .dk → k ≠ none) (hl : d.isCls = false) (r : Rep g F v d) : ∃ t, TyX g.K H v t ∧ t = (if d.isObj = true then .ref (g.cl (tyN d)) else .type (tyN d)) := by
  cases r with
  | non => exact ⟨_, .base .non, rfl⟩
  | bl b => exact ⟨_, .base (.bl b), rfl⟩
  | int i => exact ⟨_, .base (.int i), rfl⟩
  | str h => exact ⟨_, .base (.str _), rfl⟩
  | lst h r => exact ⟨_, .base (.lst (s.sub _ _ h)), rfl⟩
  | tup h r =>
    refine ⟨.type "tuple", ?_, rfl⟩
    rcases s.sub.seqT h with (h | ⟨o, h⟩) | h
    · exact .base (.tup h)
    · exact .fTuple h
    · obtain ⟨o, us, n, h1, h2, h3⟩ := h
      exact .kTuple h1 h2
  | dct h r => exact ⟨_, .base (.dK (s.sub _ _ h)), rfl⟩
  | obj hc h r => exact ⟨_, .base (.ins (s.sub _ _ h) (hO _ hc).cl (hO _ hc).c1 (hO _ hc).c2 (hO _ hc).c3 (hO _ hc).c4), rfl⟩
  | dk =>
    cases k with
    | none => exact absurd rfl (hk rfl)
    | some k => exact ⟨_, .base (.dK s.dk.1), rfl⟩
  | cls _ => cases hl
  | shw _ => cases hl
theorem kit_blt (hO : OwnAll g) {d : D} {F : Hp} {v : V} (hl : d.isCls = false) (r : Rep g F v d) {T : String} (hT : T ∈ bltTy) : PySem.W.kitOne g.K (if d.isObj = true then .ref (g.cl (tyN d)) else .type (tyN d)) (.type T) = some (isTy T d) := by
  have hT' : T = "bool" ∨ T = "int" ∨ T = "str" ∨ T = "tuple" ∨ T = "list" ∨ T = "dict" := by simpa [bltTy] using hT
  cases r with
  | obj hc h r =>
    rename_i a dx c fs ds
    show PySem.W.kitOne g.K (.ref (g.cl c)) (.type T) = some false
    unfold PySem.W.kitOne
    rw [if_neg (show ¬ ((Value.ref (g.cl c) == Value.type T) = true) from fun z => by cases z)]
    show (if PySem.W.kitMeta T = true then PySem.W.subIn g.K (.ref (g.cl c)) (.type T) else none) = some false
    have hm : PySem.W.kitMeta T = true := by
      rcases hT' with rfl | rfl | rfl | rfl | rfl | rfl <;> decide +kernel
    rw [if_pos hm]
    exact (hO _ hc).nb T hT
  | cls _ => cases hl
  | shw _ => cases hl
  | _ => exact kit_ty (kit_all _ (by simp [tyN]) T hT)
def sIsi (T : String) (f : Sm D) : Sm D := fun env k => (f env k).bind fun d k1 => match d with
  | .dk => .bad
  | .cls _ => .bad
  | .shw _ => .bad
  | d => .ok (.bl (isTy T d)) k1
/-- isinstance(e, T), T a built-in type -/
theorem pd_isi {T : String} {x : Str} {p2 p3 : Pos} (hK : X.K = g.K) (hO : OwnAll g) (hT : T ∈ bltTy) (hT2 : PE X (.Name x p3) (tC (.ty T))) (hg : Gl X "isinstance") (hm : X.mg "isinstance" = none) (ha : PD X g xc W e f)
    (he1 : starEach [e, .Name x p3] X.env = (false, eval e X.env) :: starEach [.Name x p3] X.env := by rfl)
    (hpl : (backTo pos (starEach [.Name x p3] X.env)).any (·.1) = false := by rfl) : PD X g xc W (.Call (.Name "isinstance" p2) [e, .Name x p3] [] pos) (sIsi T f) := by
  refine PE.imp (pe_callB call_isi hg hm (by decide +kernel) (pa_cons ha (pa_cons hT2 pa_nil) he1) (by decide) (by decide) he1 hpl) fun σ H Q ⟨F, k, env, s, ok, q⟩ => ?_
  refine tD_then' s ok q fun v d H1 F1 k1 s1 ok1 ff1 r q1 => ?_
  have hd : d ≠ .dk := fun z => by subst z; exact q1.elim
  have hl : d.isCls = false := by
    cases d <;> first | rfl | exact q1.elim
  have q2 : Ask g W σ H1 F1 k1 (.ok (.bl (isTy T d)) k1) fun d H' F' k' => ∀ v, Rep g F' v d → Q v H' := by
    cases d <;> first | exact q1 | exact absurd rfl hd | cases hl
  obtain ⟨t, ht, et⟩ := ty_of hO s1 (fun z => absurd z hd) hl r
  refine ⟨v, .ty T, t, .type T, isTy T d, rfl, .ty _, by rw [hK]; exact ht, by rw [hK, et]; exact kit_blt hO hl r hT, q2 _ _ (.refl s1) _ (.bl _)⟩
def isCl (c : String) : D → Bool
  | .obj c' _ => c' == c
  | _ => false
theorem kit_own (hO : OwnAll g) {d : D} {F : Hp} {v : V} (hl : d.isCls = false) (r : Rep g F v d) {c : String} (hc : c ∈ g.own) (hi : ∀ c', c' ∈ g.own → c' ≠ c → PySem.W.mroIn g.K (g.cl c') (.ref (g.cl c)) = some false) :
    PySem.W.kitOne g.K (if d.isObj = true then .ref (g.cl (tyN d)) else .type (tyN d)) (.ref (g.cl c)) = some (isCl c d) := by
  have hcl : ∀ t : Value, (t == Value.ref (g.cl c)) = false → PySem.W.kitOne g.K t (.ref (g.cl c)) = PySem.W.subIn g.K t (.ref (g.cl c)) := fun t ht => by
    unfold PySem.W.kitOne
    rw [if_neg (by rw [ht]; exact Bool.false_ne_true)]
    show (if ((PySem.W.clsIn g.K (g.cl c)).isSome && PySem.W.typeIn g.K (.ref (g.cl c)) == some (.type "type")) = true then _ else none) = _
    rw [(hO c hc).isCls, (hO c hc).ty, if_pos (by simp)]
  have tyq : ∀ n, n ∈ ["NoneType", "bool", "int", "str", "list", "tuple", "dict"] → PySem.W.kitOne g.K (.type n) (.ref (g.cl c)) = some false := fun n hn => (hcl _ rfl).trans (mro_ty n hn _)
  cases r with
  | obj hc' h r =>
    rename_i a dx c' fs ds
    show PySem.W.kitOne g.K (.ref (g.cl c')) (.ref (g.cl c)) = some (c' == c)
    by_cases e : c' = c
    · subst e
      unfold PySem.W.kitOne
      rw [if_pos (by simp)]
      simp
    · have e2 : (c' == c) = false := by simpa using e
      rw [e2]
      by_cases e3 : g.cl c' = g.cl c
      · have z := hi c' hc' e
        rw [e3] at z
        have z2 : PySem.W.mroIn g.K (g.cl c) (.ref (g.cl c)) = some true := by
          exact (hO c hc).self
        rw [z] at z2; cases z2
      · rw [hcl _ (by simpa using e3)]
        exact hi c' hc' e
  | non => exact tyq "NoneType" (by decide)
  | bl _ => exact tyq "bool" (by decide)
  | int _ => exact tyq "int" (by decide)
  | str _ => exact tyq "str" (by decide)
  | lst _ _ => exact tyq "list" (by decide)
  | tup _ _ => exact tyq "tuple" (by decide)
  | dct _ _ => exact tyq "dict" (by decide)
  | dk => exact tyq "dict" (by decide)
  | cls _ => cases hl
  | shw _ => cases hl
end
end DL
set_option Elab.async false
set_option linter.all false
set_option maxRecDepth 100000
set_option maxHeartbeats 4000000
/-! calls: built-ins, methods of texts, own functions, own classes -/
namespace DL
open PySem PySem.Spec L2
open PySem.W (Frag)
/-- a function by trees -/
abbrev Fn := List D → DkO → Out D
/-- what is asked of a function's outcome -/
def AskF {α : Type} (g : G) (E : XK) (H F : Hp) (k : DkO) (o : Out α) (Q : α → Hp → Hp → DkO → Prop) : Prop := Ask g (fun c d _ H => E c d H) [] H F k o Q
theorem AskF.of {α : Type} {g : G} {W : WX} {σ : L2.St} {H F : Hp} {k : DkO} {o : Out α} {Q : α → Hp → Hp → DkO → Prop} (h : Ask g W σ H F k o Q) : AskF g (WE W σ) H F k o Q := by
  cases o <;> exact h
theorem AskF.to {α : Type} {g : G} {E : XK} {σ : L2.St} {H F : Hp} {k : DkO} {o : Out α} {Q : α → Hp → Hp → DkO → Prop} (h : AskF g E H F k o Q) : Ask g (fun c d _ H => E c d H) σ H F k o Q := by
  cases o <;> exact h
/-- a def's promise by trees -/
def SpD (g : G) (n : Nat) (f : Fn) : Sp := fun vs H Q E => vs.length = n ∧ ∃ F k ds, Sta g H F k ∧ RepAll g F vs ds ∧ AskF g E H F k (f ds k) fun d H' F' k' => ∀ v, Rep g F' v d → Q v H'
/-- values in another order: m by position, j by name -/
def ord {α : Type} (m j : Nat) (ix : List Nat) (us ws : List α) : List α := if us.length = m ∧ ws.length = j then ix.filterMap fun i => (us ++ ws)[i]? else []
theorem vals_pick {xs : List V} {us : List Value} (r : Vals xs us) : ∀ ix : List Nat, Vals (ix.filterMap fun i => xs[i]?) (ix.filterMap fun i => us[i]?)
  | [] => .nil
  | i :: ix => by
    have ih := vals_pick r ix
    cases hx : xs[i]? with
    | none =>
      rw [List.filterMap_cons_none hx, List.filterMap_cons_none (r.none_of hx)]; exact ih
    | some x =>
      obtain ⟨u, hu, ru⟩ := r.get hx
      rw [List.filterMap_cons_some hx, List.filterMap_cons_some hu]; exact .cons ru ih
theorem rep_pick {g : G} {F : Hp} {xs : List V} {ds : List D} (r : RepAll g F xs ds) : ∀ ix : List Nat, RepAll g F (ix.filterMap fun i => xs[i]?) (ix.filterMap fun i => ds[i]?)
  | [] => .nil
  | i :: ix => by
    have ih := rep_pick r ix
    cases hx : xs[i]? with
    | none =>
      have hd : ds[i]? = none := by
        have h1 := List.getElem?_eq_none_iff.mp hx
        exact List.getElem?_eq_none_iff.mpr (by rw [← r.length]; exact h1)
      rw [List.filterMap_cons_none hx, List.filterMap_cons_none hd]; exact ih
    | some x =>
      obtain ⟨d, hd, rd⟩ := r.get' hx
      rw [List.filterMap_cons_some hx, List.filterMap_cons_some hd]; exact .cons rd ih
theorem vals_ord {m j : Nat} {ix : List Nat} {vs zs : List V} {us ws : List Value} (r : Vals vs us) (rz : Vals zs ws) : Vals (ord m j ix vs zs) (ord m j ix us ws) := by
  unfold ord
  rw [r.length, rz.length]
  split
  · exact vals_pick (r.append rz) ix
  · exact .nil
theorem rep_ord {g : G} {F : Hp} {m j : Nat} {ix : List Nat} {vs zs : List V} {us ws : List D} (r : RepAll g F vs us) (rz : RepAll g F zs ws) : RepAll g F (ord m j ix vs zs) (ord m j ix us ws) := by
  unfold ord
  rw [r.length, rz.length]
  split
  · exact rep_pick (r.app rz) ix
  · exact .nil
/-- how m values by position and those of the names ks are bound -/
theorem kb_ord {K : Frag} {fd : FuncData} {ps ks : List Str} {m j : Nat} {ix : List Nat} (hps : ps ≠ []) (h : ∀ (s : Shared) (us ws : List Value), K.In s.heap → us.length = m → ws.length = j → BindsTo s fd ⟨us, ks.zip ws⟩ (ps.zip (ix.filterMap fun i => (us ++ ws)[i]?))) :
    KBinds K fd ps ks (ord m j ix) (ord m j ix) := by
  refine ⟨fun s us ws hk hl => ?_, fun r rz => vals_ord r rz⟩
  unfold ord at *
  split
  · rename_i hc
    exact h s us ws hk hc.1 hc.2
  · rename_i hc
    rw [if_neg hc] at hl
    exact absurd (List.length_eq_zero_iff.mp hl.symm) hps

section
variable {X : Cx} {g : G} {xc : XC} {W : WX} {a b c e o : Expr} {es rest : List Expr} {f h q fo : Sm D} {p p' : Sm Bool} {l lk : Sm (List D)} {pos : Pos}

/-! ### built-ins by values -/
def CallO (X : Cx) (g : G) (f : Value) (op : List D → DkO → Out D) : Prop :=
  ∃ r : List V → Hp → VK → Prop, CallR X f r ∧ ∀ (W : WX) (σ : L2.St) H F k xs ds Q, Sta g H F k → RepAll g F xs ds → Ask g W σ H F k (op ds k) (fun d H' F' k' => ∀ v, Rep g F' v d → Q v H') → r xs H Q
/-- one that leaves the deck as it is -/
def pureO (op : List D → Option D) : List D → DkO → Out D := fun ds k => .of (op ds) k
theorem CallO.pure {f : Value} {op : List D → Option D} {r : List V → Hp → VK → Prop} (hr : CallR X f r) (h : ∀ H F k xs ds d Q, Sta g H F k → RepAll g F xs ds → op ds = some d → (∀ w H' F', Stp g H F k H' F' k → Rep g F' w d → Q w H') → r xs H Q) : CallO X g f (pureO op) :=
  ⟨r, hr, fun W σ H F k xs ds Q s rs q => by
    unfold pureO at q
    cases e : op ds with
    | none => rw [e] at q; exact q.elim
    | some d => rw [e] at q; exact h H F k xs ds d Q s rs e fun w H' F' s' rw' => q H' F' s' w rw'⟩
def orO {α : Type} (o o' : α → DkO → Out D) : α → DkO → Out D := fun ds k => match o ds k with
  | .bad => o' ds k
  | r => r
theorem CallO.or {f : Value} {op op' : List D → DkO → Out D} (h : CallO X g f op) (h' : CallO X g f op') : CallO X g f (orO op op') := by
  obtain ⟨r, h1, h2⟩ := h
  obtain ⟨r', h1', h2'⟩ := h'
  refine ⟨fun xs H Q => r xs H Q ∨ r' xs H Q, fun pins s σ H xs us Q I rx q => q.elim (h1 pins s σ H xs us Q I rx) (h1' pins s σ H xs us Q I rx), fun W σ H F k xs ds Q s rs q => ?_⟩
  unfold orO at q
  cases e : op ds k with
  | bad => rw [e] at q; exact .inr (h2' W σ H F k xs ds Q s rs q)
  | ok d k' => rw [e] at q; exact .inl (h2 W σ H F k xs ds Q s rs (by rw [e]; exact q))
  | err c fs k' => rw [e] at q; exact .inl (h2 W σ H F k xs ds Q s rs (by rw [e]; exact q))
def sApp (op : List D → DkO → Out D) (l : Sm (List D)) : Sm D := fun env k => (l env k).bind op
theorem pd_callB {x : Str} {id : String} {p2 : Pos} {op : List D → DkO → Out D} (hc : CallO X g (.builtin id) op) (hg : Gl X x) (hm : X.mg x = none) (hv : bootBuiltins x = some (.builtin id)) (ha : PDA X g xc W (e :: es) l) (hn : x ≠ "__name__" := by decide) (hdb : (x == ("__debug__" : Str)) = false := by decide)
    (he : starEach (e :: es) X.env = (false, eval e X.env) :: starEach es X.env := by rfl) (hpl : (backTo pos (starEach es X.env)).any (·.1) = false := by rfl) : PD X g xc W (.Call (.Name x p2) (e :: es) [] pos) (sApp op l) := by
  obtain ⟨r, h1, h2⟩ := hc
  refine PE.imp (pe_callB h1 hg hm hv ha hn hdb he hpl) fun σ H Q ⟨F, k, env, s, ok, q⟩ => ?_
  exact tDA_then s ok q fun vs ds H1 F1 k1 s1 ok1 ff1 r q1 => h2 W σ H1 F1 k1 vs ds Q s1 r q1
theorem pd_callTy {x : Str} {T : String} {p2 : Pos} {op : List D → DkO → Out D} (hc : CallO X g (.type T) op) (hg : Gl X x) (hm : X.mg x = none) (hv : bootBuiltins x = some (.type T)) (ha : PDA X g xc W (e :: es) l) (hn : x ≠ "__name__" := by decide) (hdb : (x == ("__debug__" : Str)) = false := by decide)
    (he : starEach (e :: es) X.env = (false, eval e X.env) :: starEach es X.env := by rfl) (hpl : (backTo pos (starEach es X.env)).any (·.1) = false := by rfl) : PD X g xc W (.Call (.Name x p2) (e :: es) [] pos) (sApp op l) := by
  obtain ⟨r, h1, h2⟩ := hc
  refine PE.imp (pe_callTy h1 hg hm hv ha hn hdb he hpl) fun σ H Q ⟨F, k, env, s, ok, q⟩ => ?_
  exact tDA_then s ok q fun vs ds H1 F1 k1 s1 ok1 ff1 r q1 => h2 W σ H1 F1 k1 vs ds Q s1 r q1
theorem rep1 {F : Hp} {xs : List V} {d : D} (r : RepAll g F xs [d]) : ∃ v, xs = [v] ∧ Rep g F v d := by
  cases r with
  | cons r1 r2 => cases r2; exact ⟨_, rfl, r1⟩
theorem rep2 {F : Hp} {xs : List V} {d e : D} (r : RepAll g F xs [d, e]) : ∃ v w, xs = [v, w] ∧ Rep g F v d ∧ Rep g F w e := by
  cases r with
  | cons r1 r2 =>
    cases r2 with
    | cons r3 r4 => cases r4; exact ⟨_, _, rfl, r1, r3⟩
def lenD : List D → Option D
  | [.str x] => some (.int x.length)
  | [.lst ds] => some (.int ds.length)
  | [.tup ds] => some (.int ds.length)
  | _ => none
theorem callo_len (hK : X.K = g.K) : CallO X g (.builtin "len") (pureO lenD) := CallO.pure call_len fun H F k xs ds d Q s rs e q => by
  unfold lenD at e
  split at e
  · cases e
    obtain ⟨v, rfl, r⟩ := rep1 rs
    obtain ⟨rfl, hx⟩ := repStr r
    exact ⟨_, _, rfl, ⟨hx.1, rfl⟩, q _ H F (.refl s) (.int _)⟩
  · cases e
    obtain ⟨v, rfl, r⟩ := rep1 rs
    obtain ⟨a, vs, rfl, h1, r1⟩ := repLst r
    refine ⟨_, vs.length, rfl, .inl ⟨vs, by rw [hK]; exact SqL.of (s.sub _ _ h1), rfl⟩, ?_⟩
    rw [r1.length]
    exact q _ H F (.refl s) (.int _)
  · cases e
    obtain ⟨v, rfl, r⟩ := rep1 rs
    obtain ⟨a, vs, rfl, h1, r1⟩ := repTup r
    refine ⟨_, vs.length, rfl, .inr ⟨vs, by rw [hK]; exact s.sub.seqT h1, rfl⟩, ?_⟩
    rw [r1.length]
    exact q _ H F (.refl s) (.int _)
  · cases e
def tupleD : List D → Option D
  | [.lst ds] => some (.tup ds)
  | [.tup ds] => some (.tup ds)
  | _ => none
theorem callo_tuple (hK : X.K = g.K) : CallO X g (.type "tuple") (pureO tupleD) := CallO.pure call_tuple_of fun H F k xs ds d Q s rs e q => by
  unfold tupleD at e
  split at e
  · cases e
    obtain ⟨v, rfl, r⟩ := rep1 rs
    obtain ⟨a, vs, rfl, h1, r1⟩ := repLst r
    refine ⟨a, vs, rfl, .inl ⟨by rw [hK]; exact SqL.of (s.sub _ _ h1), fun p np => ?_⟩⟩
    have st := Stp.laid (o := .tup vs) s np
    exact q _ _ _ st (.tup (SqT.of upd_same) (r1.same st.ff))
  · cases e
    obtain ⟨v, rfl, r⟩ := rep1 rs
    obtain ⟨a, vs, rfl, h1, r1⟩ := repTup r
    exact ⟨a, vs, rfl, .inr ⟨by rw [hK]; exact s.sub.seqT h1, q _ H F (.refl s) (.tup h1 r1)⟩⟩
  · cases e
/-- str of a number, of a text -/
def strD : List D → Option D
  | [.int i] => if i.natAbs.log2 < 1920 then some (.str (toString i : String)) else none
  | [.str x] => some (.str x)
  | _ => none
theorem strInt_ok {i : Int} (h : i.natAbs.log2 < 1920) : SOk ((toString i : String) : Str) := by
  refine ⟨Nat.le_trans (PyProof.Rows.int_text_len_1921 h) (by decide), ?_⟩
  unfold PyData.strOk
  rw [Array.all_eq_true']
  intro c hc
  by_cases z : c < 1114112
  · exact decide_eq_true z
  · exact absurd (by simpa using hc) (PyProof.Rows.int_text_free' c ⟨by omega, by omega⟩ i)
theorem callo_str : CallO X g (.type "str") (pureO strD) := by
  refine CallO.pure (r := fun xs H Q => (∃ i, xs = [.int i] ∧ i.natAbs.log2 < 1920 ∧ Q (.str (toString i : String)) H) ∨ ∃ a, xs = [.str a] ∧ Q (.str a) H) (fun pins s σ H xs us Q I rx q => q.elim (call_str_int pins s σ H xs us Q I rx) (SkE.call_str_str pins s σ H xs us Q I rx)) fun H F k xs ds d Q s rs e q => ?_
  unfold strD at e
  split at e
  · split at e
    · cases e
      obtain ⟨v, rfl, r⟩ := rep1 rs
      rw [repInt r]
      exact .inl ⟨_, rfl, by assumption, q _ H F (.refl s) (.str (strInt_ok (by assumption)))⟩
    · cases e
  · cases e
    obtain ⟨v, rfl, r⟩ := rep1 rs
    obtain ⟨rfl, hx⟩ := repStr r
    exact .inr ⟨_, rfl, q _ H F (.refl s) (.str hx)⟩
  · cases e
/-- int of a number, a bool, a text -/
def intD : List D → Option D
  | [.int i] => some (.int i)
  | [.bl b] => some (.int (if b then 1 else 0))
  | [.str x] => if x.length ≤ 640 then (PySem.intText? x).map .int else none
  | _ => none
theorem callo_int : CallO X g (.type "int") (pureO intD) := by
  refine CallO.pure (r := fun xs H Q => ((∃ i, xs = [.int i] ∧ Q (.int i) H) ∨ ∃ k, xs = [.bl k] ∧ Q (.int (if k then 1 else 0)) H) ∨ ∃ a n, xs = [.str a] ∧ PySem.intText? a = some n ∧ a.length ≤ 640 ∧ Q (.int n) H) (fun pins s σ H xs us Q I rx q => q.elim (call_int1 pins s σ H xs us Q I rx) (call_int_str pins s σ H xs us Q I rx)) fun H F k xs ds d Q s rs e q => ?_
  unfold intD at e
  split at e
  · cases e
    obtain ⟨v, rfl, r⟩ := rep1 rs
    rw [repInt r]
    exact .inl (.inl ⟨_, rfl, q _ H F (.refl s) (.int _)⟩)
  · cases e
    obtain ⟨v, rfl, r⟩ := rep1 rs
    rw [repBl r]
    exact .inl (.inr ⟨_, rfl, q _ H F (.refl s) (.int _)⟩)
  · split at e
    · obtain ⟨n, e1, rfl⟩ := Option.map_eq_some_iff.mp e
      obtain ⟨v, rfl, r⟩ := rep1 rs
      rw [(repStr r).1]
      exact .inr ⟨_, n, rfl, e1, by assumption, q _ H F (.refl s) (.int _)⟩
    · cases e
  · cases e
/-- repr of data -/
def reprD : List D → Option D
  | [d] => match d.py with
    | some p => if p.showable && decide (p.depth ≤ 60) && decide (p.shown.length ≤ sizeLine) then some (.shw p) else none
    | none => none
  | _ => none
theorem callo_repr (hK : X.K = g.K) (hgd : X.A.guards = some []) (hu : X.A.units + 64 < cLine) : CallO X g (.builtin "repr") (pureO reprD) := CallO.pure (call_reprV hgd hu) fun H F k xs ds d Q s rs e q => by
  unfold reprD at e
  split at e
  · split at e
    · split at e
      · cases e
        rename_i d p hp hz
        simp only [Bool.and_eq_true, decide_eq_true_eq] at hz
        obtain ⟨v, rfl, r⟩ := rep1 rs
        exact ⟨v, p, rfl, by rw [hK]; exact (r.av hp).same s.sub, hz.1.1, hz.1.2, hz.2, q _ H F (.refl s) (.shw _)⟩
      · cases e
    · cases e
  · cases e
/-- bools in a list -/
def blsOf : List D → Option (List Bool)
  | [] => some []
  | .bl b :: ds => (blsOf ds).map (b :: ·)
  | _ => none
theorem rep_bls {F : Hp} : ∀ {vs : List V} {ds : List D} {bs : List Bool}, RepAll g F vs ds → blsOf ds = some bs → vs = bs.map V.bl
  | _, _, _, .nil, e => by cases e; rfl
  | _, _, _, .cons (d := d) (ds := ds) r rs, e => by
    cases d with
    | bl b =>
      obtain ⟨cs, e1, rfl⟩ := Option.map_eq_some_iff.mp (show (blsOf ds).map (b :: ·) = some _ from e)
      rw [repBl r, rep_bls rs e1]; rfl
    | _ => cases e
def boolsD (f : List Bool → Bool) : List D → Option D
  | [.lst ds] => (blsOf ds).map fun bs => .bl (f bs)
  | _ => none
theorem boolsD_some {f : List Bool → Bool} {ds : List D} {d : D} (e : boolsD f ds = some d) : ∃ es bs, ds = [.lst es] ∧ blsOf es = some bs ∧ d = .bl (f bs) := by
  unfold boolsD at e
  split at e
  · obtain ⟨bs, e1, rfl⟩ := Option.map_eq_some_iff.mp e
    exact ⟨_, bs, rfl, e1, rfl⟩
  · cases e
def allD : List D → Option D := boolsD fun bs => bs.all id
def anyD : List D → Option D := boolsD fun bs => bs.any id
theorem callo_all (hK : X.K = g.K) (hc : X.calm = true) : CallO X g (.builtin "all") (pureO allD) := CallO.pure (cr_all hc) fun H F k xs ds d Q s rs e q => by
  obtain ⟨es, bs, rfl, e1, rfl⟩ := boolsD_some e
  obtain ⟨v, rfl, r⟩ := rep1 rs
  obtain ⟨a, vs, rfl, h1, r1⟩ := repLst r
  rw [rep_bls r1 e1] at h1
  exact ⟨a, bs, rfl, by rw [hK]; exact SqL.of (s.sub _ _ h1), q _ H F (.refl s) (.bl _)⟩
theorem callo_any (hK : X.K = g.K) (hc : X.calm = true) : CallO X g (.builtin "any") (pureO anyD) := CallO.pure (cr_any hc) fun H F k xs ds d Q s rs e q => by
  obtain ⟨es, bs, rfl, e1, rfl⟩ := boolsD_some e
  obtain ⟨v, rfl, r⟩ := rep1 rs
  obtain ⟨a, vs, rfl, h1, r1⟩ := repLst r
  rw [rep_bls r1 e1] at h1
  exact ⟨a, bs, rfl, by rw [hK]; exact SqL.of (s.sub _ _ h1), q _ H F (.refl s) (.bl _)⟩
/-- numbers in a list -/
def intsOf : List D → Option (List Int)
  | [] => some []
  | .int i :: ds => (intsOf ds).map (i :: ·)
  | _ => none
theorem rep_ints {F : Hp} : ∀ {vs : List V} {ds : List D} {ns : List Int}, RepAll g F vs ds → intsOf ds = some ns → vs = ns.map V.int
  | _, _, _, .nil, e => by cases e; rfl
  | _, _, _, .cons (d := d) (ds := ds) r rs, e => by
    cases d with
    | int i =>
      obtain ⟨cs, e1, rfl⟩ := Option.map_eq_some_iff.mp (show (intsOf ds).map (i :: ·) = some _ from e)
      rw [repInt r, rep_ints rs e1]; rfl
    | _ => cases e
def sumD : List D → Option D
  | [.lst ds] => (intsOf ds).map fun ns => .int ns.sum
  | _ => none
theorem callo_sum (hK : X.K = g.K) (hc : X.calm = true) : CallO X g (.builtin "sum") (pureO sumD) := CallO.pure (cr_sum hc) fun H F k xs ds d Q s rs e q => by
  unfold sumD at e
  split at e
  · obtain ⟨ns, e1, rfl⟩ := Option.map_eq_some_iff.mp e
    obtain ⟨v, rfl, r⟩ := rep1 rs
    obtain ⟨a, vs, rfl, h1, r1⟩ := repLst r
    rw [rep_ints r1 e1] at h1
    exact ⟨a, ns, rfl, by rw [hK]; exact SqL.of (s.sub _ _ h1), q _ H F (.refl s) (.int _)⟩
  · cases e

/-! ### methods of texts -/
def MtO (X : Cx) (g : G) (id : String) (op : Str → List D → Option D) : Prop :=
  ∃ r : V → List V → Hp → VK → Prop, MtR X id r ∧ ∀ H F k x xs ds d Q, Sta g H F k → SOk x → RepAll g F xs ds → op x ds = some d → (∀ w H' F', Stp g H F k H' F' k → Rep g F' w d → Q w H') → r (.str x) xs H Q
def sM0 (op : Str → List D → Option D) (f : Sm D) : Sm D := fun env k => (f env k).bind fun d k1 => match d with
  | .str x => .of (op x []) k1
  | _ => .bad
def sM1 (op : Str → List D → Option D) (f h : Sm D) : Sm D := fun env k => (f env k).bind fun d k1 => match d with
  | .str x => (h env k1).bind fun e k2 => .of (op x [e]) k2
  | _ => .bad
theorem pd_m0 {id : String} {name : Str} {apos : Pos} {op : Str → List D → Option D} (slot : PySem.Slot "str" name id) (ty : typeOf (.builtin id) = pure (.type "method_descriptor")) (hm : MtO X g id op) (ho : PD X g xc W o fo)
    (hbase : attributeBase o name X.env (eval o X.env) = eval o X.env := by rfl) (hline : (apos.endLine == pos.line) = true := by rfl) : PD X g xc W (.Call (.Attribute o name apos) [] [] pos) (sM0 op fo) := by
  obtain ⟨r, h1, h2⟩ := hm
  refine PE.imp (pe_m0 slot ty h1 ho hbase hline) fun σ H Q ⟨F, k, env, s, ok, q⟩ => ?_
  refine tD_then' s ok q fun v d H1 F1 k1 s1 ok1 ff1 rv q1 => ?_
  cases d with
  | str x =>
    obtain ⟨rfl, hx⟩ := repStr rv
    refine ⟨⟨_, rfl⟩, ?_⟩
    change Ask g W σ H1 F1 k1 (.of (op x []) k1) _ at q1
    cases hq : op x [] with
    | none => rw [hq] at q1; exact q1.elim
    | some d => rw [hq] at q1; exact h2 H1 F1 k1 x [] [] d Q s1 hx .nil hq fun w H' F' s' r' => q1 H' F' s' w r'
  | _ => exact q1.elim
theorem pd_m1 {id : String} {name : Str} {apos : Pos} {op : Str → List D → Option D} (slot : PySem.Slot "str" name id) (ty : typeOf (.builtin id) = pure (.type "method_descriptor")) (hm : MtO X g id op) (ho : PD X g xc W o fo) (he : PD X g xc W e f)
    (hs : starEach [e] X.env = [(false, eval e X.env)] := by rfl) (hbase : attributeBase o name X.env (eval o X.env) = eval o X.env := by rfl) (hline : (apos.endLine == pos.line) = true := by rfl) :
    PD X g xc W (.Call (.Attribute o name apos) [e] [] pos) (sM1 op fo f) := by
  obtain ⟨r, h1, h2⟩ := hm
  refine PE.imp (pe_m1 slot ty h1 ho he hs hbase hline) fun σ H Q ⟨F, k, env, s, ok, q⟩ => ?_
  refine tD_then' s ok q fun v d H1 F1 k1 s1 ok1 ff1 rv q1 => ?_
  cases d with
  | str x =>
    obtain ⟨rfl, hx⟩ := repStr rv
    refine ⟨⟨_, rfl⟩, ?_⟩
    refine tD_then' s1 ok1 q1 fun w e H2 F2 k2 s2 ok2 ff2 rw' q2 => ?_
    cases hq : op x [e] with
    | none => rw [hq] at q2; exact q2.elim
    | some d => rw [hq] at q2; exact h2 H2 F2 k2 x [w] [e] d Q s2 hx (.cons rw' .nil) hq fun w H' F' s' r' => q2 H' F' s' w r'
  | _ => exact q1.elim
/-- texts in a sequence -/
def strsOf : List D → Option (List Str)
  | [] => some []
  | .str x :: ds => (strsOf ds).map (x :: ·)
  | _ => none
theorem rep_strs {F : Hp} : ∀ {vs : List V} {ds : List D} {ys : List Str}, RepAll g F vs ds → strsOf ds = some ys → vs = ys.map V.str ∧ ∀ y ∈ ys, SOk y
  | _, _, _, .nil, e => by cases e; exact ⟨rfl, fun _ z => nomatch z⟩
  | _, _, _, .cons (d := d) (ds := ds) r rs, e => by
    cases d with
    | str x =>
      obtain ⟨cs, e1, rfl⟩ := Option.map_eq_some_iff.mp (show (strsOf ds).map (x :: ·) = some _ from e)
      obtain ⟨h1, h2⟩ := rep_strs rs e1
      obtain ⟨rfl, hx⟩ := repStr r
      refine ⟨by rw [h1]; rfl, fun y hy => ?_⟩
      rcases List.mem_cons.mp hy with rfl | hy
      · exact hx
      · exact h2 y hy
    | _ => cases e
def joinD (a : Str) : List D → Option D
  | [d] => match (seqOf d).bind strsOf with
    | some ys => if (ys.map (·.length)).sum + ys.length * a.length ≤ 16777216 then some (.str (Txt.join a ys)) else none
    | none => none
  | _ => none
theorem strOk_all {x : Str} : PyData.strOk x = true ↔ ∀ c ∈ x.cps.toList, c < 1114112 := by
  unfold PyData.strOk
  rw [Array.all_eq_true']
  simp
theorem join_is (a : Str) (ys : List Str) : Txt.join a ys = Str.join a ys := PySem.StrLaws.glued_eq_join a ys
theorem join_ok {a : Str} {ys : List Str} (ha : SOk a) (hy : ∀ y ∈ ys, SOk y) (hz : (ys.map (·.length)).sum + ys.length * a.length ≤ 16777216) : SOk (Txt.join a ys) := by
  rw [join_is]
  refine ⟨Nat.le_trans (PySem.StrLaws.join_length_le a ys) (by rw [sizeLine_eq]; exact hz), strOk_all.mpr fun c hc => ?_⟩
  rcases (PyProof.Rows.mem_join a c ys).mp hc with ⟨t, ht, hc⟩ | ⟨_, hc⟩
  · exact strOk_all.mp (hy t ht).2 c hc
  · exact strOk_all.mp ha.2 c hc
theorem mto_join (hK : X.K = g.K) : MtO X g "str.join" joinD := ⟨_, mt_join, fun H F k x xs ds d Q s hx rs e q => by
  unfold joinD at e
  split at e
  · split at e
    · split at e
      · cases e
        rename_i ys hys hz
        obtain ⟨v, rfl, r⟩ := rep1 rs
        obtain ⟨es, e1, e2⟩ := Option.bind_eq_some_iff.mp hys
        obtain ⟨p, vs, rfl, hs, r1⟩ := seq_rep r e1
        obtain ⟨h1, h2⟩ := rep_strs r1 e2
        rw [h1] at hs
        exact ⟨_, p, ys, rfl, rfl, by rw [hK]; exact hs.imp s.sub.seq s.sub.seqT, hz, q _ H F (.refl s) (.str (join_ok hx h2 hz))⟩
      · cases e
    · cases e
  · cases e⟩
def splitD (a : Str) : List D → Option D
  | [.str b] => if (b.length == 0) = false ∧ a.length + 2 ≤ sizeLine then some (.lst ((Txt.split a b).map .str)) else none
  | _ => none
theorem split_ok {a b y : Str} (ha : SOk a) (h : y ∈ Txt.split a b) : SOk y := by
  have e := PySem.StrLaws.join_split a b
  refine ⟨?_, strOk_sub ha.2 fun c hc => ?_⟩
  · have := join_mem_le b (Txt.split a b) y h
    rw [e] at this
    exact Nat.le_trans this ha.1
  · have := (PyProof.Rows.mem_join b c (Txt.split a b)).mpr (.inl ⟨y, h, hc⟩)
    rw [e] at this
    exact this
theorem rep_map_str {F : Hp} : ∀ {ys : List Str}, (∀ y ∈ ys, SOk y) → RepAll g F (ys.map V.str) (ys.map D.str)
  | [], _ => .nil
  | y :: ys, h => .cons (.str (h y List.mem_cons_self)) (rep_map_str fun z hz => h z (List.mem_cons_of_mem _ hz))
theorem mto_split : MtO X g "str.split" splitD := ⟨_, mt_split, fun H F k x xs ds d Q s hx rs e q => by
  unfold splitD at e
  split at e
  · split at e
    · cases e
      rename_i b hz
      obtain ⟨v, rfl, r⟩ := rep1 rs
      rw [(repStr r).1]
      refine ⟨_, _, rfl, rfl, hz.1, hz.2, fun p np => ?_⟩
      have st := Stp.laid (o := .lst ((Txt.split x b).map V.str)) s np
      exact q _ _ _ st (.lst upd_same (rep_map_str fun y hy => split_ok hx hy))
    · cases e
  · cases e⟩
/-- a method of a text alone -/
def txt0 (C : Str → Bool) (f : Str → D) (a : Str) : List D → Option D
  | [] => if C a then some (f a) else none
  | _ => none
theorem mto_bl0 {id : String} {f : Str → Bool} (h : MtR X id (fun x xs H Q => ∃ a, x = .str a ∧ xs = [] ∧ True ∧ Q (.bl (f a)) H)) : MtO X g id (txt0 (fun _ => true) fun a => .bl (f a)) := ⟨_, h, fun H F k x xs ds d Q s hx rs e q => by
  unfold txt0 at e
  split at e
  · cases e
    cases rs
    exact ⟨_, rfl, rfl, trivial, q _ H F (.refl s) (.bl _)⟩
  · cases e⟩
def upperD : Str → List D → Option D := txt0 (fun a => decide (a.length ≤ 5592405) && PyData.strOk (Txt.upper a)) fun a => .str (Txt.upper a)
theorem mto_upper : MtO X g "str.upper" upperD := ⟨_, mt_upper, fun H F k x xs ds d Q s hx rs e q => by
  unfold upperD txt0 at e
  split at e
  · split at e
    · cases e
      rename_i hz
      cases rs
      simp only [Bool.and_eq_true, decide_eq_true_eq] at hz
      refine ⟨_, rfl, rfl, hz.1, q _ H F (.refl s) (.str ⟨?_, hz.2⟩)⟩
      have := PyProof.Rows.len_upper x
      have := sizeLine_eq
      omega
    · cases e
  · cases e⟩
/-- of a text and a text -/
def txt1 (f : Str → Str → D) (a : Str) : List D → Option D
  | [.str b] => some (f a b)
  | _ => none
theorem mto_bl1 {id : String} {f : Str → Str → Bool} (h : MtR X id (fun x xs H Q => ∃ a b, x = .str a ∧ xs = [.str b] ∧ Q (.bl (f a b)) H)) : MtO X g id (txt1 fun a b => .bl (f a b)) := ⟨_, h, fun H F k x xs ds d Q s hx rs e q => by
  unfold txt1 at e
  split at e
  · cases e
    obtain ⟨v, rfl, r⟩ := rep1 rs
    rw [(repStr r).1]
    exact ⟨_, _, rfl, rfl, q _ H F (.refl s) (.bl _)⟩
  · cases e⟩
theorem mto_int1 {id : String} {f : Str → Str → Int} (h : MtR X id (fun x xs H Q => ∃ a b, x = .str a ∧ xs = [.str b] ∧ Q (.int (f a b)) H)) : MtO X g id (txt1 fun a b => .int (f a b)) := ⟨_, h, fun H F k x xs ds d Q s hx rs e q => by
  unfold txt1 at e
  split at e
  · cases e
    obtain ⟨v, rfl, r⟩ := rep1 rs
    rw [(repStr r).1]
    exact ⟨_, _, rfl, rfl, q _ H F (.refl s) (.int _)⟩
  · cases e⟩

/-! ### own functions -/
section
variable {kk : Nat} {fa C : Addr} {fd : FuncData} {ps ks : List Str} {n : Nat} {fn : Fn}
def sCall (n : Nat) (fn : Fn) (l : Sm (List D)) : Sm D := fun env k => (l env k).bind fun ds k1 => if ds.length = n then fn ds k1 else .bad
theorem pd_call {x : Str} {p2 : Pos} (Fm : FnG X.prog X.w X.K X.mg X.base kk fa fd ps (SpD g n fn)) (hr : Room kk X.A) (hgd : X.A.guards = some []) (hg : Gl X x) (hm : X.mg x = some (.ref fa)) (hk : PySem.W.keepIn X.K (.ref fa) = true) (hb : Binds X.K fd ps []) (tk : Takes X W)
    (ha : PDA X g xc W (e :: es) l) (hdb : (x == ("__debug__" : Str)) = false := by decide) (he : starEach (e :: es) X.env = (false, eval e X.env) :: starEach es X.env := by rfl)
    (hpl : (backTo pos (starEach es X.env)).any (·.1) = false := by rfl) : PD X g xc W (.Call (.Name x p2) (e :: es) [] pos) (sCall n fn l) := by
  refine PE.imp (pe_callG (E := WE W) Fm hr hgd hg hm hk hb .nil (fun σ => passAt tk σ) ha hdb he hpl) fun σ H Q ⟨F, k, env, s, ok, q⟩ => ?_
  refine tDA_then s ok q fun vs ds H1 F1 k1 s1 ok1 ff1 r q1 => ?_
  rw [List.append_nil]
  by_cases hn : ds.length = n
  · rw [if_pos hn] at q1
    exact ⟨r.length.trans hn, F1, k1, ds, s1, r, .of q1⟩
  · rw [if_neg hn] at q1; exact q1.elim
theorem pd_call0 {x : Str} {p2 : Pos} (Fm : FnG X.prog X.w X.K X.mg X.base kk fa fd ps (SpD g 0 fn)) (hr : Room kk X.A) (hgd : X.A.guards = some []) (hg : Gl X x) (hm : X.mg x = some (.ref fa)) (hk : PySem.W.keepIn X.K (.ref fa) = true) (hb : Binds X.K fd ps []) (tk : Takes X W)
    (hdb : (x == ("__debug__" : Str)) = false := by decide) : PD X g xc W (.Call (.Name x p2) [] [] pos) (sCall 0 fn lNil) := by
  refine PE.imp (pe_call0G (E := WE W) Fm hr hgd hg hm hk hb .nil (fun σ => passAt tk σ) hdb) fun σ H Q ⟨F, k, env, s, ok, q⟩ => ?_
  exact ⟨rfl, F, k, [], s, .nil, .of q⟩
def PDK (X : Cx) (g : G) (xc : XC) (W : WX) (kws : List Keyword) (f : Sm (List D)) : Prop := PK X kws (tDA g xc W f)
theorem PK.imp {X : Cx} {e : List Keyword} {t t' : TA} (h : PK X e t) (f : ∀ σ H Q, t' σ H Q → t σ H Q) : PK X e t' := ⟨fun pos pins s σ H Q I q => h.run pos pins s σ H Q I (f σ H Q q)⟩
theorem pdk_nil : PDK X g xc W [] lNil := PK.imp pk_nil fun σ H Q ⟨F, k, env, s, ok, q⟩ => q H F (.refl s) [] .nil
theorem pdk_cons {kws : List Keyword} {nm : Option Str} {kp : Pos} (ha : PD X g xc W e f) (hr : PDK X g xc W kws l) : PDK X g xc W (⟨nm, e, kp⟩ :: kws) (lCons f l) := by
  refine PK.imp (pk_cons ha hr) fun σ H Q ⟨F, k, env, s, ok, q⟩ => ?_
  refine tD_then' s ok q fun v d H1 F1 k1 s1 ok1 ff1 r q1 => ?_
  exact tDA_then s1 ok1 q1 fun vs ds H2 F2 k2 s2 ok2 ff2 rs q2 => q2 _ _ (.refl s2) _ (.cons (r.same ff2) rs)
def sCallK (n m j : Nat) (ix : List Nat) (fn : Fn) (l lk : Sm (List D)) : Sm D := fun env k => (l env k).bind fun ds k1 => (lk env k1).bind fun es k2 => if (ord m j ix ds es).length = n then fn (ord m j ix ds es) k2 else .bad
theorem pd_callK {x : Str} {p2 : Pos} {kws : List Keyword} {m j : Nat} {ix : List Nat} (Fm : FnG X.prog X.w X.K X.mg X.base kk fa fd ps (SpD g n fn)) (hr : Room kk X.A) (hgd : X.A.guards = some []) (hg : Gl X x) (hm : X.mg x = some (.ref fa)) (hk : PySem.W.keepIn X.K (.ref fa) = true)
    (hb : KBinds X.K fd ps ks (ord m j ix) (ord m j ix)) (tk : Takes X W) (ha : PDA X g xc W (e :: es) l) (hkw : PDK X g xc W kws lk)
    (hall : (backToKw pos (keywordEach kws X.env)).all (·.1.isSome) = true := by rfl) (hks : (backToKw pos (keywordEach kws X.env)).filterMap (·.1) = ks := by rfl)
    (hdb : (x == ("__debug__" : Str)) = false := by decide) (he : starEach (e :: es) X.env = (false, eval e X.env) :: starEach es X.env := by rfl)
    (hpl : ((backTo pos (starEach (e :: es) X.env)).any (·.1) || (backToKw pos (keywordEach kws X.env)).any (·.1.isNone)) = false := by rfl) :
    PD X g xc W (.Call (.Name x p2) (e :: es) kws pos) (sCallK n m j ix fn l lk) := by
  refine PE.imp (pe_callKG (E := WE W) Fm hr hgd hg hm hk hb (fun σ => passAt tk σ) ha hkw hall hks hdb he hpl) fun σ H Q ⟨F, k, env, s, ok, q⟩ => ?_
  refine tDA_then s ok q fun vs ds H1 F1 k1 s1 ok1 ff1 r q1 => ?_
  refine tDA_then s1 ok1 q1 fun zs es H2 F2 k2 s2 ok2 ff2 rz q2 => ?_
  have ro := rep_ord (m := m) (j := j) (ix := ix) (RepAll.same ff2 r) rz
  by_cases hn : (ord m j ix ds es).length = n
  · rw [if_pos hn] at q2
    exact ⟨ro.length.trans hn, F2, k2, _, s2, ro, .of q2⟩
  · rw [if_neg hn] at q2; exact q2.elim
theorem pd_callK0 {x : Str} {p2 : Pos} {kws : List Keyword} {m j : Nat} {ix : List Nat} (Fm : FnG X.prog X.w X.K X.mg X.base kk fa fd ps (SpD g n fn)) (hr : Room kk X.A) (hgd : X.A.guards = some []) (hg : Gl X x) (hm : X.mg x = some (.ref fa)) (hk : PySem.W.keepIn X.K (.ref fa) = true)
    (hb : KBinds X.K fd ps ks (ord m j ix) (ord m j ix)) (tk : Takes X W) (hkw : PDK X g xc W kws lk)
    (hall : (backToKw pos (keywordEach kws X.env)).all (·.1.isSome) = true := by rfl) (hks : (backToKw pos (keywordEach kws X.env)).filterMap (·.1) = ks := by rfl)
    (hdb : (x == ("__debug__" : Str)) = false := by decide)
    (hpl : ((backTo pos (starEach [] X.env)).any (·.1) || (backToKw pos (keywordEach kws X.env)).any (·.1.isNone)) = false := by rfl) :
    PD X g xc W (.Call (.Name x p2) [] kws pos) (sCallK n m j ix fn lNil lk) := by
  refine PE.imp (pe_callK0G (E := WE W) Fm hr hgd hg hm hk hb (fun σ => passAt tk σ) hkw hall hks hdb hpl) fun σ H Q ⟨F, k, env, s, ok, q⟩ => ?_
  refine tDA_then s ok (l := lk) (R := fun es k2 => if (ord m j ix [] es).length = n then fn (ord m j ix [] es) k2 else .bad) q fun zs es H2 F2 k2 s2 ok2 ff2 rz q2 => ?_
  have ro := rep_ord (m := m) (j := j) (ix := ix) (RepAll.nil (g := g) (F := F2)) rz
  by_cases hn : (ord m j ix [] es).length = n
  · rw [if_pos hn] at q2
    exact ⟨ro.length.trans hn, F2, k2, _, s2, ro, .of q2⟩
  · rw [if_neg hn] at q2; exact q2.elim

/-! ### fields, methods -/
def sFld (cs : List String) (fl : Str) (f : Sm D) : Sm D := fun env k => (f env k).bind fun d k1 => match d with
  | .obj c fs => if c ∈ cs then .of (fs.lookup fl) k1 else .bad
  | _ => .bad
theorem pd_fld {cs : List String} {fl : Str} (hK : X.K = g.K) (hO : OwnAll g) (hN : ∀ c ∈ cs, NoAttr g.K (g.cl c) fl) (ha : PD X g xc W e f) (hb : attributeBase e fl X.env (eval e X.env) = eval e X.env := by rfl) : PD X g xc W (.Attribute e fl pos) (sFld cs fl f) := by
  refine PE.imp (pe_fld ha hb) fun σ H Q ⟨F, k, env, s, ok, q⟩ => ?_
  refine tD_then' s ok q fun v d H1 F1 k1 s1 ok1 ff1 r q1 => ?_
  cases d with
  | obj c fs =>
    obtain ⟨a, dx, ws, rfl, hc, h1, rf⟩ := repObj r
    change Ask g W σ H1 F1 k1 (if c ∈ cs then .of (fs.lookup fl) k1 else .bad) _ at q1
    by_cases hcs : c ∈ cs
    · rw [if_pos hcs] at q1
      cases hl : fs.lookup fl with
      | none => rw [hl] at q1; exact q1.elim
      | some y =>
        rw [hl] at q1
        obtain ⟨w, h2, rw'⟩ := rf.lookup hl
        rw [hK]
        exact ⟨a, g.cl c, dx, ws, w, rfl, s1.sub _ _ h1, (hO c hc).cl, hN c hcs, h2, q1 _ _ (.refl s1) _ rw'⟩
    · rw [if_neg hcs] at q1; exact q1.elim
  | _ => exact q1.elim
def sMeth (c : String) (m : Str) (n : Nat) (fn : Fn) (fo : Sm D) (l : Sm (List D)) : Sm D := fun env k => (fo env k).bind fun d k1 => match d with
  | .obj c' fs => if c' = c ∧ fs.lookup m = none then (l env k1).bind fun ds k2 => if ds.length + 1 = n then fn (.obj c' fs :: ds) k2 else .bad else .bad
  | _ => .bad
theorem pd_meth {c : String} {m : Str} {apos : Pos} {pl : Sem Bool} (hK : X.K = g.K) (hO : OwnAll g) (hc : c ∈ g.own) (hmt : Meth g.K (g.cl c) m fa) (Fm : FnG X.prog X.w X.K X.mg X.base kk fa fd ps (SpD g n fn)) (hr : Room kk X.A) (hgd : X.A.guards = some []) (hb : Binds X.K fd ps []) (tk : Takes X W)
    (ho : PD X g xc W o fo) (ha : PDA X g xc W (e :: es) l)
    (hst : starEach (e :: es) X.env = (false, eval e X.env) :: starEach es X.env := by rfl) (hpl : (backTo pos (starEach es X.env)).any (·.1) = false := by rfl)
    (ht : eval (.Call (.Attribute o m apos) (e :: es) [] pos) X.env = (do
      let ov ← eval o X.env
      standAt apos.atName
      let (f, first) ← holding [ov] (getMethod ov m pl)
      callWith pos f first (backTo pos (starEach (e :: es) X.env)) (backToKw pos (keywordEach [] X.env))) := by rfl) : PD X g xc W (.Call (.Attribute o m apos) (e :: es) [] pos) (sMeth c m n fn fo l) := by
  refine PE.imp (pe_methG (E := WE W) (C := g.cl c) (pl := pl) ho (by rw [hK]; exact (hO c hc).cl) (by rw [hK]; exact hmt) Fm hr hgd hb .nil (fun σ => passAt tk σ) ha hst hpl ht) fun σ H Q ⟨F, k, env, s, ok, q⟩ => ?_
  refine tD_then' s ok q fun v d H1 F1 k1 s1 ok1 ff1 r q1 => ?_
  cases d with
  | obj c' fs =>
    change Ask g W σ H1 F1 k1 (if c' = c ∧ fs.lookup m = none then (l env k1).bind fun ds k2 => if ds.length + 1 = n then fn (.obj c' fs :: ds) k2 else .bad else .bad) _ at q1
    by_cases hcs : c' = c ∧ fs.lookup m = none
    · rw [if_pos hcs] at q1
      obtain ⟨rfl, hno⟩ := hcs
      obtain ⟨a, dx, ws, rfl, hc2, h1, rf⟩ := repObj r
      refine ⟨a, dx, ws, rfl, s1.sub _ _ h1, rf.lookupN hno, ?_⟩
      refine tDA_then s1 ok1 q1 fun vs ds H2 F2 k2 s2 ok2 ff2 rs q2 => ?_
      rw [List.append_nil]
      by_cases hn : ds.length + 1 = n
      · rw [if_pos hn] at q2
        exact ⟨by rw [List.length_cons, rs.length]; exact hn, F2, k2, _, s2, .cons (r.same ff2) rs, .of q2⟩
      · rw [if_neg hn] at q2; exact q2.elim
    · rw [if_neg hcs] at q1; exact q1.elim
  | _ => exact q1.elim
end
end
end DL
set_option Elab.async false
set_option linter.all false
set_option maxRecDepth 100000
set_option maxHeartbeats 4000000
/-! what is walked; targets; comprehensions -/
namespace DL
open PySem PySem.Spec L2
open PySem.W (Frag)
/-- the walk J gives the ds, one after another, from a known F on -/
def DWalk (g : G) (F : Hp) (J : It) (ds : List D) : Prop :=
  ∃ (G : Hp → Prop) (Y : Nat → Hp → V → Hp → Prop), Walk J ds.length G Y ∧ (∀ H, Same F H → G H) ∧
    ∀ i H F1 k v H', Sta g H F1 k → Same F F1 → i < ds.length → Y i H v H' → ∃ F2 d, Stp g H F1 k H' F2 k ∧ ds[i]? = some d ∧ Rep g F2 v d
/-- an iterable by its items -/
def PDI (X : Cx) (g : G) (xc : XC) (W : WX) (tg iter : Expr) (its : Sm (List D)) : Prop :=
  PI X tg iter fun σ H R => ∃ F k env, Sta g H F k ∧ EnvOk g xc k σ H F env ∧ Ask g W σ H F k (its env k) fun ds H' F' k' => ∀ J, DWalk g F' J ds → R J H'
theorem PI.imp {X : Cx} {tg it : Expr} {t t' : TI} (h : PI X tg it t) (f : ∀ σ H Q, t' σ H Q → t σ H Q) : PI X tg it t' := ⟨fun pins s σ H Q I q => h.run pins s σ H Q I (f σ H Q q)⟩
theorem PI.or {X : Cx} {tg it : Expr} {t t' : TI} (h : PI X tg it t) (h' : PI X tg it t') : PI X tg it (fun σ H R => t σ H R ∨ t' σ H R) := ⟨fun pins s σ H Q I q => q.elim (h.run pins s σ H Q I) (h'.run pins s σ H Q I)⟩
section
variable {X : Cx} {g : G} {xc : XC} {W : WX} {a b c e o tg : Expr} {es rest : List Expr} {f h q fo : Sm D} {p p' : Sm Bool} {l lk : Sm (List D)} {pos : Pos}
theorem dw_at {F : Hp} {J : It} {ds : List D} {vs : List V} {G : Hp → Prop} (w : Walk J vs.length G (YAt vs)) (hG : ∀ H, Same F H → G H) (r : RepAll g F vs ds) : DWalk g F J ds := by
  rw [r.length] at w
  refine ⟨G, YAt vs, w, hG, fun i H F1 k v H' s ff hi y => ?_⟩
  obtain ⟨rfl, hv⟩ := y
  obtain ⟨d, hd, rd⟩ := (r.same ff).get' hv
  exact ⟨F1, d, .refl s, hd, rd⟩
theorem dw_list {F : Hp} {K : Frag} {a : Addr} {vs : List V} {ds : List D} (h : SqL K F a vs) (r : RepAll g F vs ds) : DWalk g F (Itl K a) ds := dw_at walk_list (fun _ s => s.seq h) r
theorem dw_tup {F : Hp} {K : Frag} {a : Addr} {vs : List V} {ds : List D} (h : SqT K F a vs) (r : RepAll g F vs ds) : DWalk g F (Itt K a) ds := dw_at walk_tup (fun _ s => s.seqT h) r
def signsD (x : Str) : List D := x.cps.toList.map fun c => .str ⟨#[c]⟩
theorem dw_str {F : Hp} {x : Str} (hx : SOk x) : DWalk g F (Its x) (signsD x) := by
  have e : x.cps.size = (signsD x).length := by unfold signsD; simp
  have w := @walk_str x
  rw [e] at w
  refine ⟨_, _, w, fun _ _ => trivial, fun i H F1 k v H' s ff hi y => ?_⟩
  obtain ⟨rfl, c, hc, rfl⟩ := y
  have hc' : x.cps.toList[i]? = some c := by simpa using hc
  exact ⟨F1, .str ⟨#[c]⟩, .refl s, by unfold signsD; rw [List.getElem?_map, hc']; rfl, .str (sign_ok hx (List.mem_of_getElem? hc'))⟩
def itemsOf : D → Option (List D)
  | .lst ds => some ds
  | .tup ds => some ds
  | .str x => some (signsD x)
  | _ => none
def iVal (f : Sm D) : Sm (List D) := fun env k => (f env k).bind fun d k1 => .of (itemsOf d) k1
/-- for x in e: a list, a tuple, a text -/
theorem pdi_val (hK : X.K = g.K) (ha : PD X g xc W e f) : PDI X g xc W tg e (iVal f) := by
  refine PI.imp (PI.or (pi_list ha) (PI.or (pi_tup ha) (pi_str ha))) fun σ H R ⟨F, k, env, s, ok, q⟩ => ?_
  unfold iVal at q
  cases hf : f env k with
  | bad => rw [hf] at q; exact q.elim
  | err c fs k1 =>
    rw [hf] at q
    exact .inl ⟨F, k, env, s, ok, by rw [hf]; exact q⟩
  | ok d k1 =>
    rw [hf] at q
    cases d with
    | lst ds =>
      refine .inl ⟨F, k, env, s, ok, by
        rw [hf]
        intro H' F' st v r
        obtain ⟨a, vs, rfl, h1, r1⟩ := repLst r
        exact ⟨a, rfl, ⟨vs, SqL.of (st.st.sub _ _ h1)⟩, q H' F' st _ (dw_list (SqL.of h1) r1)⟩⟩
    | tup ds =>
      refine .inr (.inl ⟨F, k, env, s, ok, by
        rw [hf]
        intro H' F' st v r
        obtain ⟨a, vs, rfl, h1, r1⟩ := repTup r
        rw [hK]
        exact ⟨a, rfl, ⟨vs, st.st.sub.seqT h1⟩, q H' F' st _ (dw_tup h1 r1)⟩⟩)
    | str x =>
      refine .inr (.inr ⟨F, k, env, s, ok, by
        rw [hf]
        intro H' F' st v r
        obtain ⟨rfl, hx⟩ := repStr r
        exact ⟨x, rfl, q H' F' st _ (dw_str hx)⟩⟩)
    | _ => exact q.elim
/-! ranges -/
def rangeL (lo hi : Int) : List D := (List.range (hi - lo).toNat).map fun (i : Nat) => .int (lo + i)
theorem dw_range {F : Hp} {lo hi : Int} : DWalk g F (Itr lo (hi - lo).toNat) (rangeL lo hi) := by
  have e : (hi - lo).toNat = (rangeL lo hi).length := by unfold rangeL; simp
  have w := @walk_range lo (hi - lo).toNat
  have w2 : Walk (Itr lo (hi - lo).toNat) (rangeL lo hi).length (fun _ => True) (YFn fun i => .int (lo + i)) := by rw [← e]; exact w
  refine ⟨_, _, w2, fun _ _ => trivial, fun i H F1 k v H' s ff hi' y => ?_⟩
  obtain ⟨rfl, rfl⟩ := y
  refine ⟨F1, .int (lo + i), .refl s, ?_, .int _⟩
  unfold rangeL
  rw [← e] at hi'
  rw [List.getElem?_map, List.getElem?_range hi']
  rfl
def big62 (i : Int) : Bool := decide (-(2 ^ 62) ≤ i) && decide (i < 2 ^ 62)
def iRange1 (f : Sm D) : Sm (List D) := fun env k => (f env k).bind fun d k1 => match d with
  | .int j => if big62 j = true then .ok (rangeL 0 j) k1 else .bad
  | _ => .bad
def iRange2 (f h : Sm D) : Sm (List D) := fun env k => (f env k).bind fun d k1 => (h env k1).bind fun e k2 => match d, e with
  | .int i, .int j => if big62 i = true ∧ big62 j = true then .ok (rangeL i j) k2 else .bad
  | _, _ => .bad
theorem pdi_range1 {p2 : Pos} (hg : Gl X "range") (hm : X.mg "range" = none) (ha : PD X g xc W a f) (hs : starEach [a] X.env = [(false, eval a X.env)] := by rfl) : PDI X g xc W tg (.Call (.Name "range" p2) [a] [] pos) (iRange1 f) := by
  refine PI.imp (pi_range1 hg hm (pa_cons ha pa_nil hs) hs) fun σ H R ⟨F, k, env, s, ok, q⟩ => ?_
  refine tD_then' s ok q fun v d H1 F1 k1 s1 ok1 ff1 r q1 => ?_
  cases d with
  | int j =>
    rw [repInt r]
    change Ask g W σ H1 F1 k1 (if big62 j = true then .ok (rangeL 0 j) k1 else .bad) _ at q1
    by_cases hb : big62 j = true
    · rw [if_pos hb] at q1
      have hb' := hb
      simp only [big62, Bool.and_eq_true, decide_eq_true_eq] at hb'
      refine ⟨j, rfl, hb'.1, hb'.2, ?_⟩
      have z := q1 H1 F1 (.refl s1) (Itr 0 (j - 0).toNat) dw_range
      rw [Int.sub_zero] at z
      exact z
    · rw [if_neg hb] at q1; exact q1.elim
  | _ => exact q1.elim
theorem pdi_range2 {p2 : Pos} (hg : Gl X "range") (hm : X.mg "range" = none) (ha : PD X g xc W a f) (hb : PD X g xc W b h) (hs : starEach [a, b] X.env = [(false, eval a X.env), (false, eval b X.env)] := by rfl) (hs2 : starEach [b] X.env = [(false, eval b X.env)] := by rfl) :
    PDI X g xc W tg (.Call (.Name "range" p2) [a, b] [] pos) (iRange2 f h) := by
  refine PI.imp (pi_range2 hg hm (pa_cons ha (pa_cons hb pa_nil hs2) (by rw [hs, hs2])) hs hs2) fun σ H R ⟨F, k, env, s, ok, q⟩ => ?_
  refine tD_then' s ok q fun v d H1 F1 k1 s1 ok1 ff1 r q1 => ?_
  refine tD_then' s1 ok1 q1 fun w e H2 F2 k2 s2 ok2 ff2 r2 q2 => ?_
  cases d with
  | int i =>
    cases e with
    | int j =>
      rw [repInt r, repInt r2]
      change Ask g W σ H2 F2 k2 (if big62 i = true ∧ big62 j = true then .ok (rangeL i j) k2 else .bad) _ at q2
      by_cases hb : big62 i = true ∧ big62 j = true
      · rw [if_pos hb] at q2
        have hb1 := hb.1
        have hb2 := hb.2
        simp only [big62, Bool.and_eq_true, decide_eq_true_eq] at hb1 hb2
        exact ⟨i, j, rfl, ⟨hb1.1, hb1.2, hb2.1, hb2.2⟩, q2 H2 F2 (.refl s2) _ dw_range⟩
      · rw [if_neg hb] at q2; exact q2.elim
    | _ => exact q2.elim
  | _ => cases e <;> exact q2.elim
/-! enumerate, zip -/
def enumD (k0 : Int) (ds : List D) : List D := ds.zipIdx.map fun p => .tup [.int (k0 + (p.2 : Nat)), p.1]
theorem enumD_len (k0 : Int) (ds : List D) : (enumD k0 ds).length = ds.length := by unfold enumD; simp
theorem enumD_get {k0 : Int} {ds : List D} {i : Nat} {d : D} (h : ds[i]? = some d) : (enumD k0 ds)[i]? = some (.tup [.int (k0 + (i : Nat)), d]) := by
  unfold enumD
  rw [List.getElem?_map, List.getElem?_zipIdx, h]
  simp
theorem dw_pair {F : Hp} {J : It} {ds : List D} {k0 : Int} {vs : List V} {G : Hp → Prop} (w : Walk J vs.length G (fun i H v H' => ∃ T x, v = .ref T ∧ H T = none ∧ H' = upd H T (.tup [.int (k0 + (i : Nat)), x]) ∧ vs[i]? = some x)) (hG : ∀ H, Same F H → G H) (r : RepAll g F vs ds) : DWalk g F J (enumD k0 ds) := by
  rw [r.length, ← enumD_len k0] at w
  refine ⟨G, _, w, hG, fun i H F1 k v H' s ff hi y => ?_⟩
  obtain ⟨T, x, rfl, nT, rfl, hx⟩ := y
  obtain ⟨d, hd, rd⟩ := (r.same ff).get' hx
  have st := Stp.laid (o := .tup [.int (k0 + (i : Nat)), x]) s nT
  exact ⟨_, _, st, enumD_get hd, .tup (SqT.of upd_same) (.cons (.int _) (.cons (rd.same st.ff) .nil))⟩
theorem walk_enum' {K : Frag} {a : Addr} {xs : List V} : Walk (Ite K a) xs.length (fun H => SqL K H a xs) (fun i H v H' => ∃ T x, v = .ref T ∧ H T = none ∧ H' = upd H T (.tup [.int (0 + ((i : Nat) : Int)), x]) ∧ xs[i]? = some x) :=
  walk_enum.mono (fun _ z => z) fun i H x H' _ _ y => by
    obtain ⟨T, x1, x2, rfl, nT, rfl, e1, e2⟩ := y
    cases e1
    exact ⟨T, x2, rfl, nT, by rw [Int.zero_add], e2⟩
theorem dw_enumS {F : Hp} {z : Str} (hx : SOk z) : DWalk g F (Ites z) (enumD 0 (signsD z)) := by
  have e : z.cps.size = (enumD 0 (signsD z)).length := by rw [enumD_len]; unfold signsD; simp
  have w := @walk_enumS z
  rw [e] at w
  refine ⟨_, _, w, fun _ _ => trivial, fun i H F1 k v H' s ff hi y => ?_⟩
  obtain ⟨T, c, rfl, nT, hc, rfl⟩ := y
  have hc' : z.cps.toList[i]? = some c := by simpa using hc
  have st := Stp.laid (o := .tup [.int (i : Nat), .str ⟨#[c]⟩]) s nT
  refine ⟨_, .tup [.int (0 + (i : Nat)), .str ⟨#[c]⟩], st, enumD_get (by unfold signsD; rw [List.getElem?_map, hc']; rfl), ?_⟩
  rw [Int.zero_add]
  exact .tup (SqT.of upd_same) (.cons (.int _) (.cons (.str (sign_ok hx (List.mem_of_getElem? hc'))) .nil))
def iEnumD (f : Sm D) : Sm (List D) := fun env k => (f env k).bind fun d k1 => .of ((itemsOf d).map (enumD 0)) k1
theorem pdi_enum {p2 tpos : Pos} {elts : List Expr} {kk : Nat} (hK : X.K = g.K) (hg : Gl X "enumerate") (hm : X.mg "enumerate" = none) (ha : PD X g xc W e f) (hs : starEach [e] X.env = [(false, eval e X.env)] := by rfl) :
    PDI X g xc W (.Tuple elts kk tpos) (.Call (.Name "enumerate" p2) [e] [] pos) (iEnumD f) := by
  have pa := pa_cons ha pa_nil hs
  refine PI.imp (PI.or (pi_enum hg hm pa hs) (PI.or (pi_enumT hg hm pa hs) (pi_enumS hg hm pa hs))) fun σ H R ⟨F, k, env, s, ok, q⟩ => ?_
  unfold iEnumD at q
  cases hf : f env k with
  | bad => rw [hf] at q; exact q.elim
  | err c fs k1 =>
    rw [hf] at q
    exact .inl ⟨F, k, env, s, ok, by rw [hf]; exact q⟩
  | ok d k1 =>
    rw [hf] at q
    cases d with
    | lst ds =>
      refine .inl ⟨F, k, env, s, ok, by
        rw [hf]
        intro H' F' st v r
        obtain ⟨a, vs, rfl, h1, r1⟩ := repLst r
        exact ⟨a, vs, rfl, SqL.of (st.st.sub _ _ h1), q H' F' st _ (dw_pair walk_enum' (fun _ z => z.seq (SqL.of h1)) r1)⟩⟩
    | tup ds =>
      refine .inr (.inl ⟨F, k, env, s, ok, by
        rw [hf]
        intro H' F' st v r
        obtain ⟨a, vs, rfl, h1, r1⟩ := repTup r
        rw [hK]
        exact ⟨a, vs, rfl, st.st.sub.seqT h1, q H' F' st _ (dw_pair walkQT (fun _ z => z.seqT h1) r1)⟩⟩)
    | str x =>
      refine .inr (.inr ⟨F, k, env, s, ok, by
        rw [hf]
        intro H' F' st v r
        obtain ⟨rfl, hx⟩ := repStr r
        exact ⟨x, rfl, q H' F' st _ (dw_enumS hx)⟩⟩)
    | _ => exact q.elim
def iEnumK (k0 : Int) (f : Sm D) : Sm (List D) := fun env k => (f env k).bind fun d k1 => match d with
  | .lst ds => .ok (enumD k0 ds) k1
  | _ => .bad
theorem pdi_enumK {p2 tpos kp cp : Pos} {elts : List Expr} {kk j : Nat} {k0 : Int} (hg : Gl X "enumerate") (hm : X.mg "enumerate" = none) (ha : PD X g xc W e f) (hk : 0 ≤ k0 ∧ k0 < 1000)
    (hs : starEach [e] X.env = [(false, eval e X.env)] := by rfl)
    (hall : (backToKw pos (keywordEach [⟨some "start", .Constant (.int k0) j cp, kp⟩] X.env)).all (·.1.isSome) = true := by rfl) (hks : (backToKw pos (keywordEach [⟨some "start", .Constant (.int k0) j cp, kp⟩] X.env)).filterMap (·.1) = [("start" : Str)] := by rfl)
    (hpl : ((backTo pos (starEach [e] X.env)).any (·.1) || (backToKw pos (keywordEach [⟨some "start", .Constant (.int k0) j cp, kp⟩] X.env)).any (·.1.isNone)) = false := by rfl) (he : starEach [e] X.env = (false, eval e X.env) :: starEach [] X.env := by rfl) :
    PDI X g xc W (.Tuple elts kk tpos) (.Call (.Name "enumerate" p2) [e] [⟨some "start", .Constant (.int k0) j cp, kp⟩] pos) (iEnumK k0 f) := by
  refine PI.imp (pi_enumL hg hm (pa_cons ha pa_nil hs) hk hall hks hpl he) fun σ H R ⟨F, k, env, s, ok, q⟩ => ?_
  refine tD_then' s ok q fun v d H1 F1 k1 s1 ok1 ff1 r q1 => ?_
  cases d with
  | lst ds =>
    obtain ⟨a, vs, rfl, h1, r1⟩ := repLst r
    exact ⟨a, vs, rfl, SqL.of (s1.sub _ _ h1), q1 H1 F1 (.refl s1) _ (dw_pair walkQL (fun _ z => z.seq (SqL.of h1)) r1)⟩
  | _ => exact q1.elim

/-! ### targets -/
inductive Tgt where
  | name (i : Nat)
  | tup (ts : List Tgt)
mutual
def Tgt.set : Tgt → D → List En → Option (List En)
  | .name i, d, env => some (env.set i (.d d))
  | .tup ts, d, env => match d with
    | .tup ds => Tgt.setAll ts ds env
    | _ => none
def Tgt.setAll : List Tgt → List D → List En → Option (List En)
  | [], [], env => some env
  | t :: ts, d :: ds, env => match Tgt.set t d env with
    | some env' => Tgt.setAll ts ds env'
    | none => none
  | _, _, _ => none
end
mutual
def Tgt.slots : Tgt → List Nat
  | .name i => [i]
  | .tup ts => Tgt.slotsAll ts
def Tgt.slotsAll : List Tgt → List Nat
  | [] => []
  | t :: ts => Tgt.slots t ++ Tgt.slotsAll ts
end
mutual
/-- a target's reading -/
def tgT (K : Frag) : Tgt → TG
  | .name i => gName i
  | .tup ts => gTup K ts.length (tgTs K ts)
def tgTs (K : Frag) : List Tgt → TGs
  | [] => gNil
  | t :: ts => gCons (tgT K t) (tgTs K ts)
end
/-- slots are set, by known values -/
inductive SetTo (g : G) (F : Hp) (I : List Nat) : L2.St → List En → L2.St → List En → Prop
  | refl {σ : L2.St} {env : List En} : SetTo g F I σ env σ env
  | step {σ σ' : L2.St} {env env' : List En} {i : Nat} {v : V} {d : D} (hi : i ∈ I) (r : Rep g F v d) (h : SetTo g F I (σ.set i (some v)) (env.set i (.d d)) σ' env') : SetTo g F I σ env σ' env'
theorem SetTo.trans {F : Hp} {I : List Nat} {σ σ1 σ2 : L2.St} {env env1 env2 : List En} (a : SetTo g F I σ env σ1 env1) (b : SetTo g F I σ1 env1 σ2 env2) : SetTo g F I σ env σ2 env2 := by
  induction a with
  | refl => exact b
  | step hi r _ ih => exact .step hi r (ih b)
theorem SetTo.mono {F : Hp} {I J : List Nat} {σ σ1 : L2.St} {env env1 : List En} (a : SetTo g F I σ env σ1 env1) (h : ∀ i ∈ I, i ∈ J) : SetTo g F J σ env σ1 env1 := by
  induction a with
  | refl => exact .refl
  | step hi r _ ih => exact .step (h _ hi) r ih
theorem EnOk.set_d {k : DkO} {H F : Hp} {v : V} {d : D} (r : Rep g F v d) : EnOk g xc k H F (some v) (.d d) := ⟨v, rfl, r⟩
theorem EnvOk.set {k : DkO} {H F : Hp} {σ : L2.St} {env : List En} {i : Nat} {w : Option V} {e : En} (ok : EnvOk g xc k σ H F env) (r : EnOk g xc k H F w e) : EnvOk g xc k (σ.set i w) H F (env.set i e) := by
  refine ⟨by simpa using ok.1, fun j e' he => ?_⟩
  by_cases hj : j = i
  · subst hj
    by_cases hl : j < env.length
    · rw [List.getElem?_set_self hl] at he
      cases he
      rw [List.getElem?_set_self (by rw [ok.1]; exact hl)]
      exact r
    · rw [List.getElem?_eq_none (by simpa using hl)] at he; cases he
  · rw [List.getElem?_set_ne (Ne.symm hj)] at he
    rw [List.getElem?_set_ne (Ne.symm hj)]
    exact ok.2 j e' he
theorem SetTo.env {k : DkO} {H F : Hp} {I : List Nat} {σ σ' : L2.St} {env env' : List En} (a : SetTo g F I σ env σ' env') (ok : EnvOk g xc k σ H F env) : EnvOk g xc k σ' H F env' := by
  induction a with
  | refl => exact ok
  | step hi r _ ih => exact ih (ok.set (.set_d r))
theorem wipe_set {i : Nat} {w : Option V} : ∀ {vs : List Nat} {σ : L2.St}, i ∈ vs → wipe (σ.set i w) vs = wipe σ vs
  | [], _, h => by cases h
  | v :: vs, σ, h => by
    unfold wipe
    by_cases hv : i ∈ vs
    · rw [wipe_set hv]
    · have e : i = v := (List.mem_cons.mp h).resolve_right hv
      subst e
      have out : ∀ {vs : List Nat}, i ∉ vs → wipe (σ.set i w) vs = (wipe σ vs).set i w := by
        intro vs
        induction vs with
        | nil => intro _; rfl
        | cons u us ih =>
          intro hn
          unfold wipe
          rw [ih fun z => hn (List.mem_cons_of_mem _ z), List.set_comm _ _ fun z => hn (by rw [z]; exact List.mem_cons_self)]
      rw [out hv, List.set_set]
theorem SetTo.wipe {F : Hp} {vs : List Nat} {σ σ' : L2.St} {env env' : List En} (a : SetTo g F vs σ env σ' env') : L2.wipe σ' vs = L2.wipe σ vs := by
  induction a with
  | refl => rfl
  | step hi r _ ih => rw [ih, wipe_set hi]
/-- a target by what it sets -/
def PDG (X : Cx) (g : G) (tg : Expr) (t : Tgt) : Prop := PG X tg (tgT g.K t)
def PDGs (X : Cx) (g : G) (tgs : List Expr) (ts : List Tgt) : Prop := PGs X tgs (tgTs g.K ts)
mutual
theorem tgT_ok {H F : Hp} (s : Same F H) : ∀ (t : Tgt) (v : V) (d : D) (σ : L2.St) (env env' : List En) (Q : L2.St → Hp → Prop), Rep g F v d → t.set d env = some env' → (∀ σ', SetTo g F t.slots σ env σ' env' → Q σ' H) → tgT g.K t v σ H Q
  | .name i, v, d, σ, env, env', Q, r, e, q => by
    have e' : env.set i (.d d) = env' := by simpa [Tgt.set] using e
    subst e'
    simp only [tgT]
    exact q _ (.step (by simp [Tgt.slots]) r .refl)
  | .tup ts, v, d, σ, env, env', Q, r, e, q => by
    cases d with
    | tup ds =>
      obtain ⟨a, vs, rfl, h1, r1⟩ := repTup r
      have e' : Tgt.setAll ts ds env = some env' := by simpa [Tgt.set] using e
      simp only [tgT]
      refine ⟨a, vs, rfl, s.seqT h1, by rw [r1.length]; exact setAll_len ts ds env env' e', tgTs_ok s ts vs ds σ env env' Q r1 e' fun σ' z => q σ' (by simpa [Tgt.slots] using z)⟩
    | _ => simp [Tgt.set] at e
theorem tgTs_ok {H F : Hp} (s : Same F H) : ∀ (ts : List Tgt) (vs : List V) (ds : List D) (σ : L2.St) (env env' : List En) (Q : L2.St → Hp → Prop), RepAll g F vs ds → Tgt.setAll ts ds env = some env' → (∀ σ', SetTo g F (Tgt.slotsAll ts) σ env σ' env' → Q σ' H) → tgTs g.K ts vs σ H Q
  | [], vs, ds, σ, env, env', Q, r, e, q => by
    cases r with
    | nil =>
      have e' : env = env' := by simpa [Tgt.setAll] using e
      subst e'
      simp only [tgTs]
      exact ⟨rfl, q _ .refl⟩
    | cons _ _ => simp [Tgt.setAll] at e
  | t :: ts, vs, ds, σ, env, env', Q, r, e, q => by
    cases r with
    | nil => simp [Tgt.setAll] at e
    | cons r rs =>
      rename_i v vs d ds
      simp only [Tgt.setAll] at e
      cases hq : t.set d env with
      | none => rw [hq] at e; cases e
      | some env1 =>
        rw [hq] at e
        simp only [tgTs]
        refine ⟨v, vs, rfl, tgT_ok s t v d σ env env1 _ r hq fun σ1 z1 => tgTs_ok s ts vs ds σ1 env1 env' Q rs e fun σ2 z2 => q σ2 ?_⟩
        have a1 := z1.mono (J := Tgt.slotsAll (t :: ts)) fun i hi => by simp only [Tgt.slotsAll]; exact List.mem_append_left _ hi
        have a2 := z2.mono (J := Tgt.slotsAll (t :: ts)) fun i hi => by simp only [Tgt.slotsAll]; exact List.mem_append_right _ hi
        exact a1.trans a2
theorem setAll_len : ∀ (ts : List Tgt) (ds : List D) (env env' : List En), Tgt.setAll ts ds env = some env' → ds.length = ts.length
  | [], [], _, _, _ => rfl
  | [], _ :: _, _, _, e => by simp [Tgt.setAll] at e
  | _ :: _, [], _, _, e => by simp [Tgt.setAll] at e
  | t :: ts, d :: ds, env, env', e => by
    simp only [Tgt.setAll] at e
    cases hq : t.set d env with
    | none => rw [hq] at e; cases e
    | some env1 => rw [hq] at e; rw [List.length_cons, List.length_cons, setAll_len ts ds env1 env' e]
end
theorem pdg_name {i : Nat} {x : Str} (hN : X.N.Nodup) (hi : X.N[i]? = some x) (hx : Loc X.env.scope x) (hf : X.fn x = true ∨ X.env.scope.names.lookup x = some .local := by first | exact .inl rfl | exact .inr rfl | assumption) : PDG X g (.Name x pos) (.name i) := by
  have z := pg_name (pos := pos) hN hi hx hf
  unfold PDG
  simp only [tgT]
  exact z
theorem pdgs_nil : PDGs X g [] [] := by
  unfold PDGs
  simp only [tgTs]
  exact pgs_nil
theorem pdgs_cons {t : Tgt} {ts : List Tgt} (h1 : PDG X g e t) (h2 : PDGs X g es ts) (hs : (assignEach (e :: es) X.env).map (·.2) = assign e X.env :: (assignEach es X.env).map (·.2) := by rfl) : PDGs X g (e :: es) (t :: ts) := by
  have z := pgs_cons h1 h2 hs
  unfold PDGs
  simp only [tgTs]
  exact z
theorem pdg_tup {ts : List Tgt} {kk : Nat} (hK : X.K = g.K) (hc : X.calm = true) (hh : PDGs X g es ts) (hn : (assignEach es X.env).length = ts.length := by rfl) (hst : (assignEach es X.env).findIdx? (·.1) = none := by rfl) : PDG X g (.Tuple es kk pos) (.tup ts) := by
  have z := pg_tup (pos := pos) (k := kk) hc hh hn hst
  unfold PDG
  simp only [tgT]
  rw [hK] at z
  exact z
end
end DL
set_option Elab.async false
set_option linter.all false
set_option maxRecDepth 100000
set_option maxHeartbeats 4000000
/-! new lists; comprehensions -/
namespace DL
open PySem PySem.Spec L2
open PySem.W (Frag)
section
variable {g : G} {H F H1 F1 H2 F2 : Hp} {k k1 k2 : DkO}
theorem dkM_ne {p : Addr} (s : Sta g H F k) (np : H p = none) : ¬ dkM g k p := fun z => (dk_none s.dk z).2 np
/-- one's own new object is written -/
theorem Stp.own {p : Addr} {o : HO} (s : Stp g H F k H1 F1 k1) (np : H p = none) (fp : F1 p = none) (dp : ¬ dkM g k1 p) : Stp g H F k (upd H1 p o) F1 k1 := by
  refine ⟨⟨fun b u e => ?_, ?_⟩, s.ff, fun b u hb e => ?_, fun b e h => ?_, s.ks⟩
  · have hb : b ≠ p := fun z => by subst z; rw [fp] at e; cases e
    rw [upd_ne hb]; exact s.st.sub b u e
  · cases k1 with
    | none => trivial
    | some d =>
      obtain ⟨h1, h2, h3, h4⟩ := s.st.dk
      refine ⟨?_, ?_, h3, h4⟩
      · rw [upd_ne fun z => dp (.inl z.symm)]; exact h1
      · rw [upd_ne fun z => dp (.inr z.symm)]; exact h2
  · have hb' : b ≠ p := fun z => by subst z; rw [np] at e; cases e
    rw [upd_ne hb']; exact s.keep b u hb e
  · exact s.new b e h
/-- .. and is known from now on -/
theorem Stp.frz {p : Addr} {o : HO} (s : Stp g H F k H1 F1 k1) (np : H p = none) (fp : F1 p = none) (dp : ¬ dkM g k1 p) (hp : H1 p = some o) : Stp g H F k H1 (upd F1 p o) k1 := by
  have oldF : ∀ b u, F1 b = some u → upd F1 p o b = some u := fun b u e => by
    rw [upd_ne fun z => by subst z; rw [fp] at e; cases e]; exact e
  refine ⟨⟨fun b u e => ?_, ?_⟩, fun b u e => oldF b u (s.ff b u e), s.keep, fun b e h => ?_, s.ks⟩
  · by_cases hb : b = p
    · subst hb; rw [upd_same] at e; rw [hp]; exact e
    · rw [upd_ne hb] at e; exact s.st.sub b u e
  · cases k1 with
    | none => trivial
    | some d =>
      obtain ⟨h1, h2, h3, h4⟩ := s.st.dk
      refine ⟨h1, h2, ?_, ?_⟩
      · rw [upd_ne fun z => dp (.inl z.symm)]; exact h3
      · rw [upd_ne fun z => dp (.inr z.symm)]; exact h4
  · have hb : b ≠ p := fun z => by subst z; exact h np
    rw [upd_ne hb]; exact s.new b e h
theorem same_frz {p : Addr} {o : HO} (fp : F p = none) : Same F (upd F p o) := fun b u e => by
  rw [upd_ne fun z => by subst z; rw [fp] at e; cases e]; exact e
end
def W0 : WX := fun _ _ _ _ => False
def noE {α : Type} : Out α → Out α
  | .err _ _ _ => .bad
  | o => o
@[simp] theorem noE_ok {α : Type} {a : α} {k : DkO} : noE (.ok a k) = .ok a k := rfl
@[simp] theorem noE_bad {α : Type} : noE (.bad : Out α) = .bad := rfl
@[simp] theorem noE_err {α : Type} {c : String} {fs : List (Str × D)} {k : DkO} : noE (.err c fs k : Out α) = .bad := rfl
theorem ask_noE {α : Type} {g : G} {W : WX} {σ σ' : L2.St} {H F : Hp} {k : DkO} {o : Out α} {Q : α → Hp → Hp → DkO → Prop} (h : Ask g W σ H F k (noE o) Q) : Ask g W0 σ' H F k o Q := by
  cases o with
  | ok a k' => exact h
  | err c fs k' => exact h.elim
  | bad => exact h
/-- a new list -/
def AskN (g : G) (W : WX) (σ : L2.St) (H F : Hp) (k : DkO) (o : Out (List D)) (Q : VK) : Prop :=
  Ask g W σ H F k o fun ds H' F' k' => ∀ p vs, H' p = some (.lst vs) → F' p = none → ¬ dkM g k' p → RepAll g F' vs ds → H p = none → Q (.ref p) H'
def PDN (X : Cx) (g : G) (xc : XC) (W : WX) (e : Expr) (f : Sm (List D)) : Prop :=
  PE X e fun σ H Q => ∃ F k env, Sta g H F k ∧ EnvOk g xc k σ H F env ∧ AskN g W σ H F k (f env k) Q
section
variable {X : Cx} {g : G} {xc : XC} {W : WX} {a b c e o tg iter elt : Expr} {es rest ifs : List Expr} {f h q fo : Sm D} {p p' : Sm Bool} {l lk its : Sm (List D)} {pos : Pos}
def sFrz (l : Sm (List D)) : Sm D := fun env k => (l env k).bind fun ds k1 => .ok (.lst ds) k1
/-- .. as a value -/
theorem pd_ofN (hh : PDN X g xc W e l) : PD X g xc W e (sFrz l) := by
  refine PE.imp hh fun σ H Q ⟨F, k, env, s, ok, q⟩ => ?_
  refine ⟨F, k, env, s, ok, ?_⟩
  unfold sFrz at q
  cases hl : l env k with
  | bad => rw [hl] at q; exact q.elim
  | err c fs k' => rw [hl] at q; exact q
  | ok ds k' =>
    rw [hl] at q
    intro H' F' st pp vs hp fp dp r np
    exact q H' _ (st.frz np fp dp hp) _ (.lst upd_same (r.same (same_frz fp)))
/-- [e, ..] as one's own list -/
def sNew (l : Sm (List D)) : Sm (List D) := fun env k => (l env k).bind fun ds k1 => if ds.length ≤ sizeLine then .ok ds k1 else .bad
theorem pdn_lst (hl : PDA X g xc W es l) : PDN X g xc W (.List es pos) (sNew l) := by
  refine PE.imp (pe_lst hl) fun σ H Q ⟨F, k, env, s, ok, q⟩ => ?_
  unfold AskN sNew at q
  cases hl : l env k with
  | bad => rw [hl] at q; exact q.elim
  | err c fs k' => rw [hl] at q; exact ⟨F, k, env, s, ok, by rw [hl]; exact q⟩
  | ok ds k' =>
    rw [hl] at q
    refine ⟨F, k, env, s, ok, ?_⟩
    rw [hl]
    intro H' F' st vs r
    change Ask g W σ H F k (if ds.length ≤ sizeLine then .ok ds k' else .bad) _ at q
    by_cases hz : ds.length ≤ sizeLine
    · rw [if_pos hz] at q
      refine ⟨by rw [r.length]; exact hz, fun p np => ?_⟩
      have nH : H p = none := by
        cases hq : H p with
        | none => rfl
        | some u =>
          by_cases hm : dkM g k p
          · exact absurd np (dk_none st.st.dk (st.ks.m.mpr hm)).2
          · rw [st.keep p u hm hq] at np; cases np
      have s2 := st.trans (Stp.hid (o := .lst vs) st.st np)
      have fp : F' p = none := by
        cases hq : F' p with
        | none => rfl
        | some u => rw [st.st.sub p u hq] at np; cases np
      exact q _ _ s2 p vs upd_same fp (dkM_ne st.st np) r nH
    · rw [if_neg hz] at q; exact q.elim

/-! ### comprehensions -/
def wipeE (env : List En) : List Nat → List En
  | [] => env
  | v :: vs => (wipeE env vs).set v .no
theorem EnvOk.wipe {k : DkO} {H F : Hp} {σ : L2.St} {env : List En} (ok : EnvOk g xc k σ H F env) : ∀ vs : List Nat, EnvOk g xc k (L2.wipe σ vs) H F (wipeE env vs)
  | [] => ok
  | v :: vs => by
    unfold L2.wipe wipeE
    exact (EnvOk.wipe ok vs).set (w := none) (e := .no) trivial
theorem wipe_wipe {σ : L2.St} {vs : List Nat} : L2.wipe (L2.wipe σ vs) vs = L2.wipe σ vs := by
  have key : ∀ (us : List Nat) (τ : L2.St), (∀ i ∈ us, i ∈ vs) → L2.wipe (L2.wipe τ us) vs = L2.wipe τ vs := by
    intro us
    induction us with
    | nil => intro τ _; rfl
    | cons u us ih =>
      intro τ hu
      show L2.wipe ((L2.wipe τ us).set u none) vs = _
      rw [wipe_set (hu u List.mem_cons_self), ih τ fun i hi => hu i (List.mem_cons_of_mem _ hi)]
  exact key vs σ fun _ h => h
def compM (tg : Tgt) (p : Sm Bool) (f : Sm D) (env0 : List En) : List D → List D → DkO → Out (List D)
  | [], acc, k => .ok acc k
  | d :: ds, acc, k => match tg.set d env0 with
    | none => .bad
    | some env1 => (noE (p env1 k)).bind fun b k1 => if b = true then (noE (f env1 k1)).bind fun y k2 => if acc.length < sizeLine then compM tg p f env0 ds (acc ++ [y]) k2 else .bad else compM tg p f env0 ds acc k1
def sComp (tg : Tgt) (vs : List Nat) (p : Sm Bool) (f : Sm D) (its : Sm (List D)) : Sm (List D) := fun env k => (its env k).bind fun ds k1 => compM tg p f (wipeE env vs) ds [] k1
/-- a comprehension's tests -/
def PDTs (X : Cx) (g : G) (xc : XC) (W : WX) (cs : List Expr) (p : Sm Bool) : Prop := PTs X cs (tDT g xc W p)
def sYes : Sm Bool := fun _ k => .ok true k
theorem pdts_nil : PDTs X g xc W [] sYes := by
  refine ⟨fun pins s σ H Q I hh => ?_⟩
  obtain ⟨F, k, env, st, ok, q⟩ := hh
  exact L2.pts_nil.run pins s σ H Q I (q H F (.refl st))
theorem pdts_one (hc : PDT X g xc W c p) : PDTs X g xc W [c] p := L2.pts_one hc
theorem compM_rd {J : It} {ds : List D} {t : Tgt} {vs : List Nat} {σ : L2.St} {H F : Hp} {k : DkO} {env : List En} {Dd : Addr} {Qd : Hp → Prop} {P : List D → Hp → Hp → DkO → Prop} (hv : ∀ i ∈ t.slots, i ∈ vs) (s : Sta g H F k) (ok : EnvOk g xc k σ H F env) (nD : H Dd = none) (w : DWalk g F J ds)
    (q : Ask g W σ H F k (compM t p f (wipeE env vs) ds [] k) P) (hd : ∀ acc H' F' k' us, Stp g H F k H' F' k' → H' Dd = some (.lst us) → F' Dd = none → ¬ dkM g k' Dd → RepAll g F' us acc → P acc H' F' k' → Qd H') :
    ∃ W : Nat → Nat → Hp → Prop, (∃ m, W 0 m (upd H Dd (.lst []))) ∧ ∀ i m H, W i m H →
      (J.stop i H ∧ Qd H) ∨ (J.go i H ∧ ∃ Nx : Hp → Prop, (∀ H', Nx H' → ∃ m', m' < m ∧ W (i + 1) m' H') ∧ ∀ x H', J.yld i H x H' → tgT g.K t x (L2.wipe σ vs) H' fun σ2 H2 => L2.wipe σ2 vs = L2.wipe σ vs ∧ tDT g xc W0 p σ2 H2 fun b H3 =>
        if b = true then tD g xc W0 f σ2 H3 fun y H4 => ∃ acc, H4 Dd = some (.lst acc) ∧ acc.length < sizeLine ∧ Nx (upd H4 Dd (.lst (acc ++ [y]))) else Nx H3) := by
  obtain ⟨GG, Y, wk, hG, hY⟩ := w
  have fD : F Dd = none := by
    cases hq : F Dd with
    | none => rfl
    | some u => rw [s.sub _ _ hq] at nD; cases nD
  refine lc_it wk (fun i H' => ∃ F' k' us acc, Stp g H F k H' F' k' ∧ H' Dd = some (.lst us) ∧ F' Dd = none ∧ ¬ dkM g k' Dd ∧ RepAll g F' us acc ∧ Ask g W σ H F k (compM t p f (wipeE env vs) (ds.drop i) acc k') P)
    ⟨F, k, [], [], Stp.hid s nD, upd_same, fD, dkM_ne s nD, .nil, by rw [List.drop_zero]; exact q⟩ (fun i H' _ z => ?_) (fun i x H1 H2 hi z y => ?_) (fun H' z => ?_)
  · obtain ⟨F', k', us, acc, st, _⟩ := z
    exact hG _ (st.ff.trans st.st.sub)
  · obtain ⟨F1, k1, us, acc, st, hD, fD1, dD, ru, q1⟩ := z
    obtain ⟨F2, d, st2, hd2, rd⟩ := hY i H1 F1 k1 x H2 st.st st.ff hi y
    have e1 : ds.drop i = d :: ds.drop (i + 1) := by
      have := List.getElem?_eq_some_iff.mp hd2
      obtain ⟨h1, h2⟩ := this
      rw [← h2]
      exact List.drop_eq_getElem_cons h1
    rw [e1] at q1
    unfold compM at q1
    have st12 := st.trans st2
    have ok2 : EnvOk g xc k1 (L2.wipe σ vs) H2 F2 (wipeE env vs) := (ok.step st12).wipe vs
    cases ht : t.set d (wipeE env vs) with
    | none => rw [ht] at q1; exact q1.elim
    | some env1 =>
      rw [ht] at q1
      simp only at q1
      refine tgT_ok st2.st.sub t x d _ _ env1 _ rd ht fun σ2 z2 => ⟨?_, ?_⟩
      · rw [(z2.mono (J := vs) hv).wipe, wipe_wipe]
      · have ok3 := z2.env ok2
        have D2 : H2 Dd = some (.lst us) := st2.keep _ _ dD hD
        have fD2 : F2 Dd = none := st2.new _ fD1 (by rw [hD]; exact fun z => by cases z)
        have q2 : Ask g W σ H2 F2 k1 ((noE (p env1 k1)).bind fun b k1 => if b = true then (noE (f env1 k1)).bind fun y k2 => if acc.length < sizeLine then compM t p f (wipeE env vs) (ds.drop (i + 1)) (acc ++ [y]) k2 else .bad else compM t p f (wipeE env vs) (ds.drop (i + 1)) acc k1) P := Ask.after q1 st12
        refine ⟨F2, k1, env1, st2.st, ok3, ask_noE (W := W) (σ := σ) ((Ask.bind q2).imp fun b H3 F3 k3 _ st3 q3 => ?_)⟩
        have D3 : H3 Dd = some (.lst us) := st3.keep _ _ dD D2
        have fD3 : F3 Dd = none := st3.new _ fD2 (by rw [D2]; exact fun z => by cases z)
        have dD3 : ¬ dkM g k3 Dd := fun z => dD (st3.ks.m.mp z)
        have st13 := st12.trans st3
        cases b with
        | false => 
          simp only [Bool.false_eq_true, if_false] at q3 ⊢
          refine ⟨F3, k3, us, acc, st13, D3, fD3, dD3, ru.same (st2.ff.trans st3.ff), ?_⟩
          have q4 : Ask g W σ H2 F2 k1 ((noE (p env1 k1)).bind fun b k1 => if b = true then (noE (f env1 k1)).bind fun y k2 => if acc.length < sizeLine then compM t p f (wipeE env vs) (ds.drop (i + 1)) (acc ++ [y]) k2 else .bad else compM t p f (wipeE env vs) (ds.drop (i + 1)) acc k1) P := q2
          rename_i hb
          rw [show noE (p env1 k1) = .ok false k3 from hb] at q1
          exact q1
        | true =>
          rename_i hb
          simp only [if_true] at q3 ⊢
          refine ⟨F3, k3, env1, st3.st, ok3.step st3, ask_noE (W := W) (σ := σ) ((Ask.bind q3).imp fun y H4 F4 k4 hy st4 q5 v rv => ?_)⟩
          have D4 : H4 Dd = some (.lst us) := st4.keep _ _ dD3 D3
          have fD4 : F4 Dd = none := st4.new _ fD3 (by rw [D3]; exact fun z => by cases z)
          have dD4 : ¬ dkM g k4 Dd := fun z => dD3 (st4.ks.m.mp z)
          have ru4 := ru.same ((st2.ff.trans st3.ff).trans st4.ff)
          rw [show noE (p env1 k1) = .ok true k3 from hb] at q1
          simp only [bind_ok, if_true] at q1
          rw [show noE (f env1 k3) = .ok y k4 from hy] at q1
          simp only [bind_ok] at q1
          by_cases hl : acc.length < sizeLine
          · rw [if_pos hl] at q1
            refine ⟨us, D4, by rw [ru.length]; exact hl, F4, k4, us ++ [v], acc ++ [y], (st13.trans st4).own nD fD4 dD4, upd_same, fD4, dD4, ru4.app (.cons rv .nil), q1⟩
          · rw [if_neg hl] at q1; exact q1.elim
  · obtain ⟨F', k', us, acc, st, h1, h2, h3, h4, h5⟩ := z
    rw [List.drop_length] at h5
    unfold compM at h5
    exact hd acc H' F' k' us st h1 h2 h3 h4 (h5 H' F' st)
/-- [elt for tg in iter if ..] -/
theorem pdn_lc {scope : Scope} {own : List (Str × Nat)} {t : Tgt} (hc : X.calm = true) (hN : X.N.Nodup) (hi : PDI X g xc W tg iter its) (ok : BlkOk X.N X.env.scope scope own) (hv : ∀ i ∈ t.slots, i ∈ own.map (·.2))
    (hg : ∀ (s : Shared) (H : Hp) (C : Addr) (cl : List (Str × Addr)) (fp : List Addr), PDG (X.blk s H scope (compEnvC scope cl C X.env) fp) g tg t) (ht : ∀ (s : Shared) (H : Hp) (C : Addr) (cl : List (Str × Addr)) (fp : List Addr), PDTs (X.blk s H scope (compEnvC scope cl C X.env) fp) g xc W0 ifs p)
    (he : ∀ (s : Shared) (H : Hp) (C : Addr) (cl : List (Str × Addr)) (fp : List Addr), PD (X.blk s H scope (compEnvC scope cl C X.env) fp) g xc W0 elt f) (hs : ∀ x, foldedSetIterable iter X.env x = pure x := by intro _; rfl) :
    PDN X g xc W (.ListComp elt [⟨tg, iter, ifs, 0⟩] scope pos) (sComp t (own.map (·.2)) p f its) := by
  refine PE.imp (pe_lc hc hN hi ok hg ht he hs) fun σ H Q ⟨F, k, env, s, eo, q⟩ => ?_
  refine ⟨F, k, env, s, eo, (Ask.bind q).imp fun ds H1 F1 k1 _ s1 q1 J hJ Dd nD => ?_⟩
  refine compM_rd hv s1.st (eo.step s1) nD hJ q1 fun acc H' F' k' us st h1 h2 h3 h4 hp => ?_
  refine hp Dd us h1 h2 h3 h4 ?_
  cases hq : H Dd with
  | none => rfl
  | some u =>
    by_cases hm : dkM g k Dd
    · exact absurd nD (dk_none s1.st.dk (s1.ks.m.mpr hm)).2
    · rw [s1.keep Dd u hm hq] at nD; cases nD
end
end DL
set_option Elab.async false
set_option linter.all false
set_option maxRecDepth 100000
set_option maxHeartbeats 4000000
/-! [::-1] of a list, a tuple, a text -/
namespace L2
open PySem PySem.Spec PyProof.Rows HT
theorem rev_range (n : Nat) : sliceRange ((n : Int) - 1) (-1) (-1) = (List.range n).reverse := by
  rw [PySem.W.krv_sliceRange, PySem.W.krv_range]
theorem rev_adjust (n : Nat) : Builtin.Slice.sliceAdjust none none (-1) (n : Int) = ((n : Int) - 1, -1) := by
  unfold Builtin.Slice.sliceAdjust
  simp
theorem rev_places (n : Nat) : Builtin.Slice.slicePlaces ((n : Int) - 1) (-1) (-1) = n := by
  unfold Builtin.Slice.slicePlaces
  have h1 : ¬ ((-1 : Int) > 0) := by decide
  simp only [h1, if_false]
  by_cases h : (n : Int) - 1 > -1
  · simp only [h, if_true]
    have e : ((n : Int) - 1 - -1 - 1) / (- -1) = (n : Int) - 1 := by
      rw [show (- -1 : Int) = 1 by decide, Int.ediv_one]; omega
    rw [e]; omega
  · simp only [h, if_false]
    have : n = 0 := by omega
    subst this; rfl
theorem rev_pick {α : Type} (xs : Array α) : ((List.range xs.size).filterMap fun (m : Nat) => xs[((xs.size : Int) - 1 + (m : Int) * (-1)).toNat]?) = xs.toList.reverse := by
  rw [← PySem.W.krv_all xs, ← List.filterMap_reverse, ← PySem.W.krv_range, List.filterMap_map]
  have congr : ∀ {β γ : Type} {f h : β → Option γ} {l : List β}, (∀ x ∈ l, f x = h x) → l.filterMap f = l.filterMap h := by
    intro β γ f h l hl
    induction l with
    | nil => rfl
    | cons a l ih => rw [List.filterMap_cons, List.filterMap_cons, hl a List.mem_cons_self, ih fun x hx => hl x (List.mem_cons_of_mem _ hx)]
  apply congr
  intro k hk
  have := List.mem_range.mp hk
  have e : ((xs.size : Int) - 1 + (k : Int) * (-1)).toNat = xs.size - 1 - k := by omega
  rw [e]; rfl
theorem slicePart_m1 {w : World} {prog : Program} {A : Around} {E : Value → Shared → Prop} {s : Shared} {v : Value} {o : Option Int} {Q : Option Int → Shared → Prop} (p : IsPart v o) (h : Q o s) : wpAny (model prog w) A (Builtin.Slice.slicePartIndex v) Q E s := slicePart_ p h
section
variable {prog : Program} {w : World} {A : Around} {E : Value → Shared → Prop} {s : Shared}
theorem getItem_tuple_rev {t sl : Addr} {items : Array Value} {vl vu vs : Value} {Q : Value → Shared → Prop} (ht : IsTup s.heap t items) (hs : s.heap.IsSliceOf sl vl vu vs) (pl : IsPart vl none) (pu : IsPart vu none) (ps : IsPart vs (some (-1)))
    (h : Q (.ref s.heap.objs.size) { s with heap := s.heap.push { cls := .type "tuple", data := .seq items.toList.reverse.toArray } })
    (hsz : items.size ≤ sizeLine) : wpAny (model prog w) A (getItem (.ref t) (.ref sl)) Q E s := by
  have htake : sizeOk (.seq items.toList.reverse.toArray) := by
    show items.toList.reverse.toArray.size ≤ sizeLine
    rw [List.size_toArray, List.length_reverse, Array.length_toList]
    omega
  obtain ⟨os, hos, hcs, hds⟩ := id hs
  have hTs : s.TypeIs (.ref sl) "slice" := ⟨os, hos, hcs⟩
  unfold getItem
  try with_reducible refine wpAny_holding ?_
  first | refine wpAny_bind (wpAny_pure ?_) | skip
  refine wpAny_bind (wpAny_sequenceKey ht.typeIs (by decide) ?_)
  refine wpAny_bind (wpAny_callSpecial?_slot (name := Str.ofString "__getitem__") ht.typeIs PyProof.Rows.slot_tuple_getitem
    (wpAny_call_entry PyProof.Rows.slot_tuple_getitem ht.typeIs entry_tuple_getitem ?_ (args_tuple_getitem _ _)))
  show wpAny _ _ (Builtin.Tuple.tupleItemsOf (.ref t) >>= _) _ _ s
  refine wpAny_bind (tupleItemsOf_ ht ?_)
  refine wpAny_bind (wpAny_typeOf hTs ?_)
  rw [if_pos (by decide)]
  have happ : ∀ {Q : Int × Int × Nat → Shared → Prop}, Q ((items.size : Int) - 1, -1, items.size) s → wpAny (model prog w) (A.under (.builtin "tuple.__getitem__" ⟨[.ref t, .ref sl], []⟩)) (Builtin.Slice.sliceApplied (.ref sl) (pure (items.size : Int))) Q E s → True := fun _ _ => trivial
  have happ2 : ∀ {B : Around} {Q : Int × Int × Nat → Shared → Prop} {E : Value → Shared → Prop}, Q ((items.size : Int) - 1, -1, items.size) s → wpAny (model prog w) B (Builtin.Slice.sliceApplied (.ref sl) (pure (items.size : Int))) Q E s := by
    intro B Q E h
    unfold Builtin.Slice.sliceApplied Builtin.Slice.sliceFields
    refine wpAny_bind (wpAny_bind (wpAny_field hos hds (x := vl) rfl (wpAny_bind (wpAny_field hos hds (x := vu) rfl (wpAny_bind (wpAny_field hos hds (x := vs) rfl (wpAny_pure ?_)))))))
    refine wpAny_bind (slicePart_m1 ps ?_)
    show wpAny _ _ (if ((-1 : Int) == 0) = true then _ else _) _ _ s
    rw [if_neg (by decide)]
    refine wpAny_bind (slicePart_m1 pl (wpAny_bind (slicePart_m1 pu (wpAny_bind (wpAny_pure ?_)))))
    show wpAny _ _ (match Builtin.Slice.sliceAdjust none none (-1) (items.size : Int) with | (lo, hi) => pure (lo, (-1 : Int), Builtin.Slice.slicePlaces lo hi (-1))) _ _ s
    rw [rev_adjust]
    show wpAny _ _ (pure ((items.size : Int) - 1, (-1 : Int), Builtin.Slice.slicePlaces ((items.size : Int) - 1) (-1) (-1))) _ _ s
    rw [rev_places]
    exact wpAny_pure h
  refine wpAny_bind (happ2 ?_)
  show wpAny _ _ (if ((items.size : Int) - 1 == 0 && (-1 : Int) == 1 && items.size == items.size) = true then _ else _) _ _ s
  rw [if_neg (by simp), rev_pick]
  first
    | exact wpAny_bind (m := Builtin.Tuple.tupleExact _) (wpAny_newObj_type (wpAny_pure ⟨_, rfl, wpAny_pure h⟩) htake)
    | exact wpAny_bind (m := Builtin.Tuple.tupleExact _) (wpAny_newObj_type (wpAny_bind (wpAny_pure (wpAny_pure ⟨_, rfl, wpAny_pure h⟩))) htake)
    | exact wpAny_bind (wpAny_bind (m := Builtin.Tuple.tupleExact _) (wpAny_newObj_type (wpAny_pure (wpAny_pure ⟨_, rfl, wpAny_pure h⟩)) htake))
    | exact wpAny_bind (wpAny_bind (m := Builtin.Tuple.tupleExact _) (wpAny_newObj_type (wpAny_pure ⟨_, rfl, wpAny_pure h⟩) htake))
end
/-- a text from behind -/
def revS (x : Str) : Str := ⟨x.cps.toList.reverse.toArray⟩
theorem revS_pick (x : Str) : (Builtin.Str.strSliceIndices none none (-1) x.length).filterMap (x.cps[·]?) = x.cps.toList.reverse := by
  have e : Builtin.Str.strSliceIndices none none (-1) x.length = sliceRange ((x.length : Int) - 1) (-1) (-1) := by
    unfold Builtin.Str.strSliceIndices
    simp
  rw [e, rev_range, List.filterMap_reverse]
  have := PySem.W.krv_all x.cps
  show ((List.range x.cps.size).filterMap fun i => x.cps[i]?).reverse = _
  rw [this]
section
variable {X : Cx}
def tRevT (K : PySem.W.Frag) (te : TE) : TE := fun σ H Q => te σ H fun v H1 => ∃ a xs, v = .ref a ∧ SqT K H1 a xs ∧ ∀ p, H1 p = none → Q (.ref p) (upd H1 p (.tup xs.reverse))
theorem pe_revT {e : Expr} {te : TE} {k : Nat} {p1 p2 p3 pos : Pos} (he : PE X e te) : PE X (.Subscript e (.Slice none none (some (.UnaryOp .USub (.Constant (.int 1) k p1) p2)) p3) pos) (tRevT X.K te) := by
  refine ⟨fun pins s σ H Q I h => ?_⟩
  refine Subscript_ (thn (he.run pins s σ H _ I h) fun v s1 ⟨x, H1, I1, r1, q1⟩ => ?_)
  obtain ⟨a, xs, ex, hx, q⟩ := q1
  subst ex
  cases r1
  have hst : PO X (some (.UnaryOp .USub (.Constant (.int 1) k p1) p2)) (tPart (tUn (rU fun i => .int (-i)) (tC (.int 1)))) := po_some (pe_un un_neg pe_int)
  refine wpAny_Slice (thn (po_none.run pins s1 σ H1 (fun o H2 => o = none ∧ H2 = H1) I1 ⟨rfl, rfl⟩) fun vl s2 ⟨l, H2, I2, pl, el, e2⟩ => ?_)
  subst el e2
  refine thn (po_none.run pins s2 σ H2 (fun o H3 => o = none ∧ H3 = H2) I2 ⟨rfl, rfl⟩) fun vu s3 ⟨u, H3, I3, pu, eu, e3⟩ => ?_
  subst eu e3
  refine thn (hst.run pins s3 σ H3 (fun o H4 => o = some (-1) ∧ H4 = H3) I3 ⟨1, rfl, -1, rfl, rfl, rfl⟩) fun vs s4 ⟨o, H4, I4, ps, eo, e4⟩ => ?_
  subst eo e4
  have I5 : Inv X pins σ H4 { s4 with heap := s4.heap.push { cls := .type "slice", data := .fields #[vl, vu, vs] } } := I4.kept (t' := s4.toks) fun b ob q => Heap.get?_push_of_some _ q
  obtain ⟨its, r, ht, hz⟩ := I5.tuple hx
  have hlen := r.length
  show wpAny (model X.prog X.w) X.A (subscriptTail e (.Slice none none (some (.UnaryOp .USub (.Constant (.int 1) k p1) p2)) p3) (.ref a) (.ref s4.heap.objs.size)) (EP X pins σ Q) X.xe { s4 with heap := s4.heap.push { cls := .type "slice", data := .fields #[vl, vu, vs] } }
  refine tail_any (ops := [.ref a, .ref s4.heap.objs.size]) ht.typeIs (PyProof.Rows.slot_tuple_getitem.lookup) ?_ (by with_unfolding_all rfl)
  refine getItem_tuple_rev ht (Heap.IsSliceOf.new _ vl vu vs) pl pu ps ?_ (by rw [List.size_toArray]; omega)
  refine ⟨.ref _, _, I5.laid (t' := s4.toks) (o := .tup xs.reverse) (fun b ob q => Heap.get?_push_of_some _ q) (Nat.le_refl _) ?_, rfl, q _ (I5.hok.fresh (Nat.le_refl _))⟩
  exact ⟨by rw [List.length_reverse]; exact hz, its.reverse, r.reverse, IsTup.new _ _⟩
def tRevS (te : TE) : TE := fun σ H Q => te σ H fun v H1 => ∃ x, v = .str x ∧ x.length ≤ sizeLine ∧ Q (.str (revS x)) H1
theorem pe_revS {e : Expr} {te : TE} {k : Nat} {p1 p2 p3 pos : Pos} (he : PE X e te) : PE X (.Subscript e (.Slice none none (some (.UnaryOp .USub (.Constant (.int 1) k p1) p2)) p3) pos) (tRevS te) := by
  refine ⟨fun pins s σ H Q I h => ?_⟩
  refine Subscript_ (thn (he.run pins s σ H _ I h) fun v s1 ⟨x, H1, I1, r1, q1⟩ => ?_)
  obtain ⟨z, ex, hz, q⟩ := q1
  subst ex
  obtain ⟨t, rfl⟩ := r1
  have hst : PO X (some (.UnaryOp .USub (.Constant (.int 1) k p1) p2)) (tPart (tUn (rU fun i => .int (-i)) (tC (.int 1)))) := po_some (pe_un un_neg pe_int)
  refine wpAny_Slice (thn (po_none.run pins s1 σ H1 (fun o H2 => o = none ∧ H2 = H1) I1 ⟨rfl, rfl⟩) fun vl s2 ⟨l, H2, I2, pl, el, e2⟩ => ?_)
  subst el e2
  refine thn (po_none.run pins s2 σ H2 (fun o H3 => o = none ∧ H3 = H2) I2 ⟨rfl, rfl⟩) fun vu s3 ⟨u, H3, I3, pu, eu, e3⟩ => ?_
  subst eu e3
  refine thn (hst.run pins s3 σ H3 (fun o H4 => o = some (-1) ∧ H4 = H3) I3 ⟨1, rfl, -1, rfl, rfl, rfl⟩) fun vs s4 ⟨o, H4, I4, ps, eo, e4⟩ => ?_
  subst eo e4
  have I5 : Inv X pins σ H4 { s4 with heap := s4.heap.push { cls := .type "slice", data := .fields #[vl, vu, vs] } } := I4.kept (t' := s4.toks) fun b ob q => Heap.get?_push_of_some _ q
  show wpAny (model X.prog X.w) X.A (subscriptTail e (.Slice none none (some (.UnaryOp .USub (.Constant (.int 1) k p1) p2)) p3) (.str z t) (.ref s4.heap.objs.size)) (EP X pins σ Q) X.xe { s4 with heap := s4.heap.push { cls := .type "slice", data := .fields #[vl, vu, vs] } }
  refine tail_any (ops := [.str z t, .ref s4.heap.objs.size]) (typeIs_str _ _ _) (F.slot_str_getitem.lookup) ?_ (by with_unfolding_all rfl)
  cases pl
  cases pu
  cases ps with
  | int _ tk =>
    refine wpAny_getItem_str_slice (l := none) (u := none) (st := some (-1, tk)) ⟨_, Heap.get?_push_size _ rfl, rfl, rfl⟩ rfl ?_
    unfold sliceMade slicePicked
    show Made.post (if ((-1 : Int) == 1 && _) = true then Made.val (.str z t) else Made.str ⟨((Builtin.Str.strSliceIndices none none (-1) z.length).filterMap (z.cps[·]?)).toArray⟩) (EP X pins σ Q) _
    rw [if_neg (by simp), revS_pick]
    refine ⟨?_, .str (revS z), H4, I5.tok _, ⟨_, rfl⟩, q⟩
    show z.cps.toList.reverse.toArray.size ≤ sizeLine
    rw [List.size_toArray, List.length_reverse, Array.length_toList]
    exact hz
/-- list(text): its signs -/
theorem call_listS (hc : X.calm = true) : CallR X (.type "list") (fun xs H Q => ∃ x, xs = [.str x] ∧ x.length ≤ sizeLine ∧ ∀ q, H q = none → Q (.ref q) (upd H q (.lst (x.cps.toList.map fun c => V.str ⟨#[c]⟩)))) := by
  intro pins s σ H xs us Q I r h
  obtain ⟨x, rfl, hz, q⟩ := h
  obtain ⟨u, rfl, t, rfl⟩ := vals1 r
  refine call_list_str (I.ok.hd hc) x t (fun h' tk acc' c' hkeep hS hacc => ?_) hz
  refine ⟨.ref s.heap.objs.size, _, I.laid (t' := tk) (o := .lst (x.cps.toList.map fun c => V.str ⟨#[c]⟩)) hkeep (Nat.le_refl _) ⟨?_, acc'.toList, c', ?_, ?_⟩, rfl, q _ (I.hok.fresh (Nat.le_refl _))⟩
  · rw [List.length_map, Array.length_toList]; exact hz
  · refine vals_of_at (by simp [hacc.1]) fun j y w h1 h2 => ?_
    obtain ⟨c, u, e1, rfl⟩ := hacc.2 j w (by rw [← Array.getElem?_toList]; exact h2)
    have e1' : x.cps.toList[j]? = some c := by simpa using e1
    rw [List.getElem?_map, e1'] at h1
    cases h1
    exact ⟨u, rfl⟩
  · rw [Array.toArray_toList]; exact hS
end
end L2
set_option Elab.async false
set_option linter.all false
set_option maxRecDepth 100000
set_option maxHeartbeats 4000000
/-! list(..), [::-1], own classes -/
namespace DL
open PySem PySem.Spec L2
open PySem.W (Frag)
section
variable {X : Cx} {g : G} {xc : XC} {W : WX} {a b c e o tg iter elt : Expr} {es rest ifs : List Expr} {f h q fo ff : Sm D} {p p' : Sm Bool} {l lk its : Sm (List D)} {pos : Pos}
theorem PE.or {t t' : TE} (h : PE X e t) (h' : PE X e t') : PE X e (fun σ H Q => t σ H Q ∨ t' σ H Q) := ⟨fun pins s σ H Q I q => q.elim (h.run pins s σ H Q I) (h'.run pins s σ H Q I)⟩
theorem tD_thenS {α : Type} {σ : L2.St} {H F : Hp} {k : DkO} {env : List En} {f : Sm D} {R : D → DkO → Out α} {Qa : α → Hp → Hp → DkO → Prop} (s : Sta g H F k) (ok : EnvOk g xc k σ H F env)
    (h0 : Ask g W σ H F k ((f env k).bind R) Qa) {Q2 : VK}
    (hn : ∀ v d H1 F1 k1, Stp g H F k H1 F1 k1 → EnvOk g xc k1 σ H1 F1 env → Rep g F1 v d → Ask g W σ H1 F1 k1 (R d k1) Qa → Q2 v H1) : tD g xc W f σ H Q2 :=
  ⟨F, k, env, s, ok, (Ask.bind h0).imp fun d H1 F1 k1 _ s1 q v r => hn v d H1 F1 k1 s1 (ok.step s1) r q⟩
theorem tDA_thenS {α : Type} {σ : L2.St} {H F : Hp} {k : DkO} {env : List En} {l : Sm (List D)} {R : List D → DkO → Out α} {Qa : α → Hp → Hp → DkO → Prop} (s : Sta g H F k) (ok : EnvOk g xc k σ H F env)
    (h0 : Ask g W σ H F k ((l env k).bind R) Qa) {Q2 : List V → Hp → Prop}
    (hn : ∀ vs ds H1 F1 k1, Stp g H F k H1 F1 k1 → EnvOk g xc k1 σ H1 F1 env → RepAll g F1 vs ds → Ask g W σ H1 F1 k1 (R ds k1) Qa → Q2 vs H1) : tDA g xc W l σ H Q2 :=
  ⟨F, k, env, s, ok, (Ask.bind h0).imp fun ds H1 F1 k1 _ s1 q vs r => hn vs ds H1 F1 k1 s1 (ok.step s1) r q⟩
theorem rep_signs {F : Hp} {x : Str} (hx : SOk x) : RepAll g F (x.cps.toList.map fun c => V.str ⟨#[c]⟩) (signsD x) := by
  have key : ∀ l : List Nat, (∀ c ∈ l, c ∈ x.cps.toList) → RepAll g F (l.map fun c => V.str ⟨#[c]⟩) (l.map fun c => D.str ⟨#[c]⟩) := by
    intro l
    induction l with
    | nil => intro _; exact .nil
    | cons c l ih => intro hl; exact .cons (.str (sign_ok hx (hl c List.mem_cons_self))) (ih fun y hy => hl y (List.mem_cons_of_mem _ hy))
  exact key _ fun _ h => h
theorem none_back {H F H1 F1 : Hp} {k k1 : DkO} {p : Addr} (st : Stp g H F k H1 F1 k1) (np : H1 p = none) : H p = none := by
  cases hq : H p with
  | none => rfl
  | some u =>
    by_cases hm : dkM g k p
    · exact absurd np (dk_none st.st.dk (st.ks.m.mpr hm)).2
    · rw [st.keep p u hm hq] at np; cases np
theorem none_sub {H F : Hp} {k : DkO} {p : Addr} (s : Sta g H F k) (np : H p = none) : F p = none := by
  cases hq : F p with
  | none => rfl
  | some u => rw [s.sub _ _ hq] at np; cases np
/-- list(e) -/
theorem pdn_list {x : Str} {p2 : Pos} (hK : X.K = g.K) (hc : X.calm = true) (hg : Gl X x) (hm : X.mg x = none) (hv : bootBuiltins x = some (.type "list")) (ha : PD X g xc W e f) (hn : x ≠ "__name__" := by decide) (hdb : (x == ("__debug__" : Str)) = false := by decide)
    (he : starEach [e] X.env = (false, eval e X.env) :: starEach [] X.env := by rfl) (hpl : (backTo pos (starEach [] X.env)).any (·.1) = false := by rfl) : PDN X g xc W (.Call (.Name x p2) [e] [] pos) (iVal f) := by
  refine PE.imp (pe_callTy (CallR.or call_list_of (call_listS hc)) hg hm hv (pa_cons ha pa_nil he) hn hdb he hpl) fun σ H Q ⟨F, k, env, s, ok, q⟩ => ?_
  refine tD_thenS (R := fun d k1 => .of (itemsOf d) k1) s ok q fun v d H1 F1 k1 s1 ok1 r q1 => ?_
  have fin : ∀ (ds : List D) (vs : List V), itemsOf d = some ds → RepAll g F1 vs ds → ∀ pp, H1 pp = none → Q (.ref pp) (upd H1 pp (.lst vs)) := fun ds vs e rs pp np => by
    rw [e] at q1
    exact q1 _ _ (Stp.hid s1.st np) pp vs upd_same (none_sub s1.st np) (dkM_ne s1.st np) rs (none_back s1 np)
  cases d with
  | lst ds =>
    obtain ⟨y, vs, rfl, h1, r1⟩ := repLst r
    exact .inl ⟨y, vs, rfl, .inl (SqL.of (s1.st.sub _ _ h1)), fin ds vs rfl r1⟩
  | tup ds =>
    obtain ⟨y, vs, rfl, h1, r1⟩ := repTup r
    exact .inl ⟨y, vs, rfl, .inr (by rw [hK]; exact s1.st.sub.seqT h1), fin ds vs rfl r1⟩
  | str x =>
    obtain ⟨rfl, hx⟩ := repStr r
    exact .inr ⟨x, rfl, hx.1, fin _ _ rfl (rep_signs hx)⟩
  | _ => exact q1.elim
/-- e[::-1] -/
def revD : D → Option D
  | .lst ds => some (.lst ds.reverse)
  | .tup ds => some (.tup ds.reverse)
  | .str x => some (.str (revS x))
  | _ => none
theorem rev_ok {x : Str} (h : SOk x) : SOk (revS x) := by
  refine ⟨?_, strOk_sub h.2 fun c hc => ?_⟩
  · show x.cps.toList.reverse.toArray.size ≤ sizeLine
    rw [List.size_toArray, List.length_reverse, Array.length_toList]; exact h.1
  · have hc' : c ∈ x.cps.toList.reverse := hc
    exact List.mem_reverse.mp hc'
def sRev (f : Sm D) : Sm D := fun env k => (f env k).bind fun d k1 => .of (revD d) k1
theorem pd_rev {kk : Nat} {p1 p2 p3 : Pos} (hK : X.K = g.K) (ha : PD X g xc W e f) : PD X g xc W (.Subscript e (.Slice none none (some (.UnaryOp .USub (.Constant (.int 1) kk p1) p2)) p3) pos) (sRev f) := by
  refine PE.imp (PE.or (pe_revL ha) (PE.or (pe_revT ha) (pe_revS ha))) fun σ H Q ⟨F, k, env, s, ok, q⟩ => ?_
  unfold sRev at q
  cases hf : f env k with
  | bad => rw [hf] at q; exact q.elim
  | err c fs k1 =>
    rw [hf] at q
    exact .inl ⟨F, k, env, s, ok, by rw [hf]; exact q⟩
  | ok d k1 =>
    rw [hf] at q
    cases d with
    | lst ds =>
      refine .inl ⟨F, k, env, s, ok, by
        rw [hf]
        intro H' F' st v r
        obtain ⟨y, vs, rfl, h1, r1⟩ := repLst r
        refine ⟨y, vs, rfl, SqL.of (st.st.sub _ _ h1), fun pp np => ?_⟩
        have s2 := Stp.laid (o := .lst vs.reverse) st.st np
        exact q _ _ (st.trans s2) _ (.lst upd_same (r1.rev.same s2.ff))⟩
    | tup ds =>
      refine .inr (.inl ⟨F, k, env, s, ok, by
        rw [hf]
        intro H' F' st v r
        obtain ⟨y, vs, rfl, h1, r1⟩ := repTup r
        refine ⟨y, vs, rfl, by rw [hK]; exact st.st.sub.seqT h1, fun pp np => ?_⟩
        have s2 := Stp.laid (o := .tup vs.reverse) st.st np
        exact q _ _ (st.trans s2) _ (.tup (SqT.of upd_same) (r1.rev.same s2.ff))⟩)
    | str x =>
      refine .inr (.inr ⟨F, k, env, s, ok, by
        rw [hf]
        intro H' F' st v r
        obtain ⟨rfl, hx⟩ := repStr r
        exact ⟨x, rfl, hx.1, q _ _ st _ (.str (rev_ok hx))⟩⟩)
    | _ => exact q.elim

/-! ### own classes -/
/-- no other own class comes from it -/
def SubNo (g : G) (c : String) : Prop := ∀ c', c' ∈ g.own → c' ≠ c → PySem.W.mroIn g.K (g.cl c') (.ref (g.cl c)) = some false
theorem notFirst_of (hO : OwnAll g) {c : String} (hc : c ∈ g.own) (hn : SubNo g c) {d : D} {F : Hp} {v : V} (hl : d.isCls = false) (r : Rep g F v d) : PySem.W.notFirst g.K (g.cl c) (if d.isObj = true then .ref (g.cl (tyN d)) else .type (tyN d)) = true := by
  have tyq : ∀ n, n ∈ ["NoneType", "bool", "int", "str", "list", "tuple", "dict"] → PySem.W.notFirst g.K (g.cl c) (.type n) = true := fun n hn => by
    unfold PySem.W.notFirst
    have z : PySem.W.subIn g.K (.type n) (.ref (g.cl c)) = some false := mro_ty n hn _
    rw [z]; simp
  cases r with
  | obj hc' h r =>
    rename_i a dx c' fs ds
    show PySem.W.notFirst g.K (g.cl c) (.ref (g.cl c')) = true
    unfold PySem.W.notFirst
    by_cases e : c' = c
    · subst e; simp
    · have z : PySem.W.subIn g.K (.ref (g.cl c')) (.ref (g.cl c)) = some false := hn c' hc' e
      rw [z]; simp
  | non => exact tyq "NoneType" (by decide)
  | bl _ => exact tyq "bool" (by decide)
  | int _ => exact tyq "int" (by decide)
  | str _ => exact tyq "str" (by decide)
  | lst _ _ => exact tyq "list" (by decide)
  | tup _ _ => exact tyq "tuple" (by decide)
  | dct _ _ => exact tyq "dict" (by decide)
  | dk => exact tyq "dict" (by decide)
  | cls _ => cases hl
  | shw _ => cases hl
def sIsC (cn : String) (f : Sm D) : Sm D := fun env k => (f env k).bind fun d k1 => match d with
  | .dk => .bad
  | .cls _ => .bad
  | .shw _ => .bad
  | d => .ok (.bl (isCl cn d)) k1
/-- isinstance(e, C) -/
theorem pd_isiC {cn : String} {x : Str} {p2 p3 : Pos} (hK : X.K = g.K) (hO : OwnAll g) (hcn : cn ∈ g.own) (hsn : SubNo g cn) (hC : PE X (.Name x p3) (tC (.ref (g.cl cn)))) (hg : Gl X "isinstance") (hm : X.mg "isinstance" = none) (ha : PD X g xc W e f)
    (he1 : starEach [e, .Name x p3] X.env = (false, eval e X.env) :: starEach [.Name x p3] X.env := by rfl)
    (hpl : (backTo pos (starEach [.Name x p3] X.env)).any (·.1) = false := by rfl) : PD X g xc W (.Call (.Name "isinstance" p2) [e, .Name x p3] [] pos) (sIsC cn f) := by
  refine PE.imp (pe_callB call_isi hg hm (by decide +kernel) (pa_cons ha (pa_cons hC pa_nil) he1) (by decide) (by decide) he1 hpl) fun σ H Q ⟨F, k, env, s, ok, q⟩ => ?_
  refine tD_then' s ok q fun v d H1 F1 k1 s1 ok1 ff1 r q1 => ?_
  have hd : d ≠ .dk := fun z => by subst z; exact q1.elim
  have hl : d.isCls = false := by
    cases d <;> first | rfl | exact q1.elim
  have q2 : Ask g W σ H1 F1 k1 (.ok (.bl (isCl cn d)) k1) fun d H' F' k' => ∀ v, Rep g F' v d → Q v H' := by
    cases d <;> first | exact q1 | exact absurd rfl hd | cases hl
  obtain ⟨t, ht, et⟩ := ty_of hO s1 (fun z => absurd z hd) hl r
  refine ⟨v, .ref (g.cl cn), t, .ref (g.cl cn), isCl cn d, rfl, .own _, by rw [hK]; exact ht, by rw [hK, et]; exact kit_own hO hl r hcn hsn, q2 _ _ (.refl s1) _ (.bl _)⟩
theorem askF_noE {α : Type} {E : XK} {σ : L2.St} {H F : Hp} {k : DkO} {o : Out α} {Q : α → Hp → Hp → DkO → Prop} (h : Ask g W σ H F k (noE o) Q) : AskF g E H F k o Q := by
  cases o with
  | ok a k' => exact h
  | err c fs k' => exact h.elim
  | bad => exact h
section
variable {kk : Nat} {fa C : Addr} {fd : FuncData} {ps ks : List Str} {n : Nat} {fn : Fn} {cn : String}
/-- a special method of one's own, called alone -/
def ownO (cn : String) (fn : Fn) (C : D → Bool) : List D → DkO → Out D := fun ds k => match ds with
  | [.obj c' fs] => if c' = cn then (noE (fn [.obj c' fs] k)).bind fun d k1 => if C d = true then .ok d k1 else .bad else .bad
  | _ => .bad
def lenC : D → Bool
  | .int i => decide (0 ≤ i) && decide (i < 4611686018427387904)
  | _ => false
def strC : D → Bool
  | .str _ => true
  | _ => false
theorem ownO_case {cn : String} {fn : Fn} {C : D → Bool} {ds : List D} {σ : L2.St} {H F : Hp} {k : DkO} {Q : D → Hp → Hp → DkO → Prop} (q : Ask g W σ H F k (ownO cn fn C ds k) Q) :
    ∃ fs, ds = [.obj cn fs] ∧ Ask g W σ H F k (noE (fn [.obj cn fs] k)) fun d H1 F1 k1 => C d = true ∧ Q d H1 F1 k1 := by
  unfold ownO at q
  split at q
  · split at q
    · rename_i c' fs e
      subst e
      refine ⟨fs, rfl, (Ask.bind q).imp fun d H1 F1 k1 _ s1 q1 => ?_⟩
      by_cases hC : C d = true
      · rw [if_pos hC] at q1; exact ⟨hC, q1 _ _ (.refl s1.st)⟩
      · rw [if_neg hC] at q1; exact q1.elim
    · exact q.elim
  · exact q.elim
theorem callo_lenOwn (hK : X.K = g.K) (Fm : FnG X.prog X.w X.K X.mg X.base kk fa fd ps (SpD g 1 fn)) (hr : Room (kk + 1) X.A) (hgd : X.A.guards = some []) (hb : Binds X.K fd ps []) (hs : PySem.W.findIn X.K (.ref (g.cl cn)) "__len__" = some (some (.ref fa))) (hf : PySem.W.isFn X.K (.ref fa) = true) :
    CallO X g (.builtin "len") (ownO cn fn lenC) := by
  refine ⟨_, call_lenOwn Fm hr hgd hb hs hf, fun W σ H F k xs ds Q s rs q => ?_⟩
  obtain ⟨fs, rfl, q1⟩ := ownO_case q
  obtain ⟨v, rfl, r⟩ := rep1 rs
  obtain ⟨y, dx, ws, rfl, hc, h1, rf⟩ := repObj r
  refine ⟨y, dx, ws, rfl, s.sub _ _ h1, rfl, F, k, [.obj cn fs], s, .cons r .nil, askF_noE (q1.imp fun d H1 F1 k1 _ s1 z v rv => ?_)⟩
  obtain ⟨z1, z2⟩ := z
  cases d with
  | int i =>
    simp only [lenC, Bool.and_eq_true, decide_eq_true_eq] at z1
    rw [repInt rv]
    refine ⟨i.toNat, by rw [Int.toNat_of_nonneg z1.1], by omega, ?_⟩
    rw [Int.toNat_of_nonneg z1.1]
    exact z2 _ (.int _)
  | _ => simp [lenC] at z1
theorem callo_strOwn (hK : X.K = g.K) (Fm : FnG X.prog X.w X.K X.mg X.base kk fa fd ps (SpD g 1 fn)) (hr : Room (kk + 2) X.A) (hgd : X.A.guards = some []) (hb : Binds X.K fd ps []) (hs : PySem.W.findIn X.K (.ref (g.cl cn)) "__str__" = some (some (.ref fa))) (hf : PySem.W.isFn X.K (.ref fa) = true) :
    CallO X g (.type "str") (ownO cn fn strC) := by
  refine ⟨_, call_strOwn Fm hr hgd hb hs hf, fun W σ H F k xs ds Q s rs q => ?_⟩
  obtain ⟨fs, rfl, q1⟩ := ownO_case q
  obtain ⟨v, rfl, r⟩ := rep1 rs
  obtain ⟨y, dx, ws, rfl, hc, h1, rf⟩ := repObj r
  refine ⟨y, dx, ws, rfl, s.sub _ _ h1, rfl, F, k, [.obj cn fs], s, .cons r .nil, askF_noE (q1.imp fun d H1 F1 k1 _ s1 z v rv => ?_)⟩
  obtain ⟨z1, z2⟩ := z
  cases d with
  | str x => rw [(repStr rv).1]; exact ⟨x, rfl, z2 _ (by rw [← (repStr rv).1]; exact rv)⟩
  | _ => simp [strC] at z1

/-! ### operators that may run an own def -/
def OpO (X : Cx) (g : G) (f : Value → Value → Sem Value) (op : D → D → DkO → Out D) : Prop :=
  ∃ r : R2, OpR X f r ∧ ∀ (W : WX) (σ : L2.St) H F k x y a b Q, Sta g H F k → Rep g F x a → Rep g F y b → Ask g W σ H F k (op a b k) (fun d H' F' k' => ∀ v, Rep g F' v d → Q v H') → r x y H Q
def pureOp (o : D → D → Option D) : D → D → DkO → Out D := fun a b k => .of (o a b) k
theorem OpD.toO {f : Value → Value → Sem Value} {o : D → D → Option D} (h : OpD X g f o) : OpO X g f (pureOp o) := by
  obtain ⟨r, h1, h2⟩ := h
  exact ⟨r, h1, fun W σ H F k x y a b Q s ra rb q => op_ask h2 s ra rb q⟩
def orOp (o o' : D → D → DkO → Out D) : D → D → DkO → Out D := fun a b k => match o a b k with
  | .bad => o' a b k
  | r => r
theorem OpO.or {f : Value → Value → Sem Value} {o o' : D → D → DkO → Out D} (h : OpO X g f o) (h' : OpO X g f o') : OpO X g f (orOp o o') := by
  obtain ⟨r, h1, h2⟩ := h
  obtain ⟨r', h1', h2'⟩ := h'
  refine ⟨_, OpR.or h1 h1', fun W σ H F k x y a b Q s ra rb q => ?_⟩
  unfold orOp at q
  cases e : o a b k with
  | bad => rw [e] at q; exact .inr (h2' W σ H F k x y a b Q s ra rb q)
  | ok d k' => rw [e] at q; exact .inl (h2 W σ H F k x y a b Q s ra rb (by rw [e]; exact q))
  | err c fs k' => rw [e] at q; exact .inl (h2 W σ H F k x y a b Q s ra rb (by rw [e]; exact q))
def D.isDk : D → Bool
  | .dk => true
  | _ => false
def ownEq (cn : String) (fn : Fn) (w : Bool → Bool) : D → D → DkO → Out D := fun a b k => match a with
  | .obj c' fs => if c' = cn ∧ b.isCls = false ∧ b.isDk = false then (noE (fn [.obj c' fs, b] k)).bind fun d k1 => match d with | .bl z => .ok (.bl (w z)) k1 | _ => .bad else .bad
  | _ => .bad
theorem ownEq_case {w : Bool → Bool} {a b : D} {σ : L2.St} {H F : Hp} {k : DkO} {Q : D → Hp → Hp → DkO → Prop} (q : Ask g W σ H F k (ownEq cn fn w a b k) Q) :
    ∃ fs, a = .obj cn fs ∧ b.isCls = false ∧ b ≠ .dk ∧ Ask g W σ H F k (noE (fn [.obj cn fs, b] k)) fun d H1 F1 k1 => ∃ z, d = .bl z ∧ Q (.bl (w z)) H1 F1 k1 := by
  unfold ownEq at q
  split at q
  · split at q
    · rename_i c' fs e
      obtain ⟨e1, e2, e3⟩ := e
      subst e1
      refine ⟨fs, rfl, e2, (fun z => by subst z; cases e3), (Ask.bind q).imp fun d H1 F1 k1 _ s1 q1 => ?_⟩
      cases d with
      | bl z => exact ⟨z, rfl, q1 _ _ (.refl s1.st)⟩
      | _ => exact q1.elim
    · exact q.elim
  · exact q.elim
theorem opo_own_ {op : CmpOp} {w : Bool → Bool} (hK : X.K = g.K) (hO : OwnAll g) (hcn : cn ∈ g.own) (hsn : SubNo g cn) (ho : OpR X (compareOp op) (rOwnCmp X.K (g.cl cn) (SpD g 2 fn) w)) : OpO X g (compareOp op) (ownEq cn fn w) := by
  refine ⟨_, ho, fun W σ H F k x y a b Q s ra rb q => ?_⟩
  obtain ⟨fs, rfl, e2, e3, q1⟩ := ownEq_case q
  obtain ⟨yy, dx, ws, rfl, hc, h1, rf⟩ := repObj ra
  obtain ⟨t, ht, et⟩ := ty_of hO s (fun z => absurd z e3) e2 rb
  refine ⟨yy, dx, ws, t, rfl, s.sub _ _ h1, by rw [hK]; exact ht, by rw [hK, et]; exact notFirst_of hO hcn hsn e2 rb, rfl, F, k, [.obj cn fs, b], s, .cons ra (.cons rb .nil), askF_noE (q1.imp fun d H1 F1 k1 _ s1 z v rv => ?_)⟩
  obtain ⟨z, rfl, z2⟩ := z
  exact ⟨z, repBl rv, z2 _ (.bl _)⟩
theorem opo_eqOwn (hK : X.K = g.K) (hO : OwnAll g) (hcn : cn ∈ g.own) (hsn : SubNo g cn) (Fm : FnG X.prog X.w X.K X.mg X.base kk fa fd ps (SpD g 2 fn)) (hr : Room kk X.A) (hgd : X.A.guards = some []) (hb : Binds X.K fd ps []) (hs : PySem.W.findIn X.K (.ref (g.cl cn)) "__eq__" = some (some (.ref fa))) (hf : PySem.W.isFn X.K (.ref fa) = true) :
    OpO X g (compareOp .Eq) (ownEq cn fn fun b => b) := opo_own_ hK hO hcn hsn (op_eqOwn Fm hr hgd hb hs hf)
theorem opo_neOwn (hK : X.K = g.K) (hO : OwnAll g) (hcn : cn ∈ g.own) (hsn : SubNo g cn) (Fm : FnG X.prog X.w X.K X.mg X.base kk fa fd ps (SpD g 2 fn)) (hr : Room (kk + 1) X.A) (hgd : X.A.guards = some []) (hb : Binds X.K fd ps []) (hn : PySem.W.findIn X.K (.ref (g.cl cn)) "__ne__" = some (some (.builtin "object.__ne__"))) (hs : PySem.W.findIn X.K (.ref (g.cl cn)) "__eq__" = some (some (.ref fa))) (hf : PySem.W.isFn X.K (.ref fa) = true)
    (ho : PySem.W.subIn X.K (.ref (g.cl cn)) (.type "object") = some true) : OpO X g (compareOp .NotEq) (ownEq cn fn fun b => !b) := opo_own_ hK hO hcn hsn (op_neOwn Fm hr hgd hb hn hs hf ho)
def sOpO (o : D → D → DkO → Out D) (f h : Sm D) : Sm D := fun env k => (f env k).bind fun x k1 => (h env k1).bind fun y k2 => o x y k2
theorem pd_cmpO {op : CmpOp} {o : D → D → DkO → Out D} (ho : OpO X g (compareOp op) o) (ha : PD X g xc W a f) (hb : PD X g xc W b h) (hm : behindInMarks op b = false) : PD X g xc W (.Compare a [op] [b] pos) (sOpO o f h) := by
  obtain ⟨r, h1, h2⟩ := ho
  refine PE.imp (pe_cmpR h1 ha hb hm) fun σ H Q ⟨F, k, env, s, ok, q⟩ => ?_
  refine tD_then' s ok q fun x da H1 F1 k1 s1 ok1 ff1 rx q1 => ?_
  refine tD_then' (R := fun y k2 => o da y k2) s1 ok1 q1 fun y db H2 F2 k2 s2 ok2 ff2 ry q2 => ?_
  exact h2 W σ H2 F2 k2 x y da db Q s2 (rx.same ff2) ry q2
theorem pdt_cmpO {op : CmpOp} {o : D → D → DkO → Out D} (ho : OpO X g (compareOp op) o) (ha : PD X g xc W a f) (hb : PD X g xc W b h) (hm : behindInMarks op b = false) : PDT X g xc W (.Compare a [op] [b] pos) (sB (sOpO o f h)) := by
  obtain ⟨r, h1, h2⟩ := ho
  refine PT.imp (pt_cmpR h1 ha hb hm) fun σ H Q ⟨F, k, env, s, ok, q⟩ => ?_
  have q' : Ask g W σ H F k ((f env k).bind fun x k1 => (h env k1).bind fun y k2 => (o x y k2).bind fun d k3 => match d with | .bl b => .ok b k3 | _ => .bad) fun b H' F' k' => Q b H' := by
    have e : sB (sOpO o f h) env k = (f env k).bind fun x k1 => (h env k1).bind fun y k2 => (o x y k2).bind fun d k3 => match d with | .bl b => .ok b k3 | _ => .bad := by
      unfold sB sOpO
      cases f env k with
      | ok x k1 => simp only [bind_ok]; cases h env k1 <;> rfl
      | err c fs k1 => rfl
      | bad => rfl
    rw [← e]; exact q
  refine tD_then' s ok q' fun x da H1 F1 k1 s1 ok1 ff1 rx q1 => ?_
  refine tD_then' s1 ok1 q1 fun y db H2 F2 k2 s2 ok2 ff2 ry q2 => ?_
  refine h2 W σ H2 F2 k2 x y da db _ s2 (rx.same ff2) ry ((Ask.bind q2).imp fun d H3 F3 k3 _ s3 q3 v rv => ?_)
  cases d with
  | bl b => rw [repBl rv]; exact ⟨b, rfl, q3 _ _ (.refl s3.st)⟩
  | _ => exact q3.elim

/-! ### making -/
/-- the fields that an __init__ gives -/
abbrev FnI := List D → DkO → Out (List (Str × D))
def rem (H : Hp) (x : Addr) : Hp := fun b => if b = x then none else H b
theorem rem_same {H : Hp} {x : Addr} : rem H x x = none := if_pos rfl
theorem rem_ne {H : Hp} {x b : Addr} (h : b ≠ x) : rem H x b = H b := if_neg h
/-- an __init__'s promise -/
def SpI (g : G) (cn : String) (n : Nat) (fn : FnI) : Sp := fun vs H Q E => vs.length = n + 1 ∧ ∃ x dx ws F k ds, vs = .ref x :: ws ∧ H x = some (.ins (g.cl cn) dx []) ∧ Sta g (rem H x) F k ∧ ¬ dkM g k x ∧ RepAll g F ws ds ∧
  AskF g E (rem H x) F k (fn ds k) fun fs H' F' k' => ∀ dx' fv, H' x = some (.ins (g.cl cn) dx' fv) → F' x = none → RepFs g F' fv fs → Q .non H'
def sMake (cn : String) (n : Nat) (fn : FnI) (l : Sm (List D)) : Sm D := fun env k => (l env k).bind fun ds k1 => if ds.length = n then (fn ds k1).bind fun fs k2 => .ok (.obj cn fs) k2 else .bad
theorem make_rd {fn : FnI} {σ : L2.St} {H F : Hp} {k : DkO} {ds : List D} {ws : List V} {Q : VK} {x dx : Addr} (hO : OwnAll g) (hcn : cn ∈ g.own) (s : Sta g H F k) (r : RepAll g F ws ds) (hn : ds.length = n) (hx : H x = none) (hd : H dx = none) (hne : dx ≠ x)
    (q : Ask g W σ H F k ((fn : FnI) ds k |>.bind fun fs k2 => .ok (.obj cn fs) k2) fun d H' F' k' => ∀ v, Rep g F' v d → Q v H') :
    SpI g cn n fn (.ref x :: ws) (upd (upd H dx (.own x)) x (.ins (g.cl cn) dx [])) (fun v H3 => v = .non ∧ Q (.ref x) H3) (WE W σ) := by
  have e : rem (upd (upd H dx (.own x)) x (.ins (g.cl cn) dx [])) x = upd H dx (.own x) := by
    funext b
    by_cases hb : b = x
    · subst hb; rw [rem_same, upd_ne (Ne.symm hne)]; exact hx.symm
    · rw [rem_ne hb, upd_ne hb]
  have s1 : Stp g H F k (upd H dx (.own x)) F k := Stp.hid s hd
  refine ⟨by rw [List.length_cons, r.length, hn], x, dx, ws, F, k, ds, rfl, upd_same, by rw [e]; exact s1.st, dkM_ne s hx, r, ?_⟩
  rw [e]
  refine AskF.of (σ := σ) (Ask.after ?_ s1)
  cases hf : fn ds k with
  | bad => rw [hf] at q; exact q.elim
  | err c fs k' => rw [hf] at q; exact q
  | ok fs k' =>
    rw [hf] at q
    intro H' F' st dx2 fv h1 h2 h3
    refine ⟨rfl, ?_⟩
    have dx' : ¬ dkM g k' x := fun z => dkM_ne s hx (st.ks.m.mp z)
    exact q H' _ (st.frz hx h2 dx' h1) _ (.obj hcn upd_same (h3.same (same_frz h2)))
/-- a class by its name -/
theorem pd_globC {x : Str} (hC : PE X (.Name x pos) (tC (.ref (g.cl cn)))) : PD X g xc W (.Name x pos) (sC (.cls cn)) := pd_const hC fun _ => .cls _
def sOfC (cn : String) (ff : Sm D) (r : Sm D) : Sm D := fun env k => (ff env k).bind fun d k1 => match d with
  | .cls c' => if c' = cn then r env k1 else .bad
  | _ => .bad
theorem repCls {F : Hp} {v : V} {cn : String} (h : Rep g F v (.cls cn)) : v = .ref (g.cl cn) := by cases h; rfl
theorem ofC_rd {r : Sm D} {σ : L2.St} {H F : Hp} {k : DkO} {env : List En} {Q : VK} {Q2 : VK} (s : Sta g H F k) (ok : EnvOk g xc k σ H F env) (q : Ask g W σ H F k (sOfC cn ff r env k) fun d H' F' k' => ∀ v, Rep g F' v d → Q v H')
    (hn : ∀ H1 F1 k1, Sta g H1 F1 k1 → EnvOk g xc k1 σ H1 F1 env → Ask g W σ H1 F1 k1 (r env k1) (fun d H' F' k' => ∀ v, Rep g F' v d → Q v H') → Q2 (.ref (g.cl cn)) H1) : tD g xc W ff σ H Q2 := by
  refine tD_then' s ok q fun v d H1 F1 k1 s1 ok1 ff1 rv q1 => ?_
  cases d with
  | cls c' =>
    change Ask g W σ H1 F1 k1 (if c' = cn then r env k1 else .bad) _ at q1
    by_cases e : c' = cn
    · rw [if_pos e] at q1
      subst e
      rw [repCls rv]
      exact hn _ _ _ s1 ok1 q1
    · rw [if_neg e] at q1; exact q1.elim
  | _ => exact q1.elim
theorem kb_of {K : Frag} {fd : FuncData} {ps : List Str} (hb : Binds K fd ps []) : KBinds K fd ps [] (fun us _ => us) (fun vs _ => vs) :=
  ⟨fun s us ws hk hl => by have := hb s us hk (by rw [List.append_nil]; exact hl); rw [List.append_nil] at this; exact this, fun r _ => r⟩
/-- C(e, ..) -/
theorem pd_make {fn : FnI} {x : Str} {p2 : Pos} {f2 : Addr} (hK : X.K = g.K) (hO : OwnAll g) (hcn : cn ∈ g.own) (M : Mk X.K (g.cl cn) f2) (Fm : FnG X.prog X.w X.K X.mg X.base kk f2 fd ps (SpI g cn n fn)) (hr : Room (kk + 1) X.A) (hgd : X.A.guards = some []) (hb : Binds X.K fd ps []) (tk : Takes X W)
    (hf : PD X g xc W (.Name x p2) ff) (ha : PDA X g xc W (e :: es) l)
    (he : starEach (e :: es) X.env = (false, eval e X.env) :: starEach es X.env := by rfl) (hpl : (backTo pos (starEach es X.env)).any (·.1) = false := by rfl) :
    PD X g xc W (.Call (.Name x p2) (e :: es) [] pos) (sOfC cn ff (sMake cn n fn l)) := by
  refine PE.imp (pe_makeG M Fm hr hgd (kb_of hb) (fun σ => passAt tk σ) hf ha he hpl) fun σ H Q ⟨F, k, env, s, ok, q⟩ => ?_
  refine ofC_rd s ok q fun H0 F0 k0 s0 ok0 q0 => ⟨rfl, ?_⟩
  refine tDA_then s0 ok0 q0 fun vs ds H1 F1 k1 s1 ok1 ff1 r q1 => ?_
  by_cases hn : ds.length = n
  · rw [if_pos hn] at q1
    exact fun x dx hx hd hne => make_rd hO hcn s1 r hn hx hd hne q1
  · rw [if_neg hn] at q1; exact q1.elim
/-- values of the names alone, in another order -/
def ordK {α : Type} (j : Nat) (ix : List Nat) (ws : List α) : List α := if ws.length = j then ix.filterMap fun i => ws[i]? else []
theorem ord_one {α : Type} {v : α} {j : Nat} {ix : List Nat} {ws : List α} (h : ws.length = j) : ord 1 j (0 :: ix.map (· + 1)) [v] ws = v :: ordK j ix ws := by
  unfold ord ordK
  rw [if_pos ⟨rfl, h⟩, if_pos h, List.filterMap_cons]
  show v :: _ = _
  rw [List.filterMap_map]
  rfl
theorem rep_ordK {F : Hp} {j : Nat} {ix : List Nat} {zs : List V} {ws : List D} (rz : RepAll g F zs ws) : RepAll g F (ordK j ix zs) (ordK j ix ws) := by
  unfold ordK
  rw [rz.length]
  split
  · exact rep_pick rz ix
  · exact .nil
def sOrdK (j : Nat) (ix : List Nat) (lk : Sm (List D)) : Sm (List D) := fun env k => (lk env k).bind fun ds k1 => if ds.length = j then .ok (ordK j ix ds) k1 else .bad
/-- C(k = v, ..) -/
theorem pd_makeK0 {fn : FnI} {x : Str} {p2 : Pos} {f2 : Addr} {kws : List Keyword} {j : Nat} {ix : List Nat} (hK : X.K = g.K) (hO : OwnAll g) (hcn : cn ∈ g.own) (M : Mk X.K (g.cl cn) f2) (Fm : FnG X.prog X.w X.K X.mg X.base kk f2 fd ps (SpI g cn n fn)) (hr : Room (kk + 1) X.A) (hgd : X.A.guards = some [])
    (hb : KBinds X.K fd ps ks (ord 1 j (0 :: ix.map (· + 1))) (ord 1 j (0 :: ix.map (· + 1)))) (tk : Takes X W)
    (hf : PD X g xc W (.Name x p2) ff) (hkw : PDK X g xc W kws lk)
    (hall : (backToKw pos (keywordEach kws X.env)).all (·.1.isSome) = true := by rfl) (hks : (backToKw pos (keywordEach kws X.env)).filterMap (·.1) = ks := by rfl)
    (hpl : ((backTo pos (starEach [] X.env)).any (·.1) || (backToKw pos (keywordEach kws X.env)).any (·.1.isNone)) = false := by rfl) :
    PD X g xc W (.Call (.Name x p2) [] kws pos) (sOfC cn ff (sMake cn n fn (sOrdK j ix lk))) := by
  refine PE.imp (pe_makeK0G M Fm hr hgd hb (fun σ => passAt tk σ) hf hkw hall hks hpl) fun σ H Q ⟨F, k, env, s, ok, q⟩ => ?_
  refine ofC_rd s ok q fun H0 F0 k0 s0 ok0 q0 => ⟨rfl, ?_⟩
  have q1 : Ask g W σ H0 F0 k0 ((lk env k0).bind fun ds k1 => if ds.length = j then (if (ordK j ix ds).length = n then (fn (ordK j ix ds) k1).bind fun fs k2 => .ok (.obj cn fs) k2 else .bad) else .bad) fun d H' F' k' => ∀ v, Rep g F' v d → Q v H' := by
    unfold sMake sOrdK at q0
    cases hlk : lk env k0 with
    | bad => rw [hlk] at q0; exact q0
    | err c fs k1 => rw [hlk] at q0; exact q0
    | ok ds k1 =>
      rw [hlk] at q0
      simp only [bind_ok] at q0 ⊢
      by_cases hj : ds.length = j
      · rw [if_pos hj] at q0 ⊢; exact q0
      · rw [if_neg hj] at q0 ⊢; exact q0
  refine tDA_then s0 ok0 q1 fun vs ds H1 F1 k1 s1 ok1 ff1 r q2 => ?_
  by_cases hj : ds.length = j
  · rw [if_pos hj] at q2
    by_cases hn : (ordK j ix ds).length = n
    · rw [if_pos hn] at q2
      intro x dx hx hd hne
      show SpI g cn n fn (ord 1 j (0 :: ix.map (· + 1)) [.ref x] vs) _ _ _
      rw [ord_one (by rw [r.length]; exact hj)]
      exact make_rd hO hcn s1 (rep_ordK r) hn hx hd hne q2
    · rw [if_neg hn] at q2; exact q2.elim
  · rw [if_neg hj] at q2; exact q2.elim

/-! ### classmethods -/
def sCM (cn : String) (n : Nat) (fn : Fn) (fo : Sm D) (l : Sm (List D)) : Sm D := sOfC cn fo fun env k => (l env k).bind fun ds k1 => if ds.length + 1 = n then fn (.cls cn :: ds) k1 else .bad
theorem pd_cmeth {m : Str} {apos : Pos} {pl : Sem Bool} {mc : Value} {p1 g1 : Addr} (hK : X.K = g.K) (r : ClX.CRead X.K (g.cl cn) mc) (c : ClX.CMet X.K (g.cl cn) mc m p1 g1) (Fm : FnG X.prog X.w X.K X.mg X.base kk g1 fd ps (SpD g n fn)) (hr : Room kk X.A) (hgd : X.A.guards = some []) (hb : Binds X.K fd ps []) (tk : Takes X W)
    (ho : PD X g xc W o fo) (ha : PDA X g xc W (e :: es) l)
    (hst : starEach (e :: es) X.env = (false, eval e X.env) :: starEach es X.env := by rfl) (hpl : (backTo pos (starEach es X.env)).any (·.1) = false := by rfl)
    (ht : eval (.Call (.Attribute o m apos) (e :: es) [] pos) X.env = (do
      let ov ← eval o X.env
      standAt apos.atName
      let (f, first) ← holding [ov] (getMethod ov m pl)
      callWith pos f first (backTo pos (starEach (e :: es) X.env)) (backToKw pos (keywordEach [] X.env))) := by rfl) : PD X g xc W (.Call (.Attribute o m apos) (e :: es) [] pos) (sCM cn n fn fo l) := by
  refine PE.imp (pe_cmethG (pl := pl) ho r c Fm hr hgd (kb_of hb) (fun σ => passAt tk σ) ha hst hpl ht) fun σ H Q ⟨F, k, env, s, ok, q⟩ => ?_
  refine ofC_rd s ok q fun H0 F0 k0 s0 ok0 q0 => ⟨rfl, ?_⟩
  refine tDA_then s0 ok0 q0 fun vs ds H1 F1 k1 s1 ok1 ff1 r q1 => ?_
  by_cases hn : ds.length + 1 = n
  · rw [if_pos hn] at q1
    exact ⟨by rw [List.length_cons, r.length]; exact hn, F1, k1, _, s1, .cons (.cls _) r, .of q1⟩
  · rw [if_neg hn] at q1; exact q1.elim
theorem pd_cmethK0 {m : Str} {apos : Pos} {pl : Sem Bool} {mc : Value} {p1 g1 : Addr} {kws : List Keyword} {j : Nat} {ix : List Nat} (hK : X.K = g.K) (r : ClX.CRead X.K (g.cl cn) mc) (c : ClX.CMet X.K (g.cl cn) mc m p1 g1) (Fm : FnG X.prog X.w X.K X.mg X.base kk g1 fd ps (SpD g n fn)) (hr : Room kk X.A) (hgd : X.A.guards = some [])
    (hb : KBinds X.K fd ps ks (ord 1 j (0 :: ix.map (· + 1))) (ord 1 j (0 :: ix.map (· + 1)))) (tk : Takes X W)
    (ho : PD X g xc W o fo) (hkw : PDK X g xc W kws lk)
    (hall : (backToKw pos (keywordEach kws X.env)).all (·.1.isSome) = true := by rfl) (hks : (backToKw pos (keywordEach kws X.env)).filterMap (·.1) = ks := by rfl)
    (hpl : ((backTo pos (starEach [] X.env)).any (·.1) || (backToKw pos (keywordEach kws X.env)).any (·.1.isNone)) = false := by rfl)
    (ht : eval (.Call (.Attribute o m apos) [] kws pos) X.env = (do
      let ov ← eval o X.env
      standAt apos.atName
      let (f, first) ← holding [ov] (getMethod ov m pl)
      callWith pos f first (backTo pos (starEach [] X.env)) (backToKw pos (keywordEach kws X.env))) := by rfl) : PD X g xc W (.Call (.Attribute o m apos) [] kws pos) (sCM cn n fn fo (sOrdK j ix lk)) := by
  refine PE.imp (pe_cmethK0G (pl := pl) ho r c Fm hr hgd hb (fun σ => passAt tk σ) hkw hall hks hpl ht) fun σ H Q ⟨F, k, env, s, ok, q⟩ => ?_
  refine ofC_rd s ok q fun H0 F0 k0 s0 ok0 q0 => ⟨rfl, ?_⟩
  have q1 : Ask g W σ H0 F0 k0 ((lk env k0).bind fun ds k1 => if ds.length = j then (if (ordK j ix ds).length + 1 = n then fn (.cls cn :: ordK j ix ds) k1 else .bad) else .bad) fun d H' F' k' => ∀ v, Rep g F' v d → Q v H' := by
    unfold sOrdK at q0
    cases hlk : lk env k0 with
    | bad => rw [hlk] at q0; exact q0
    | err c fs k1 => rw [hlk] at q0; exact q0
    | ok ds k1 =>
      rw [hlk] at q0
      simp only [bind_ok] at q0 ⊢
      by_cases hj : ds.length = j
      · rw [if_pos hj] at q0 ⊢; exact q0
      · rw [if_neg hj] at q0 ⊢; exact q0
  refine tDA_then s0 ok0 q1 fun vs ds H1 F1 k1 s1 ok1 ff1 r q2 => ?_
  by_cases hj : ds.length = j
  · rw [if_pos hj] at q2
    by_cases hn : (ordK j ix ds).length + 1 = n
    · rw [if_pos hn] at q2
      show SpD g n fn (ord 1 j (0 :: ix.map (· + 1)) [.ref (g.cl cn)] vs) _ _ _
      rw [ord_one (by rw [r.length]; exact hj)]
      exact ⟨by rw [List.length_cons, (rep_ordK r).length]; exact hn, F1, k1, _, s1, .cons (.cls _) (rep_ordK r), .of q2⟩
    · rw [if_neg hn] at q2; exact q2.elim
  · rw [if_neg hj] at q2; exact q2.elim
end
end
end DL
set_option Elab.async false
set_option linter.all false
set_option maxRecDepth 100000
set_option maxHeartbeats 4000000
namespace PySem
namespace XBadText
open PySem.W PySem.Calls PyProof.Rows PySem.HandSPX PySem.Lw
def iA (p1 p2 : Pos) : Arguments := { posonlyargs := [], args := [{ arg := "self", annotation := none, pos := p1 }, { arg := "line", annotation := none, pos := p2 }], vararg := none, kwonlyargs := [], kw_defaults := [], kwarg := none, defaults := [] }
def iB (q1 q2 q3 q4 : Pos) : List Stmt := [.Assign [.Attribute (.Name "self" q1) "line" q2] (.Name "line" q3) q4]
def iS : Scope := { kind := .function, names := [(PySem.Str.ofString "self", .local), (PySem.Str.ofString "line", .local)], isGenerator := false, isCoroutine := false, more := [] }
/-- what the written part says of the class at C and of its __init__ at fI -/
structure Txt (K : Frag) (mg : Str → Option Value) (C fI : Addr) : Prop where
  gC : mg "BadText" = some (.ref C)
  ini : excInitIn K C exTail "Exception.__new__" = true
  ovr : excOver K C exTail = true
  sa : findIn K (.ref C) "__setattr__" = some (some (.builtin "object.__setattr__"))
  ga : findIn K (.ref C) "__getattribute__" = some (some (.builtin "BaseException.__getattribute__"))
  gg : findIn K (.ref C) "__getattr__" = some none
  noN : findIn K (.ref C) "line" = some none
  tkr : takerIn K C "line" = some none
  iC : findIn K (.ref C) "__init__" = some (some (.ref fI))
  tI : typeIn K (.ref fI) = some (.type "function")
  kC : keepIn K (.ref C) = true
  exC : subIn K (.ref C) (.type "BaseException") = some true
  tyC : typeIn K (.ref C) = some (.type "type")
  hdC : hasDictIn K C = true
  fn : ∃ (oc : Value) (od : Option Addr) (doc pm : Value) (an : Option Addr) (cdv ct : Value) (osl : Array (Option Value)) (p1 p2 q1 q2 q3 q4 : Pos),
    K.lookup fI = some ⟨oc, od, .func (fnOf "__init__" "BadText.__init__" (iA p1 p2) (iB q1 q2 q3 q4) iS .none .none doc pm an cdv ct), osl⟩ ∧ codeIn K cdv "BadText.__init__" = true
section
variable {prog : Program} {w : World} {A : Around} {E : Value → Shared → Prop} {R : Result → Shared → Prop} {s : Shared} {K : Frag} {mg : Str → Option Value} {C fI : Addr}
theorem init_ok (T : Txt K mg C fI) {x t0 : Addr} {v : Value} (X : K.In s.heap) (hlim : s.heap.NoLimit) (hx : s.heap.get? x = some (excO C t0)) (hroom : A.depth < recursionLimit)
    (hq : ∀ h' tk dx, InitEnd "line" s.heap h' x C dx t0 v → R (.ok (.ret .none)) { s with heap := h', toks := tk }) :
    codeAny (model prog w) A (.call (.ref fI) ⟨[.ref x, v], []⟩) R s := by
  obtain ⟨oc, od, doc, pm, an, cdv, ct, osl, p1, p2, q1, q2, q3, q4, ho, hcd⟩ := T.fn
  refine Att.call_fn (binds := [("self", .ref x), ("line", v)]) X hlim ho hcd hroom (BindsTo.of_eq (by first | rfl | with_unfolding_all rfl)) (by first | rfl | decide | with_unfolding_all rfl) (fun s1 IC => ?_) rfl rfl rfl
  obtain ⟨h1, tk1, rfl⟩ := IC.toInCall.same
  have k : ∀ b o, s.heap.get? b = some o → h1.get? b = some o := IC.toInCall.keep
  have hn := IC.toInCall.ns
  have X1 : K.In h1 := X.keeps k
  have hx1 := k _ _ hx
  show wpAny _ _ (execs _ _) _ _ _
  refine wpAny_execs_cons (plainObj_wpAny_Assign_Attribute ?_)
  refine ldC (v := v) hn (by first | rfl | with_unfolding_all rfl | kernel_rfl) (ldC (v := .ref x) hn (by first | rfl | with_unfolding_all rfl | kernel_rfl) ?_)
  refine set_plain X1 (ox := excO C t0) (od := none) ⟨hx1, rfl, rfl, trivial⟩ T.sa ?_
  refine store_first X1 T.ovr T.hdC T.tkr hx1 (fun h3 tk3 dx k3 dn dne hx3 hn3 => ?_)
  show wpAny _ _ (execs _ _) _ _ _
  have z : s.heap.objs.size < h1.objs.size := hn.lt
  exact wpAny_execs_nil (hq h3 tk3 dx ⟨fun b o hb e => k3 b o hb (k b o e), hx3, Nat.le_of_lt (Nat.lt_of_lt_of_le z dn), dne, hn3⟩)
theorem made_ok (T : Txt K mg C fI) {v : Value} (X : K.In s.heap) (hlim : s.heap.NoLimit) (hroom : A.depth + 1 < recursionLimit)
    (hq : ∀ h' tk e d, OwnMade "line" s.heap h' e C d v → R (.ok (.ret (.ref e))) { s with heap := h', toks := tk }) :
    codeAny (model prog w) A (.call (.ref C) ⟨[v], []⟩) R s := by
  obtain ⟨nm, N, qn, bs, bm, hdct, sn, sub, ab, col, dd, k0, k1, k2, k3, k5, hC, hbm⟩ := excInit_of X T.ini
  obtain ⟨hp, g, dr, tk, os⟩ := s
  refine call_own PySem.F.excBase_Exception hbm hC (looks_findIn X T.iC) (fun self => bind_fn X self T.tI) (one_size v) ?_
  have k : ∀ b o, hp.get? b = some o → ((hp.push (kdv_tup [v])).push (excO C hp.objs.size)).get? b = some o := fun b o e => Heap.get?_push_of_some _ (Heap.get?_push_of_some _ e)
  have hget : ((hp.push (kdv_tup [v])).push (excO C hp.objs.size)).get? (hp.objs.size + 1) = some (excO C hp.objs.size) := by heap_get
  refine init_ok (s := ⟨(hp.push (kdv_tup [v])).push (excO C hp.objs.size), g, dr, tk, os⟩) T (X.keeps k) (hlim.keeps k) hget ?_ fun h' tk' dx I => ?_
  · show A.depth + 1 < recursionLimit
    exact hroom
  · exact ⟨rfl, hq h' tk' (hp.objs.size + 1) dx (OwnMade.of I k)⟩
end
end XBadText
end PySem
namespace L2
open PySem PySem.Spec PyProof.Rows
section
variable {X : Cx} {C fI : Addr}
theorem pmk_BadText {a : Expr} {ta : TA} {p pos : Pos} {k : Nat} (T : PySem.XBadText.Txt X.K X.mg C fI) (hr : Room k X.A) (ha : PA X [a] ta) (hg : Gl X "BadText" := by rfl)
    (he : starEach (a :: []) X.env = (false, eval a X.env) :: starEach [] X.env := by rfl) (hpl : (backTo pos (starEach [] X.env)).any (·.1) = false := by rfl) :
    PMk X (.Call (.Name "BadText" p) [a] [] pos) (tMk1 "line" C ta) := by
  intro pins s σ H Q I h
  refine wpAny_Call_Name_kw (ld_glob I hg T.gC ?_)
  refine PySem.W.callWith_K (h₀ := X.base) I.ok.mod.kin T.kC (thn (ha.run pos pins s σ H _ I h) fun us s1 hh => ?_) he hpl
  obtain ⟨vs, H1, I1, r1, v, ev, q1⟩ := hh
  subst ev
  refine ⟨I1.kIn, ?_⟩
  cases r1 with
  | cons rv rn =>
    rename_i v' us'
    cases rn
    show wpAny _ _ (call (.ref C) [v']) _ _ _
    have hlim := I1.nolimit
    obtain ⟨hp, g, dr, tk, os⟩ := s1
    refine wpAny_call (PySem.XBadText.made_ok T I1.kIn hlim (by have := hr.dp; omega) fun h' tk' e d M => ?_)
    exact mk1_of I1 (raises_own T.exC T.tyC) rv M q1
theorem ps_raiseBadText {a : Expr} {ta : TA} {W : WX} {p pos pos2 : Pos} {k : Nat} (hc : X.calm = true) (T : PySem.XBadText.Txt X.K X.mg C fI) (hr : Room k X.A) (tk : Takes X W) (ha : PA X [a] ta) (hg : Gl X "BadText" := by rfl)
    (he : starEach (a :: []) X.env = (false, eval a X.env) :: starEach [] X.env := by rfl) (hpl : (backTo pos (starEach [] X.env)).any (·.1) = false := by rfl) :
    PS X (.Raise (some (.Call (.Name "BadText" p) [a] [] pos)) none pos2) (tRaise1 "line" C W ta) := ps_raise hc tk (pmk_BadText T hr ha hg he hpl)
theorem xfc_BadText {K : PySem.W.Frag} {mg : Str → Option Value} (T : PySem.XBadText.Txt K mg C fI) : XfC K C := ⟨T.ga, T.gg, T.exC, T.hdC⟩
end
end L2
set_option Elab.async false
set_option linter.all false
set_option maxRecDepth 100000
set_option maxHeartbeats 4000000
/-! statements -/
namespace DL
open PySem PySem.Spec L2
open PySem.W (Frag)
inductive OutS where
  | nx (env : List En) (k : DkO)
  | rt (d : D) (k : DkO)
  | bk (env : List En) (k : DkO)
  | ct (env : List En) (k : DkO)
  | err (c : String) (fs : List (Str × D)) (env : List En) (k : DkO)
  | bad
abbrev Ss := List En → DkO → OutS
/-- one's own objects: new since H0, each in one slot -/
structure Own (H0 : Hp) (σ : L2.St) (env : List En) : Prop where
  new : ∀ (i : Nat) (e : En), env[i]? = some e → e.isOwn = true → ∃ p, σ[i]? = some (some (.ref p)) ∧ H0 p = none
  dis : ∀ (i j : Nat) (e e' : En) (p : Addr), env[i]? = some e → e.isOwn = true → env[j]? = some e' → e'.isOwn = true → σ[i]? = some (some (.ref p)) → σ[j]? = some (some (.ref p)) → i = j
section
variable {g : G} {xc : XC} {H0 F0 H F H1 F1 : Hp} {k0 k k1 : DkO} {σ : L2.St} {env : List En} {W : WX} {D : Ends}
theorem set_get {α : Type} {l : List α} {i j : Nat} {x y : α} (h : (l.set i x)[j]? = some y) : (j = i ∧ y = x ∧ i < l.length) ∨ (j ≠ i ∧ l[j]? = some y) := by
  by_cases hj : j = i
  · subst hj
    by_cases hl : j < l.length
    · rw [List.getElem?_set_self hl] at h; cases h; exact .inl ⟨rfl, rfl, hl⟩
    · rw [List.getElem?_eq_none (by simpa using hl)] at h; cases h
  · rw [List.getElem?_set_ne (Ne.symm hj)] at h; exact .inr ⟨hj, h⟩
/-- a slot that is no more one's own -/
theorem Own.set_d {i : Nat} {w : Option V} {e : En} (o : Own H0 σ env) (he : e.isOwn = false) : Own H0 (σ.set i w) (env.set i e) := by
  have key : ∀ (j : Nat) (e' : En), (env.set i e)[j]? = some e' → e'.isOwn = true → j ≠ i ∧ env[j]? = some e' := fun j e' h ho => by
    rcases set_get h with ⟨_, rfl, _⟩ | z
    · rw [he] at ho; cases ho
    · exact z
  refine ⟨fun j e' h ho => ?_, fun j l e1 e2 p h1 o1 h2 o2 s1 s2 => ?_⟩
  · obtain ⟨hj, h'⟩ := key j e' h ho
    rw [List.getElem?_set_ne (Ne.symm hj)]
    exact o.new j e' h' ho
  · obtain ⟨hj, h1'⟩ := key j e1 h1 o1
    obtain ⟨hl, h2'⟩ := key l e2 h2 o2
    rw [List.getElem?_set_ne (Ne.symm hj)] at s1
    rw [List.getElem?_set_ne (Ne.symm hl)] at s2
    exact o.dis j l e1 e2 p h1' o1 h2' o2 s1 s2
/-- .. that is one's own from now on -/
theorem Own.set_own {i : Nat} {p : Addr} {e : En} (o : Own H0 σ env) (np : H0 p = none) (hd : ∀ (j : Nat) (e' : En), j ≠ i → env[j]? = some e' → e'.isOwn = true → σ[j]? ≠ some (some (.ref p))) (hl : σ.length = env.length) : Own H0 (σ.set i (some (.ref p))) (env.set i e) := by
  refine ⟨fun j e' h ho => ?_, fun j l e1 e2 q h1 o1 h2 o2 s1 s2 => ?_⟩
  · rcases set_get h with ⟨rfl, rfl, hi⟩ | ⟨hj, h'⟩
    · rw [List.getElem?_set_self (by rw [hl]; exact hi)]; exact ⟨p, rfl, np⟩
    · rw [List.getElem?_set_ne (Ne.symm hj)]; exact o.new j e' h' ho
  · rcases set_get h1 with ⟨rfl, rfl, hi⟩ | ⟨hj, h1'⟩
    · rcases set_get h2 with ⟨rfl, _, _⟩ | ⟨hj2, h2'⟩
      · rfl
      · rw [List.getElem?_set_self (by rw [hl]; exact hi)] at s1
        cases s1
        rw [List.getElem?_set_ne (Ne.symm hj2)] at s2
        exact absurd s2 (hd l e2 hj2 h2' o2)
    · rcases set_get h2 with ⟨rfl, _, hi⟩ | ⟨hj2, h2'⟩
      · rw [List.getElem?_set_self (by rw [hl]; exact hi)] at s2
        cases s2
        rw [List.getElem?_set_ne (Ne.symm hj)] at s1
        exact absurd s1 (hd j e1 hj h1' o1)
      · rw [List.getElem?_set_ne (Ne.symm hj)] at s1
        rw [List.getElem?_set_ne (Ne.symm hj2)] at s2
        exact o.dis j l e1 e2 q h1' o1 h2' o2 s1 s2
theorem Own.setTo {I : List Nat} {σ' : L2.St} {env' : List En} (a : SetTo g F I σ env σ' env') (o : Own H0 σ env) : Own H0 σ' env' := by
  induction a with
  | refl => exact o
  | step hi r _ ih => exact ih (o.set_d rfl)
/-- what an own slot holds -/
theorem own_addr {e : En} {w : Option V} (h : EnOk g xc k H F w e) (ho : e.isOwn = true) : ∃ p u, w = some (.ref p) ∧ H p = some u ∧ F p = none ∧ ¬ dkM g k p := by
  cases e with
  | own ds => obtain ⟨p, vs, e, h1, h2, h3, _⟩ := h; exact ⟨p, _, e, h1, h2, h3⟩
  | ownK ds => obtain ⟨p, vs, e, h1, h2, h3, _⟩ := h; exact ⟨p, _, e, h1, h2, h3⟩
  | ownO c ds => obtain ⟨p, dx, vs, e, h1, h2, h3, _⟩ := h; exact ⟨p, _, e, h1, h2, h3⟩
  | _ => cases ho
theorem getD_some {i : Nat} {v : V} (h : σ[i]?.getD none = some v) : σ[i]? = some (some v) := by
  cases hs : σ[i]? with
  | none => rw [hs] at h; cases h
  | some w => rw [hs] at h; rw [show w = some v from h]
/-- a write to one of them -/
theorem EnvOk.upd {i : Nat} {p : Addr} {u : HO} {e0 e : En} (ok : EnvOk g xc k σ H F env) (o : Own H0 σ env) (he : env[i]? = some e0) (ho : e0.isOwn = true) (hs : σ[i]? = some (some (.ref p))) (r : EnOk g xc k (upd H p u) F (some (.ref p)) e) : EnvOk g xc k σ (upd H p u) F (env.set i e) := by
  refine ⟨by simpa using ok.1, fun j e' h => ?_⟩
  rcases set_get h with ⟨rfl, rfl, _⟩ | ⟨hj, h'⟩
  · rw [hs]; exact r
  · have z := ok.2 j e' h'
    have ne : e'.isOwn = true → ∀ q, σ[j]?.getD none = some (.ref q) → q ≠ p := fun ho' q hq e => by
      subst e
      exact hj (o.dis j i e' e0 q h' ho' he ho (getD_some hq) hs)
    cases e' with
    | own ds => obtain ⟨q, vs, e, h1, h2⟩ := z; exact ⟨q, vs, e, by rw [upd_ne (ne rfl q e)]; exact h1, h2⟩
    | ownK ds => obtain ⟨q, vs, e, h1, h2⟩ := z; exact ⟨q, vs, e, by rw [upd_ne (ne rfl q e)]; exact h1, h2⟩
    | ownO c ds => obtain ⟨q, dx, vs, e, h1, h2⟩ := z; exact ⟨q, dx, vs, e, by rw [upd_ne (ne rfl q e)]; exact h1, h2⟩
    | _ => exact z
end

/-- what is asked for a statement's outcome, from the def's entry (H0, F0, k0) -/
def AskS (g : G) (xc : XC) (W : WX) (H0 F0 : Hp) (k0 : DkO) (D : Ends) : OutS → Prop
  | .nx env k => ∀ σ H F, Stp g H0 F0 k0 H F k → EnvOk g xc k σ H F env → Own H0 σ env → D.nx σ H
  | .rt d k => ∀ H F v, Stp g H0 F0 k0 H F k → Rep g F v d → D.rt v H
  | .bk env k => ∀ σ H F, Stp g H0 F0 k0 H F k → EnvOk g xc k σ H F env → Own H0 σ env → D.bk σ H
  | .ct env k => ∀ σ H F, Stp g H0 F0 k0 H F k → EnvOk g xc k σ H F env → Own H0 σ env → D.ct σ H
  | .err c fs env k => ∀ dx σ H F vs, Stp g H0 F0 k0 H F k → EnvOk g xc k σ H F env → Own H0 σ env → H dx = none → RepFs g F vs fs → W (.ref (g.cl c)) (some dx) σ (upd H dx (.xd vs))
  | .bad => False
def tS (g : G) (xc : XC) (W : WX) (f : Ss) : TS := fun D σ H => ∃ H0 F0 k0 F k env, Stp g H0 F0 k0 H F k ∧ EnvOk g xc k σ H F env ∧ Own H0 σ env ∧ AskS g xc W H0 F0 k0 D (f env k)
def PDS (X : Cx) (g : G) (xc : XC) (W : WX) (st : Stmt) (f : Ss) : Prop := PS X st (tS g xc W f)
def PDSs (X : Cx) (g : G) (xc : XC) (W : WX) (sts : List Stmt) (f : Ss) : Prop := PSs X sts (tS g xc W f)
theorem PS.imp {X : Cx} {st : Stmt} {t t' : TS} (h : PS X st t) (f : ∀ D σ H, t' D σ H → t D σ H) : PS X st t' := ⟨fun pins s σ H D I q => h.run pins s σ H D I (f D σ H q)⟩
theorem PSs.imp {X : Cx} {st : List Stmt} {t t' : TS} (h : PSs X st t) (f : ∀ D σ H, t' D σ H → t D σ H) : PSs X st t' := ⟨fun pins s σ H D I q => h.run pins s σ H D I (f D σ H q)⟩
/-- an expression's outcome, in a statement -/
def outS {α : Type} (o : Out α) (env : List En) (R : α → DkO → OutS) : OutS := match o with
  | .ok a k => R a k
  | .err c fs k => .err c fs env k
  | .bad => .bad
section
variable {X : Cx} {g : G} {xc : XC} {W : WX} {e o tg iter : Expr} {es : List Expr} {f h fo : Sm D} {p : Sm Bool} {l its : Sm (List D)} {pos pos' : Pos} {st : Stmt} {rest body orelse : List Stmt} {s t u : Ss}
variable {H0 F0 H F : Hp} {k0 k : DkO} {σ : L2.St} {env : List En} {D : Ends}
theorem askS_ask {α : Type} {o : Out α} {R : α → DkO → OutS} (S : Stp g H0 F0 k0 H F k) (ok : EnvOk g xc k σ H F env) (ow : Own H0 σ env) (q : AskS g xc W H0 F0 k0 D (outS o env R)) :
    Ask g W σ H F k o fun a H1 F1 k1 => Stp g H0 F0 k0 H1 F1 k1 ∧ EnvOk g xc k1 σ H1 F1 env ∧ AskS g xc W H0 F0 k0 D (R a k1) := by
  cases o with
  | bad => exact q
  | err c fs k1 => exact fun dx H1 F1 vs s1 hd r => q dx σ H1 F1 vs (S.trans s1) (ok.step s1) ow hd r
  | ok a k1 => exact fun H1 F1 s1 => ⟨S.trans s1, ok.step s1, q⟩
/-- a statement that first asks an expression -/
theorem tS_D {R : DL.D → DkO → OutS} {Q : VK} (z : Stp g H0 F0 k0 H F k) (ok : EnvOk g xc k σ H F env) (ow : Own H0 σ env) (q : AskS g xc W H0 F0 k0 D (outS (f env k) env R))
    (hn : ∀ v d H1 F1 k1, Stp g H0 F0 k0 H1 F1 k1 → EnvOk g xc k1 σ H1 F1 env → Rep g F1 v d → AskS g xc W H0 F0 k0 D (R d k1) → Q v H1) : tD g xc W f σ H Q :=
  ⟨F, k, env, z.st, ok, (askS_ask z ok ow q).imp fun d H1 F1 k1 _ _ ⟨a1, a2, a3⟩ v r => hn v d H1 F1 k1 a1 a2 r a3⟩
theorem tS_T {R : Bool → DkO → OutS} {Q : Bool → Hp → Prop} (z : Stp g H0 F0 k0 H F k) (ok : EnvOk g xc k σ H F env) (ow : Own H0 σ env) (q : AskS g xc W H0 F0 k0 D (outS (p env k) env R))
    (hn : ∀ b H1 F1 k1, Stp g H0 F0 k0 H1 F1 k1 → EnvOk g xc k1 σ H1 F1 env → AskS g xc W H0 F0 k0 D (R b k1) → Q b H1) : tDT g xc W p σ H Q :=
  ⟨F, k, env, z.st, ok, (askS_ask z ok ow q).imp fun d H1 F1 k1 _ _ ⟨a1, a2, a3⟩ => hn d H1 F1 k1 a1 a2 a3⟩
theorem tS_A {R : List DL.D → DkO → OutS} {Q : List V → Hp → Prop} (z : Stp g H0 F0 k0 H F k) (ok : EnvOk g xc k σ H F env) (ow : Own H0 σ env) (q : AskS g xc W H0 F0 k0 D (outS (l env k) env R))
    (hn : ∀ vs ds H1 F1 k1, Stp g H0 F0 k0 H1 F1 k1 → EnvOk g xc k1 σ H1 F1 env → RepAll g F1 vs ds → AskS g xc W H0 F0 k0 D (R ds k1) → Q vs H1) : tDA g xc W l σ H Q :=
  ⟨F, k, env, z.st, ok, (askS_ask z ok ow q).imp fun d H1 F1 k1 _ _ ⟨a1, a2, a3⟩ v r => hn v d H1 F1 k1 a1 a2 r a3⟩

/-! ### blocks -/
def sSeq (s t : Ss) : Ss := fun env k => match s env k with
  | .nx env' k' => t env' k'
  | o => o
def sSkip : Ss := fun env k => .nx env k
theorem pds_nil : PDSs X g xc W [] sSkip := PSs.imp pss_nil fun D σ H ⟨H0, F0, k0, F, k, env, z, ok, ow, q⟩ => q σ H F z ok ow
theorem pds_one (hh : PDS X g xc W st s) : PDSs X g xc W [st] s := pss_one hh
theorem pds_cons (hh : PDS X g xc W st s) (hr : PDSs X g xc W rest t) : PDSs X g xc W (st :: rest) (sSeq s t) := by
  refine PSs.imp (pss_cons hh hr) fun D σ H ⟨H0, F0, k0, F, k, env, z, ok, ow, q⟩ => ?_
  refine ⟨H0, F0, k0, F, k, env, z, ok, ow, ?_⟩
  unfold sSeq at q
  cases hs : s env k with
  | nx env' k' =>
    rw [hs] at q
    exact fun σ1 H1 F1 z1 ok1 ow1 => ⟨H0, F0, k0, F1, k', env', z1, ok1, ow1, q⟩
  | rt d k' => rw [hs] at q; exact q
  | bk env' k' => rw [hs] at q; exact q
  | ct env' k' => rw [hs] at q; exact q
  | err c fs env' k' => rw [hs] at q; exact q
  | bad => rw [hs] at q; exact q
theorem pds_pass : PDS X g xc W (.Pass pos) sSkip := PS.imp ps_pass fun D σ H ⟨H0, F0, k0, F, k, env, z, ok, ow, q⟩ => q σ H F z ok ow
theorem pds_doc {x : Str} {j : Nat} : PDS X g xc W (.Expr (.Constant (.str x) j pos) pos') sSkip := PS.imp ps_doc fun D σ H ⟨H0, F0, k0, F, k, env, z, ok, ow, q⟩ => q σ H F z ok ow
theorem pds_break : PDS X g xc W (.Break pos) (fun env k => .bk env k) := PS.imp ps_break fun D σ H ⟨H0, F0, k0, F, k, env, z, ok, ow, q⟩ => q σ H F z ok ow
theorem pds_continue : PDS X g xc W (.Continue pos) (fun env k => .ct env k) := PS.imp ps_continue fun D σ H ⟨H0, F0, k0, F, k, env, z, ok, ow, q⟩ => q σ H F z ok ow
def sExpr (f : Sm DL.D) : Ss := fun env k => outS (f env k) env fun _ k1 => .nx env k1
theorem pds_expr (he : PD X g xc W e f) (hs : swapsWith e none pos.line X.env = pure false := by rfl) : PDS X g xc W (.Expr e pos) (sExpr f) :=
  PS.imp (ps_expr he hs) fun D σ H ⟨H0, F0, k0, F, k, env, z, ok, ow, q⟩ => tS_D z ok ow q fun v d H1 F1 k1 z1 ok1 r q1 => q1 _ _ _ z1 ok1 ow
def sRet (f : Sm DL.D) : Ss := fun env k => outS (f env k) env fun d k1 => .rt d k1
theorem pds_ret (he : PD X g xc W e f) : PDS X g xc W (.Return (some e) pos) (sRet f) :=
  PS.imp (ps_ret he) fun D σ H ⟨H0, F0, k0, F, k, env, z, ok, ow, q⟩ => tS_D z ok ow q fun v d H1 F1 k1 z1 ok1 r q1 => q1 _ _ v z1 r
theorem pds_retN : PDS X g xc W (.Return none pos) (fun _ k => .rt .non k) :=
  PS.imp ps_retN fun D σ H ⟨H0, F0, k0, F, k, env, z, ok, ow, q⟩ => q _ _ _ z .non
def sIfS (p : Sm Bool) (s t : Ss) : Ss := fun env k => outS (p env k) env fun b k1 => if b = true then s env k1 else t env k1
theorem pds_if (hc : PDT X g xc W e p) (ha : PDSs X g xc W body s) (hb : PDSs X g xc W orelse t) : PDS X g xc W (.If e body orelse pos) (sIfS p s t) := by
  refine PS.imp (ps_if hc ha hb) fun D σ H ⟨H0, F0, k0, F, k, env, z, ok, ow, q⟩ => ?_
  refine tS_T z ok ow q fun b H1 F1 k1 z1 ok1 q1 => ?_
  cases b with
  | true => exact ⟨H0, F0, k0, F1, k1, env, z1, ok1, ow, q1⟩
  | false => exact ⟨H0, F0, k0, F1, k1, env, z1, ok1, ow, q1⟩
def sSet (i : Nat) (f : Sm DL.D) : Ss := fun env k => outS (f env k) env fun d k1 => .nx (env.set i (.d d)) k1
theorem pds_set {i : Nat} {x : Str} {p1 : Pos} (hN : X.N.Nodup) (hi : X.N[i]? = some x) (hx : Loc X.env.scope x) (he : PD X g xc W e f) (hs : swapsWith e (some (.Name x p1)) pos.line X.env = pure false := by rfl) (hf : X.fn x = true ∨ X.env.scope.names.lookup x = some .local := by first | exact .inl rfl | exact .inr rfl | assumption) : PDS X g xc W (.Assign [.Name x p1] e pos) (sSet i f) := by
  refine PS.imp (ps_set hN hi hx he hs hf) fun D σ H ⟨H0, F0, k0, F, k, env, z, ok, ow, q⟩ => ?_
  exact tS_D z ok ow q fun v d H1 F1 k1 z1 ok1 r q1 => q1 _ _ _ z1 (ok1.set (.set_d r)) (ow.set_d rfl)
def sAsg (t : Tgt) (f : Sm DL.D) : Ss := fun env k => outS (f env k) env fun d k1 => match t.set d env with
  | some env' => .nx env' k1
  | none => .bad
theorem pds_asg {t : Tgt} (he : PD X g xc W e f) (hg : PDG X g tg t) (hs : swapsWithSole [tg] e pos.line X.env = pure false := by rfl) (hw : swappedStores [tg] e X.env = pure none := by rfl)
    (h1 : (assignEach [tg] X.env).map (·.2) = [assign tg X.env] := by rfl) : PDS X g xc W (.Assign [tg] e pos) (sAsg t f) := by
  refine PS.imp (ps_asg he hg hs hw h1) fun D σ H ⟨H0, F0, k0, F, k, env, z, ok, ow, q⟩ => ?_
  refine tS_D z ok ow q fun v d H1 F1 k1 z1 ok1 r q1 => ?_
  cases ht : t.set d env with
  | none => rw [ht] at q1; exact q1.elim
  | some env' =>
    rw [ht] at q1
    exact tgT_ok z1.st.sub t v d _ _ env' _ r ht fun σ' z2 => q1 _ _ _ z1 (z2.env ok1) (ow.setTo z2)
end
end DL
set_option Elab.async false
set_option linter.all false
set_option maxRecDepth 100000
set_option maxHeartbeats 4000000
/-! own lists and objects, loops, exceptions -/
namespace DL
open PySem PySem.Spec L2
open PySem.W (Frag)
section
variable {X : Cx} {g : G} {xc : XC} {W : WX} {e o tg iter : Expr} {es : List Expr} {f h fo : Sm D} {p : Sm Bool} {l its : Sm (List D)} {pos pos' : Pos} {st : Stmt} {rest body orelse : List Stmt} {s t u : Ss}
variable {H0 F0 H F : Hp} {k0 k : DkO} {σ : L2.St} {env : List En} {D : Ends}
theorem Stp.no0 (z : Stp g H0 F0 k0 H F k) {p : Addr} (np : H p = none) : H0 p = none := none_back z np
/-- a fresh address is in no own slot -/
theorem fresh_not {p : Addr} (ok : EnvOk g xc k σ H F env) (np : H p = none) : ∀ (j : Nat) (e' : En), env[j]? = some e' → e'.isOwn = true → σ[j]? ≠ some (some (.ref p)) := fun j e' he ho hs => by
  obtain ⟨q, u, e, h1, _⟩ := own_addr (ok.2 j e' he) ho
  rw [hs] at e
  cases e
  rw [np] at h1; cases h1

/-! ### name = a new list -/
def sSetN (i : Nat) (l : Sm (List DL.D)) : Ss := fun env k => outS (l env k) env fun ds k1 => .nx (env.set i (.own ds)) k1
theorem setN_rd {i : Nat} (z : Stp g H0 F0 k0 H F k) (ok : EnvOk g xc k σ H F env) (ow : Own H0 σ env) (q : AskS g xc W H0 F0 k0 D (sSetN i l env k)) :
    ∃ F k env, Sta g H F k ∧ EnvOk g xc k σ H F env ∧ AskN g W σ H F k (l env k) fun v H1 => D.nx (σ.set i (some v)) H1 := by
  refine ⟨F, k, env, z.st, ok, (askS_ask z ok ow q).imp fun ds H1 F1 k1 _ s1 ⟨z1, ok1, q1⟩ p vs hp fp dp r np => ?_⟩
  refine q1 _ _ _ z1 (ok1.set (e := .own ds) ⟨p, vs, rfl, hp, fp, dp, r⟩) (ow.set_own (z.no0 np) (fun j e' _ he ho => fresh_not ok np j e' he ho) ok.1)
theorem pds_setN {i : Nat} {x : Str} {p1 : Pos} (hN : X.N.Nodup) (hi : X.N[i]? = some x) (hx : Loc X.env.scope x) (he : PDN X g xc W e l) (hs : swapsWith e (some (.Name x p1)) pos.line X.env = pure false := by rfl) (hf : X.fn x = true ∨ X.env.scope.names.lookup x = some .local := by first | exact .inl rfl | exact .inr rfl | assumption) : PDS X g xc W (.Assign [.Name x p1] e pos) (sSetN i l) := by
  refine PS.imp (ps_set hN hi hx he hs hf) fun D σ H ⟨H0, F0, k0, F, k, env, z, ok, ow, q⟩ => ?_
  exact setN_rd z ok ow q
/-- name = [.. for ..], on one line -/
theorem pds_setLc {i : Nat} {y : Str} {py spos : Pos} {tg elt : Expr} {ifs : List Expr} {scope : Scope} {own : List (Str × Nat)} {tt : Tgt} (hc : X.calm = true) (hN : X.N.Nodup) (hy : X.N[i]? = some y) (hyl : X.env.scope.names.lookup y = some .local)
    (hsw : swapsWith (.ListComp elt [⟨tg, iter, ifs, 0⟩] scope pos) (some (.Name y py)) spos.line X.env = pure true) (hi : PDI X g xc W tg iter its) (ok : BlkOk X.N X.env.scope scope own) (hv : ∀ i ∈ tt.slots, i ∈ own.map (·.2))
    (hg : ∀ (s : Shared) (H : Hp) (C : Addr) (cl : List (Str × Addr)) (fp : List Addr), PDG (X.blk s H scope (compEnvC scope cl C X.env) fp) g tg tt) (ht : ∀ (s : Shared) (H : Hp) (C : Addr) (cl : List (Str × Addr)) (fp : List Addr), PDTs (X.blk s H scope (compEnvC scope cl C X.env) fp) g xc W0 ifs p)
    (he : ∀ (s : Shared) (H : Hp) (C : Addr) (cl : List (Str × Addr)) (fp : List Addr), PD (X.blk s H scope (compEnvC scope cl C X.env) fp) g xc W0 elt f) (hs : ∀ x, foldedSetIterable iter X.env x = pure x := by intro _; rfl) :
    PDS X g xc W (.Assign [.Name y py] (.ListComp elt [⟨tg, iter, ifs, 0⟩] scope pos) spos) (sSetN i (sComp tt (own.map (·.2)) p f its)) := by
  refine PS.imp (ps_setLc hc hN hy hyl hsw hi ok hg ht he hs) fun D σ H ⟨H0, F0, k0, F, k, env, z, eo, ow, q⟩ => ?_
  obtain ⟨F, k, env, s, eo, q⟩ := setN_rd z eo ow q
  refine ⟨F, k, env, s, eo, (Ask.bind q).imp fun ds H1 F1 k1 _ s1 q1 J hJ Dd nD => ?_⟩
  refine compM_rd hv s1.st (eo.step s1) nD hJ q1 fun acc H' F' k' us st h1 h2 h3 h4 hp => ?_
  exact hp Dd us h1 h2 h3 h4 (none_back s1 nD)

/-! ### one's own list -/
def sApnd (i : Nat) (f : Sm DL.D) : Ss := fun env k => match env[i]? with
  | some (.own ds) => outS (f env k) env fun d k1 => if ds.length < sizeLine then .nx (env.set i (.own (ds ++ [d]))) k1 else .bad
  | _ => .bad
/-- x.append(e) -/
theorem pds_append {i : Nat} {apos cpos : Pos} (hK : X.K = g.K) (hx : PE X o (tVar i)) (he : PD X g xc W e f)
    (hbase : attributeBase o "append" X.env (eval o X.env) = eval o X.env := by rfl)
    (hfew : ((backTo cpos (starEach [e] X.env)).all (fun x => !x.1) && (backToKw cpos (keywordEach [] X.env)).all (fun x => x.1.isSome)
      && decide (([e] : List Expr).length + ([] : List Keyword).length + (if ([] : List Keyword).isEmpty then 0 else 1) < 30)) = true := by rfl)
    (hline : (apos.endLine == cpos.line) = true := by rfl) (hs : starEach [e] X.env = (false, eval e X.env) :: starEach [] X.env := by rfl) (hplain : (backTo cpos (starEach [] X.env)).any (·.1) = false := by rfl)
    (hsw : swapsWith (.Call (.Attribute o "append" apos) [e] [] cpos) none pos.line X.env = pure false := by rfl) : PDS X g xc W (.Expr (.Call (.Attribute o "append" apos) [e] [] cpos) pos) (sApnd i f) := by
  refine PS.imp (ps_expr (pe_bm PySem.F.plainAttrs_list PySem.F.slot_list_append PySem.F.type_list_append mt_append hx (pa_cons he pa_nil hs) hbase hfew hline hs hplain) hsw) fun D σ H ⟨H0, F0, k0, F, k, env, z, ok, ow, q⟩ => ?_
  unfold sApnd at q
  cases hi : env[i]? with
  | none => rw [hi] at q; exact q.elim
  | some en =>
    rw [hi] at q
    cases en with
    | own ds =>
      obtain ⟨a, vs, ev, ha, fa, da, r⟩ := ok.2 i _ hi
      refine ⟨.ref a, getD_some ev, .inl ⟨rfl, vs, SqL.of ha⟩, ?_⟩
      have key : tD g xc W f σ H fun v H2 => ∃ (l : Addr) (xs : List V) (y : V), V.ref a = .ref l ∧ [v] = [y] ∧ H2 l = some (.lst xs) ∧ xs.length < sizeLine ∧ D.nx σ (upd H2 l (.lst (xs ++ [y]))) := by
        refine ⟨F, k, env, z.st, ok, (askS_ask z ok ow q).imp fun d H1 F1 k1 _ s1 ⟨z1, ok1, q1⟩ v rv => ?_⟩
        have hv : vs.length = ds.length := r.length
        have a1 : H1 a = some (.lst vs) := s1.keep _ _ da ha
        refine ⟨a, vs, v, rfl, rfl, a1, ?_⟩
        by_cases hl : ds.length < sizeLine
        · rw [if_pos hl] at q1
          refine ⟨by rw [hv]; exact hl, ?_⟩
          have f1 : F1 a = none := s1.new _ fa (by rw [ha]; exact fun z => by cases z)
          have d1 : ¬ dkM g k1 a := fun z => da (s1.ks.m.mp z)
          obtain ⟨pa, hpa, npa⟩ := ow.new i _ hi rfl
          have epa : pa = a := by
            have := getD_some ev
            rw [hpa] at this
            cases this; rfl
          subst epa
          have z2 : Stp g H0 F0 k0 (upd H1 pa (.lst (vs ++ [v]))) F1 k1 := z1.own npa f1 d1
          refine q1 _ _ _ z2 (ok1.upd ow hi rfl hpa ⟨pa, _, rfl, upd_same, f1, d1, (r.same s1.ff).app (.cons rv .nil)⟩) ?_
          have := ow.set_own (i := i) (p := pa) (e := .own (ds ++ [d])) npa (fun j e' hj he ho hs => hj (ow.dis j i e' _ pa he ho hi rfl hs hpa)) ok.1
          have es : σ.set i (some (.ref pa)) = σ := by
            apply List.ext_getElem?
            intro j
            by_cases hj : j = i
            · subst hj
              obtain ⟨hlt, _⟩ := List.getElem?_eq_some_iff.mp hpa
              rw [List.getElem?_set_self hlt, hpa]
            · rw [List.getElem?_set_ne (Ne.symm hj)]
          rw [es] at this
          exact this
        · rw [if_neg hl] at q1; exact q1.elim
      exact key
    | _ => exact q.elim
/-- from now on known -/
def frzE : En → En
  | .own ds => .d (.lst ds)
  | .ownK ds => .d (.dct ds)
  | e => e
def sFrzS (i : Nat) (s : Ss) : Ss := fun env k => match env[i]? with
  | some e => s (env.set i (frzE e)) k
  | none => s env k
theorem frz_step {i : Nat} {e : En} (z : Stp g H0 F0 k0 H F k) (ok : EnvOk g xc k σ H F env) (ow : Own H0 σ env) (hi : env[i]? = some e) : ∃ F1, Stp g H0 F0 k0 H F1 k ∧ EnvOk g xc k σ H F1 (env.set i (frzE e)) ∧ Own H0 σ (env.set i (frzE e)) := by
  have base : ∀ {a : Addr} {o : HO} {e' : En}, e.isOwn = true → σ[i]? = some (some (.ref a)) → H a = some o → F a = none → ¬ dkM g k a → (EnOk g xc k H (upd F a o) (some (.ref a)) e') → e'.isOwn = false → ∃ F1, Stp g H0 F0 k0 H F1 k ∧ EnvOk g xc k σ H F1 (env.set i e') ∧ Own H0 σ (env.set i e') := by
    intro a o e' ho hs ha fa da r ho'
    obtain ⟨pa, hpa, npa⟩ := ow.new i _ hi ho
    rw [hs] at hpa
    cases hpa
    have z1 := z.frz npa fa da ha
    refine ⟨_, z1, ⟨by simpa using ok.1, fun j e2 h2 => ?_⟩, ?_⟩
    · rcases set_get h2 with ⟨rfl, rfl, _⟩ | ⟨hj, h2'⟩
      · rw [hs]; exact r
      · have q := ok.2 j e2 h2'
        have sf := same_frz (F := F) (p := a) (o := o) fa
        have ne : e2.isOwn = true → ∀ b, σ[j]?.getD none = some (.ref b) → b ≠ a := fun ho2 b hb e => by
          subst e
          exact hj (ow.dis j i e2 e b h2' ho2 hi ho (getD_some hb) hs)
        cases e2 with
        | no => trivial
        | d x => obtain ⟨v, e, r⟩ := q; exact ⟨v, e, r.same sf⟩
        | own ds => obtain ⟨b, vs, e, h1, h2, h3, r⟩ := q; exact ⟨b, vs, e, h1, by rw [upd_ne (ne rfl b e)]; exact h2, h3, r.same sf⟩
        | ownK ds => obtain ⟨b, vs, e, h1, h2, h3, r⟩ := q; exact ⟨b, vs, e, h1, by rw [upd_ne (ne rfl b e)]; exact h2, h3, r.same sf⟩
        | ownO c ds => obtain ⟨b, dx, vs, e, h1, h2, h3, r, hx⟩ := q; exact ⟨b, dx, vs, e, h1, by rw [upd_ne (ne rfl b e)]; exact h2, h3, r.same sf, hx⟩
        | exc c ds => obtain ⟨b, dx, vs, e, h1, h2, r⟩ := q; exact ⟨b, dx, vs, e, h1, sf _ _ h2, r.same sf⟩
    · have := ow.set_d (i := i) (w := some (.ref a)) (e := e') ho'
      have es : σ.set i (some (.ref a)) = σ := by
        apply List.ext_getElem?
        intro j
        by_cases hj : j = i
        · subst hj
          obtain ⟨hlt, _⟩ := List.getElem?_eq_some_iff.mp hs
          rw [List.getElem?_set_self hlt, hs]
        · rw [List.getElem?_set_ne (Ne.symm hj)]
      rw [es] at this
      exact this
  have same : ∀ {e' : En}, e' = e → ∃ F1, Stp g H0 F0 k0 H F1 k ∧ EnvOk g xc k σ H F1 (env.set i e') ∧ Own H0 σ (env.set i e') := by
    intro e' ee
    subst ee
    have es : env.set i e' = env := by
      apply List.ext_getElem?
      intro j
      by_cases hj : j = i
      · subst hj
        obtain ⟨hlt, _⟩ := List.getElem?_eq_some_iff.mp hi
        rw [List.getElem?_set_self hlt, hi]
      · rw [List.getElem?_set_ne (Ne.symm hj)]
    rw [es]
    exact ⟨F, z, ok, ow⟩
  cases e with
  | own ds =>
    obtain ⟨a, vs, ev, ha, fa, da, r⟩ := ok.2 i _ hi
    exact base rfl (getD_some ev) ha fa da ⟨_, rfl, .lst upd_same (r.same (same_frz fa))⟩ rfl
  | ownK ds =>
    obtain ⟨a, vs, ev, ha, fa, da, r⟩ := ok.2 i _ hi
    exact base rfl (getD_some ev) ha fa da ⟨_, rfl, .dct upd_same (r.same (same_frz fa))⟩ rfl
  | _ => exact same rfl
theorem pds_frz {i : Nat} (hh : PDS X g xc W st s) : PDS X g xc W st (sFrzS i s) := by
  refine PS.imp hh fun D σ H ⟨H0, F0, k0, F, k, env, z, ok, ow, q⟩ => ?_
  unfold sFrzS at q
  cases hi : env[i]? with
  | none => rw [hi] at q; exact ⟨H0, F0, k0, F, k, env, z, ok, ow, q⟩
  | some e =>
    rw [hi] at q
    obtain ⟨F1, z1, ok1, ow1⟩ := frz_step z ok ow hi
    exact ⟨H0, F0, k0, F1, k, _, z1, ok1, ow1, q⟩

/-! ### loops -/
/-- what is known meanwhile counts -/
theorem Stp.self (z : Stp g H0 F0 k0 H F k) : Stp g H0 F k0 H F k := ⟨z.st, .refl _, z.keep, fun _ e _ => e, z.ks⟩
theorem Stp.reb {H1 F1 : Hp} {k1 : DkO} (z : Stp g H0 F0 k0 H F k) (z1 : Stp g H0 F k0 H1 F1 k1) : Stp g H0 F0 k0 H1 F1 k1 :=
  ⟨z1.st, z.ff.trans z1.ff, z1.keep, fun b e h => z1.new b (z.new b e h) h, z1.ks⟩
theorem AskS.reb {o : OutS} (z : Stp g H0 F0 k0 H F k) (q : AskS g xc W H0 F0 k0 D o) : AskS g xc W H0 F k0 D o := by
  cases o with
  | nx env k' => exact fun σ H F z1 => q σ H F (z.reb z1)
  | rt d k' => exact fun H F v z1 => q H F v (z.reb z1)
  | bk env k' => exact fun σ H F z1 => q σ H F (z.reb z1)
  | ct env k' => exact fun σ H F z1 => q σ H F (z.reb z1)
  | err c fs env k' => exact fun dx σ H F vs z1 => q dx σ H F vs (z.reb z1)
  | bad => exact q
def forM (t : Tgt) (body : Ss) : List DL.D → List En → DkO → OutS
  | [], env, k => .nx env k
  | d :: ds, env, k => match t.set d env with
    | none => .bad
    | some env1 => match body env1 k with
      | .nx env2 k2 => forM t body ds env2 k2
      | .ct env2 k2 => forM t body ds env2 k2
      | .bk env2 k2 => .nx env2 k2
      | o => o
def sFor (t : Tgt) (its : Sm (List DL.D)) (body : Ss) : Ss := fun env k => outS (its env k) env fun ds k1 => forM t body ds env k1
theorem pds_for {tt : Tgt} (hp : PassesOwn (model X.prog X.w) X.A X.env X.xe) (hc : X.calm = true) (hi : PDI X g xc W tg iter its) (hg : PDG X g tg tt) (hb : PDSs X g xc W body s)
    (hs : ∀ x, foldedSetIterable iter X.env x = pure x := by intro _; rfl) : PDS X g xc W (.For tg iter body [] pos) (sFor tt its s) := by
  refine PS.imp (ps_for hp hc hi hg hb hs) fun D σ H ⟨H0, F0, k0, F, k, env, z, ok, ow, q⟩ => ?_
  refine ⟨F, k, env, z.st, ok, (askS_ask z ok ow q).imp fun ds H1 F1 k1 _ s1 ⟨z1, ok1, q1⟩ J hJ => ?_⟩
  obtain ⟨GG, Y, wk, hG, hY⟩ := hJ
  refine for_it wk (fun i σ' H' => ∃ F' k' env', Stp g H0 F0 k0 H' F' k' ∧ EnvOk g xc k' σ' H' F' env' ∧ Own H0 σ' env' ∧ Same F1 F' ∧ AskS g xc W H0 F0 k0 D (forM tt s (ds.drop i) env' k'))
    ⟨F1, k1, env, z1, ok1, ow, .refl _, by rw [List.drop_zero]; exact q1⟩ (fun i σ' H' _ hh => ?_) (fun i x σ' H1' H2' hi' hh y => ?_) (fun σ' H' hh => ?_)
  · obtain ⟨F', k', env', z', _, _, ff, _⟩ := hh
    exact hG _ (ff.trans z'.st.sub)
  · obtain ⟨F', k', env', z', ok', ow', ff, q'⟩ := hh
    obtain ⟨F2, d, st2, hd2, rd⟩ := hY i H1' F' k' x H2' z'.st ff hi' y
    have e1 : ds.drop i = d :: ds.drop (i + 1) := by
      obtain ⟨h1, h2⟩ := List.getElem?_eq_some_iff.mp hd2
      rw [← h2]
      exact List.drop_eq_getElem_cons h1
    rw [e1] at q'
    unfold forM at q'
    cases ht : tt.set d env' with
    | none => rw [ht] at q'; exact q'.elim
    | some env1 =>
      rw [ht] at q'
      simp only at q'
      refine tgT_ok st2.st.sub tt x d _ _ env1 _ rd ht fun σ2 z2 => ?_
      have z3 := z'.trans st2
      refine ⟨H0, F2, k0, F2, k', env1, z3.self, z2.env (ok'.step st2), ow'.setTo z2, ?_⟩
      cases hb' : s env1 k' with
      | nx env2 k2 =>
        rw [hb'] at q'
        intro σ3 H3 F3 z4 ok4 ow4
        exact ⟨F3, k2, env2, z3.reb z4, ok4, ow4, (ff.trans st2.ff).trans z4.ff, q'⟩
      | ct env2 k2 =>
        rw [hb'] at q'
        intro σ3 H3 F3 z4 ok4 ow4
        exact ⟨F3, k2, env2, z3.reb z4, ok4, ow4, (ff.trans st2.ff).trans z4.ff, q'⟩
      | bk env2 k2 => rw [hb'] at q'; exact fun σ4 H4 F4 z4 => q' σ4 H4 F4 (z3.reb z4)
      | rt d2 k2 => rw [hb'] at q'; exact fun H4 F4 v z4 => q' H4 F4 v (z3.reb z4)
      | err c fs env2 k2 => rw [hb'] at q'; exact fun dx σ4 H4 F4 vs z4 => q' dx σ4 H4 F4 vs (z3.reb z4)
      | bad => rw [hb'] at q'; exact q'
  · obtain ⟨F', k', env', z', ok', ow', ff, q'⟩ := hh
    rw [List.drop_length] at q'
    unfold forM at q'
    exact q' _ _ _ z' ok' ow'
end
end DL
set_option Elab.async false
set_option linter.all false
set_option maxRecDepth 100000
set_option maxHeartbeats 4000000
/-! pairs, while, fields of self, raise, try -/
namespace DL
open PySem PySem.Spec L2
open PySem.W (Frag)
section
variable {X : Cx} {g : G} {xc : XC} {W : WX} {e o tg iter : Expr} {es : List Expr} {f h fo : Sm D} {p : Sm Bool} {l its : Sm (List D)} {m : Sm (List En)} {pos pos' : Pos} {st : Stmt} {rest body orelse : List Stmt} {s t u : Ss}
variable {H0 F0 H F : Hp} {k0 k : DkO} {σ : L2.St} {env : List En} {D : Ends}

/-! ### several values, some of them new lists -/
inductive EnsOk (g : G) (Hs H F : Hp) (k : DkO) : List V → List En → List Addr → Prop
  | nil : EnsOk g Hs H F k [] [] []
  | d {v : V} {x : DL.D} {vs : List V} {es : List En} {ps : List Addr} (r : Rep g F v x) (rs : EnsOk g Hs H F k vs es ps) : EnsOk g Hs H F k (v :: vs) (.d x :: es) ps
  | own {q : Addr} {us : List V} {ds : List DL.D} {vs : List V} {es : List En} {ps : List Addr} (hq : H q = some (.lst us)) (fq : F q = none) (dq : ¬ dkM g k q) (nq : Hs q = none) (hn : q ∉ ps) (r : RepAll g F us ds) (rs : EnsOk g Hs H F k vs es ps) : EnsOk g Hs H F k (.ref q :: vs) (.own ds :: es) (q :: ps)
theorem EnsOk.back {Hs Hs' : Hp} {vs : List V} {es : List En} {ps : List Addr} (h : EnsOk g Hs H F k vs es ps) (hb : ∀ q, Hs q = none → Hs' q = none) : EnsOk g Hs' H F k vs es ps := by
  induction h with
  | nil => exact .nil
  | d r _ ih => exact .d r ih
  | own hq fq dq nq hn r _ ih => exact .own hq fq dq (hb _ nq) hn r ih
theorem EnsOk.mem {Hs : Hp} {vs : List V} {es : List En} {ps : List Addr} (h : EnsOk g Hs H F k vs es ps) : ∀ q ∈ ps, Hs q = none := by
  induction h with
  | nil => exact fun _ z => nomatch z
  | d r _ ih => exact ih
  | own hq fq dq nq hn r _ ih =>
    intro q hq'
    rcases List.mem_cons.mp hq' with z | z
    · rw [z]; exact nq
    · exact ih q z
def PDM (X : Cx) (g : G) (xc : XC) (W : WX) (es : List Expr) (m : Sm (List En)) : Prop :=
  PA X es fun σ H Q => ∃ F k env, Sta g H F k ∧ EnvOk g xc k σ H F env ∧ Ask g W σ H F k (m env k) fun ens H' F' k' => ∀ vs ps, EnsOk g H H' F' k' vs ens ps → Q vs H'
def mNil : Sm (List En) := fun _ k => .ok [] k
def mD (f : Sm DL.D) (m : Sm (List En)) : Sm (List En) := fun env k => (f env k).bind fun d k1 => (m env k1).bind fun es k2 => .ok (.d d :: es) k2
def mN (l : Sm (List DL.D)) (m : Sm (List En)) : Sm (List En) := fun env k => (l env k).bind fun ds k1 => (m env k1).bind fun es k2 => .ok (.own ds :: es) k2
theorem pdm_nil : PDM X g xc W [] mNil := PA.imp pa_nil fun σ H Q ⟨F, k, env, s, ok, q⟩ => q H F (.refl s) [] [] .nil
theorem pdm_d (ha : PD X g xc W e f) (hr : PDM X g xc W es m) (hs : starEach (e :: es) X.env = (false, eval e X.env) :: starEach es X.env := by rfl) : PDM X g xc W (e :: es) (mD f m) := by
  refine PA.imp (pa_cons ha hr hs) fun σ H Q ⟨F, k, env, s, ok, q⟩ => ?_
  refine tD_thenS s ok q fun v d H1 F1 k1 s1 ok1 r q1 => ?_
  refine ⟨F1, k1, env, s1.st, ok1, (Ask.bind q1).imp fun es H2 F2 k2 _ s2 q2 vs ps hes => ?_⟩
  exact q2 _ _ (.refl s2.st) _ ps (.d (r.same s2.ff) (hes.back fun q hq => none_back s1 hq))
theorem pdm_n (ha : PDN X g xc W e l) (hr : PDM X g xc W es m) (hs : starEach (e :: es) X.env = (false, eval e X.env) :: starEach es X.env := by rfl) : PDM X g xc W (e :: es) (mN l m) := by
  refine PA.imp (pa_cons ha hr hs) fun σ H Q ⟨F, k, env, s, ok, q⟩ => ?_
  refine ⟨F, k, env, s, ok, (Ask.bind q).imp fun ds H1 F1 k1 _ s1 q1 a us ha fa da r na => ?_⟩
  refine ⟨F1, k1, env, s1.st, ok.step s1, (Ask.bind q1).imp fun es H2 F2 k2 _ s2 q2 vs ps hes => ?_⟩
  refine q2 _ _ (.refl s2.st) _ (a :: ps) (.own (s2.keep _ _ da ha) (s2.new _ fa (by rw [ha]; exact fun z => by cases z)) (fun z => da (s2.ks.m.mp z)) na (fun hm => ?_) (r.same s2.ff) (hes.back fun q hq => none_back s1 hq))
  have := hes.mem a hm
  rw [ha] at this; cases this
/-- slots by number -/
def setsE : List Nat → List En → List En → Option (List En)
  | [], [], env => some env
  | i :: is, e :: es, env => setsE is es (env.set i e)
  | _, _, _ => none
def setsV : List Nat → List V → L2.St → Option L2.St
  | [], [], σ => some σ
  | i :: is, v :: vs, σ => setsV is vs (σ.set i (some v))
  | _, _, _ => none
theorem sets_rd {Hs : Hp} (hb : ∀ q, Hs q = none → H0 q = none) : ∀ {vs : List V} {es : List En} {ps : List Addr} (h : EnsOk g Hs H F k vs es ps) (is : List Nat) {σ : L2.St} {env env' : List En}, EnvOk g xc k σ H F env → Own H0 σ env → (∀ q ∈ ps, ∀ (j : Nat) (e' : En), env[j]? = some e' → e'.isOwn = true → σ[j]? ≠ some (some (.ref q))) →
    setsE is es env = some env' → ∃ σ', setsV is vs σ = some σ' ∧ EnvOk g xc k σ' H F env' ∧ Own H0 σ' env' := by
  intro vs es ps h
  induction h with
  | nil =>
    intro is σ env env' ok ow hf he
    cases is with
    | nil => simp only [setsE] at he; cases he; exact ⟨σ, rfl, ok, ow⟩
    | cons i is => simp [setsE] at he
  | d r _ ih =>
    intro is σ env env' ok ow hf he
    cases is with
    | nil => simp [setsE] at he
    | cons i is =>
      simp only [setsE, setsV] at he ⊢
      refine ih is (ok.set (.set_d r)) (ow.set_d rfl) (fun q hq j e' hj ho hs => ?_) he
      rcases set_get hj with ⟨rfl, rfl, _⟩ | ⟨hji, hj'⟩
      · cases ho
      · rw [List.getElem?_set_ne (Ne.symm hji)] at hs
        exact hf q hq j e' hj' ho hs
  | own hq fq dq nq hn r _ ih =>
    intro is σ env env' ok ow hf he
    rename_i a us ds vs es ps _
    cases is with
    | nil => simp [setsE] at he
    | cons i is =>
      simp only [setsE, setsV] at he ⊢
      refine ih is (ok.set (e := .own ds) ⟨a, us, rfl, hq, fq, dq, r⟩) (ow.set_own (hb _ nq) (fun j e' _ hj ho => hf a List.mem_cons_self j e' hj ho) ok.1) (fun q hqm j e' hj ho hs => ?_) he
      rcases set_get hj with ⟨rfl, rfl, hi⟩ | ⟨hji, hj'⟩
      · rw [List.getElem?_set_self (by rw [ok.1]; exact hi)] at hs
        cases hs
        exact hn hqm
      · rw [List.getElem?_set_ne (Ne.symm hji)] at hs
        exact hf q (List.mem_cons_of_mem _ hqm) j e' hj' ho hs
def sPar (is : List Nat) (m : Sm (List En)) : Ss := fun env k => outS (m env k) env fun es k1 => match setsE is es env with
  | some env' => .nx env' k1
  | none => .bad
theorem par_rd {is : List Nat} (z : Stp g H0 F0 k0 H F k) (ok : EnvOk g xc k σ H F env) (ow : Own H0 σ env) (q : AskS g xc W H0 F0 k0 D (sPar is m env k)) :
    ∃ F k env, Sta g H F k ∧ EnvOk g xc k σ H F env ∧ Ask g W σ H F k (m env k) fun ens H' F' k' => ∀ vs ps, EnsOk g H H' F' k' vs ens ps → ∃ σ', setsV is vs σ = some σ' ∧ D.nx σ' H' := by
  refine ⟨F, k, env, z.st, ok, (askS_ask z ok ow q).imp fun ens H1 F1 k1 _ s1 ⟨z1, ok1, q1⟩ vs ps hes => ?_⟩
  cases hse : setsE is ens env with
  | none => rw [hse] at q1; exact q1.elim
  | some env' =>
    rw [hse] at q1
    obtain ⟨σ', h1, h2, h3⟩ := sets_rd (H0 := H0) (fun q hq => z.no0 hq) hes is ok1 ow (fun q hq => fresh_not ok (hes.mem q hq)) hse
    exact ⟨σ', h1, q1 _ _ _ z1 h2 h3⟩
theorem pds_par {i j : Nat} {x y : Str} {a b : Expr} {px py pt : Pos} {kt k2 pt2} (hc : X.calm = true) (hN : X.N.Nodup) (hi : X.N[i]? = some x) (hj : X.N[j]? = some y) (hij : i ≠ j)
    (hx : X.env.scope.names.lookup x = some .local) (hy : X.env.scope.names.lookup y = some .local) (ha : PDM X g xc W [a, b] m)
    (hw : swappedStores [.Tuple [.Name x px, .Name y py] kt pt] (.Tuple [a, b] k2 pt2) X.env = pure (some [x, y]))
    (hs : swapsWithSole [.Tuple [.Name x px, .Name y py] kt pt] (.Tuple [a, b] k2 pt2) pos.line X.env = pure false := by rfl) :
    PDS X g xc W (.Assign [.Tuple [.Name x px, .Name y py] kt pt] (.Tuple [a, b] k2 pt2) pos) (sPar [i, j] m) := by
  refine PS.imp (ps_par hc hN hi hj hij hx hy ha hw hs) fun D σ H ⟨H0, F0, k0, F, k, env, z, ok, ow, q⟩ => ?_
  obtain ⟨F, k, env, s, ok, q⟩ := par_rd z ok ow q
  refine ⟨F, k, env, s, ok, q.imp fun ens H' F' k' _ _ q1 vs ps hes => ?_⟩
  obtain ⟨σ', h1, h2⟩ := q1 vs ps hes
  rcases vs with _ | ⟨v, _ | ⟨w, _ | ⟨y, vs⟩⟩⟩ <;> simp only [setsV, Option.some.injEq, reduceCtorEq] at h1
  exact ⟨v, w, rfl, by rw [h1]; exact h2⟩
theorem pds_par3 {i j l : Nat} {x y zn : Str} {a b c : Expr} {px py pz pt : Pos} {kt k2 pt2} (hc : X.calm = true) (hN : X.N.Nodup) (hi : X.N[i]? = some x) (hj : X.N[j]? = some y) (hl : X.N[l]? = some zn) (hij : i ≠ j) (hil : i ≠ l) (hjl : j ≠ l)
    (hx : X.env.scope.names.lookup x = some .local) (hy : X.env.scope.names.lookup y = some .local) (hz : X.env.scope.names.lookup zn = some .local) (ha : PDM X g xc W [a, b, c] m)
    (hw : swappedStores [.Tuple [.Name x px, .Name y py, .Name zn pz] kt pt] (.Tuple [a, b, c] k2 pt2) X.env = pure (some [x, y, zn]))
    (hs : swapsWithSole [.Tuple [.Name x px, .Name y py, .Name zn pz] kt pt] (.Tuple [a, b, c] k2 pt2) pos.line X.env = pure false := by rfl) :
    PDS X g xc W (.Assign [.Tuple [.Name x px, .Name y py, .Name zn pz] kt pt] (.Tuple [a, b, c] k2 pt2) pos) (sPar [i, j, l] m) := by
  refine PS.imp (ps_par3 hc hN hi hj hl hij hil hjl hx hy hz ha hw hs) fun D σ H ⟨H0, F0, k0, F, k, env, z, ok, ow, q⟩ => ?_
  obtain ⟨F, k, env, s, ok, q⟩ := par_rd z ok ow q
  refine ⟨F, k, env, s, ok, q.imp fun ens H' F' k' _ _ q1 vs ps hes => ?_⟩
  obtain ⟨σ', h1, h2⟩ := q1 vs ps hes
  rcases vs with _ | ⟨v, _ | ⟨w, _ | ⟨y, _ | ⟨y2, vs⟩⟩⟩⟩ <;> simp only [setsV, Option.some.injEq, reduceCtorEq] at h1
  exact ⟨v, w, y, rfl, by rw [h1]; exact h2⟩

/-! ### while -/
def whileM (p : Sm Bool) (s : Ss) : Nat → Ss
  | 0 => fun _ _ => .bad
  | n + 1 => fun env k => outS (p env k) env fun b k1 => if b = true then (match s env k1 with
      | .nx env2 k2 => whileM p s n env2 k2
      | .ct env2 k2 => whileM p s n env2 k2
      | .bk env2 k2 => .nx env2 k2
      | o => o) else .nx env k1
theorem pds_while (n : Nat) (hp : PassesOwn (model X.prog X.w) X.A X.env X.xe) (hc : PDT X g xc W e p) (hb : PDSs X g xc W body s) : PDS X g xc W (.While e body [] pos) (whileM p s n) := by
  refine PS.imp (ps_while hp hc hb) fun D σ H ⟨H0, F0, k0, F, k, env, z, ok, ow, q⟩ => ?_
  refine ⟨fun n σ' H' => ∃ F' k' env', Stp g H0 F0 k0 H' F' k' ∧ EnvOk g xc k' σ' H' F' env' ∧ Own H0 σ' env' ∧ AskS g xc W H0 F0 k0 D (whileM p s n env' k'), ⟨n, F, k, env, z, ok, ow, q⟩, ?_⟩
  rintro n σ' H' ⟨F', k', env', z', ok', ow', q'⟩
  cases n with
  | zero => exact q'.elim
  | succ n =>
    unfold whileM at q'
    refine tS_T z' ok' ow' q' fun b H1 F1 k1 z1 ok1 q1 => ?_
    cases b with
    | false => exact q1 _ _ _ z1 ok1 ow'
    | true =>
      simp only [if_true] at q1 ⊢
      refine ⟨fun σ2 H2 => ∃ F2 k2 env2, Stp g H0 F0 k0 H2 F2 k2 ∧ EnvOk g xc k2 σ2 H2 F2 env2 ∧ Own H0 σ2 env2 ∧ AskS g xc W H0 F0 k0 D (whileM p s n env2 k2), fun σ2 H2 hh => ⟨n, Nat.lt_succ_self _, hh⟩, ?_⟩
      refine ⟨H0, F0, k0, F1, k1, env', z1, ok1, ow', ?_⟩
      cases hb' : s env' k1 with
      | nx env2 k2 => rw [hb'] at q1; exact fun σ3 H3 F3 z4 ok4 ow4 => ⟨F3, k2, env2, z4, ok4, ow4, q1⟩
      | ct env2 k2 => rw [hb'] at q1; exact fun σ3 H3 F3 z4 ok4 ow4 => ⟨F3, k2, env2, z4, ok4, ow4, q1⟩
      | bk env2 k2 => rw [hb'] at q1; exact q1
      | rt d2 k2 => rw [hb'] at q1; exact q1
      | err c fs env2 k2 => rw [hb'] at q1; exact q1
      | bad => rw [hb'] at q1; exact q1

/-! ### fields of self -/
def putD (f : Str) (v : DL.D) : List (Str × DL.D) → List (Str × DL.D)
  | [] => [(f, v)]
  | (a, x) :: r => if a = f then (a, v) :: r else (a, x) :: putD f v r
theorem RepFs.put {F : Hp} {fl : Str} {v : V} {d : DL.D} (r : Rep g F v d) : ∀ {vs : List (Str × V)} {ds : List (Str × DL.D)}, RepFs g F vs ds → RepFs g F (putF fl v vs) (putD fl d ds)
  | _, _, .nil => .cons r .nil
  | _, _, .cons (k := a) r1 rs => by
    unfold putF putD
    by_cases h : a = fl
    · rw [if_pos h, if_pos h]; exact .cons r rs
    · rw [if_neg h, if_neg h]; exact .cons r1 (RepFs.put r rs)
theorem RepFs.length {F : Hp} : ∀ {vs : List (Str × V)} {ds : List (Str × DL.D)}, RepFs g F vs ds → vs.length = ds.length
  | _, _, .nil => rfl
  | _, _, .cons _ r => by rw [List.length_cons, List.length_cons, RepFs.length r]
def sSetF (i : Nat) (c : String) (fl : Str) (f : Sm DL.D) : Ss := fun env k => outS (f env k) env fun d k1 => match env[i]? with
  | some (.ownO c' fs) => if c' = c ∧ fs.length < 1000 then .nx (env.set i (.ownO c (putD fl d fs))) k1 else .bad
  | _ => .bad
theorem set_same {i : Nat} {w : Option V} (h : σ[i]? = some w) : σ.set i w = σ := by
  apply List.ext_getElem?
  intro j
  by_cases hj : j = i
  · subst hj
    obtain ⟨hlt, _⟩ := List.getElem?_eq_some_iff.mp h
    rw [List.getElem?_set_self hlt, h]
  · rw [List.getElem?_set_ne (Ne.symm hj)]
theorem pds_setF {i : Nat} {c : String} {fl : Str} {p1 : Pos} (hK : X.K = g.K) (hcl : Cls g.K (g.cl c)) (hna : NoAttr g.K (g.cl c) fl) (hx : PE X o (tVar i)) (he : PD X g xc W e f) (hs : swapsWith e (some (.Attribute o fl p1)) pos.line X.env = pure false := by rfl) :
    PDS X g xc W (.Assign [.Attribute o fl p1] e pos) (sSetF i c fl f) := by
  refine PS.imp (ps_fld hx he hs) fun D σ H ⟨H0, F0, k0, F, k, env, z, ok, ow, q⟩ => ?_
  refine tS_D z ok ow q fun v d H1 F1 k1 z1 ok1 r q1 => ?_
  cases hi : env[i]? with
  | none => rw [hi] at q1; exact q1.elim
  | some en =>
    rw [hi] at q1
    cases en with
    | ownO c' fs =>
      simp only at q1
      by_cases hc : c' = c ∧ fs.length < 1000
      · rw [if_pos hc] at q1
        obtain ⟨rfl, hl⟩ := hc
        obtain ⟨a, dx, ws, ev, ha, fa, da, rf, hxs⟩ := ok1.2 i _ hi
        have hs' := getD_some ev
        refine ⟨.ref a, hs', a, g.cl c', dx, ws, rfl, ha, by rw [hK]; exact hcl, by rw [hK]; exact hna, by rw [rf.length]; exact hl, ?_⟩
        obtain ⟨pa, hpa, npa⟩ := ow.new i _ hi rfl
        have epa : pa = a := by rw [hs'] at hpa; cases hpa; rfl
        subst epa
        refine q1 _ _ _ (z1.own npa fa da) (ok1.upd ow hi rfl hs' ⟨pa, dx, _, rfl, upd_same, fa, da, rf.put r, hxs⟩) ?_
        have := ow.set_own (i := i) (p := pa) (e := .ownO c' (putD fl d fs)) npa (fun j e' hj he ho hs => hj (ow.dis j i e' _ pa he ho hi rfl hs hs')) ok.1
        rw [set_same hs'] at this
        exact this
      · rw [if_neg hc] at q1; exact q1.elim
    | _ => exact q1.elim

/-! ### raise, try -/
def sRaise (c : String) (fl : Str) (l : Sm (List DL.D)) : Ss := fun env k => outS (l env k) env fun ds k1 => match ds with
  | [d] => .err c [(fl, d)] env k1
  | _ => .bad
theorem pds_raise {c : String} {fl : Str} (hR : PS X st (tRaise1 fl (g.cl c) W (tDA g xc W l))) : PDS X g xc W st (sRaise c fl l) := by
  refine PS.imp hR fun D σ H ⟨H0, F0, k0, F, k, env, z, ok, ow, q⟩ => ?_
  refine tS_A z ok ow q fun vs ds H1 F1 k1 z1 ok1 r q1 => ?_
  rcases ds with _ | ⟨d, _ | ⟨d2, ds⟩⟩
  · exact q1.elim
  · obtain ⟨v, rfl, rv⟩ := rep1 r
    exact ⟨v, rfl, fun dx hd => q1 dx σ H1 F1 [(fl, v)] z1 ok1 ow hd (.cons rv .nil)⟩
  · exact q1.elim
def En.isExc : En → Bool
  | .exc _ _ => true
  | _ => false
def noExc (env : List En) : Bool := env.all fun e => !e.isExc
theorem envOk_xc {a : Addr} {d : Option Addr} {cls : Value} {xc' : XC} (h : noExc env = true) (ok : EnvOk g (xcOf a d cls) k σ H F env) : EnvOk g xc' k σ H F env := by
  refine ⟨ok.1, fun i e he => ?_⟩
  have := List.all_eq_true.mp h e (List.mem_of_getElem? he)
  have z := ok.2 i e he
  cases e with
  | exc c fs => simp [En.isExc] at this
  | ownO c fs => obtain ⟨_, _, _, _, _, _, _, _, e⟩ := z; cases d <;> cases e
  | _ => exact z
theorem envOk_none {xc' : XC} (ok : EnvOk g .none k σ H F env) : EnvOk g xc' k σ H F env := by
  refine ⟨ok.1, fun i e he => ?_⟩
  have z := ok.2 i e he
  cases e with
  | exc c fs => obtain ⟨_, _, _, _, e, _⟩ := z; cases e
  | ownO c fs => obtain ⟨_, _, _, _, _, _, _, _, e⟩ := z; cases e
  | _ => exact z
/-- behind the suite -/
def unExc (i : Nat) : OutS → OutS
  | .nx env k => if noExc (env.set i .no) = true then .nx (env.set i .no) k else .bad
  | .bk env k => if noExc (env.set i .no) = true then .bk (env.set i .no) k else .bad
  | .ct env k => if noExc (env.set i .no) = true then .ct (env.set i .no) k else .bad
  | .rt d k => .rt d k
  | .err _ _ _ _ => .bad
  | .bad => .bad
def sTry (yes : String → Option Bool) (i : Nat) (sb sh : Ss) : Ss := fun env k => match sb env k with
  | .err c fs env' k' => match yes c with
    | some true => unExc i (sh (env'.set i (.exc c fs)) k')
    | some false => .err c fs env' k'
    | none => .bad
  | o => o
theorem unExc_rd {i : Nat} {a : Addr} {d : Option Addr} {cls : Value} {r : OutS} (q : AskS g .none W H0 F0 k0 D (unExc i r)) :
    AskS g (xcOf a d cls) W0 H0 F0 k0 { nx := fun σ' H' => D.nx (σ'.set i none) H', rt := D.rt, bk := fun σ' H' => D.bk (σ'.set i none) H', ct := fun σ' H' => D.ct (σ'.set i none) H' } r := by
  cases r with
  | nx env k =>
    change AskS g .none W H0 F0 k0 D (if noExc (env.set i .no) = true then .nx (env.set i .no) k else .bad) at q
    by_cases hn : noExc (env.set i .no) = true
    · rw [if_pos hn] at q
      exact fun σ H F z ok ow => q _ H F z (envOk_xc hn (ok.set (w := none) (e := .no) trivial)) (ow.set_d rfl)
    · rw [if_neg hn] at q; exact q.elim
  | bk env k =>
    change AskS g .none W H0 F0 k0 D (if noExc (env.set i .no) = true then .bk (env.set i .no) k else .bad) at q
    by_cases hn : noExc (env.set i .no) = true
    · rw [if_pos hn] at q
      exact fun σ H F z ok ow => q _ H F z (envOk_xc hn (ok.set (w := none) (e := .no) trivial)) (ow.set_d rfl)
    · rw [if_neg hn] at q; exact q.elim
  | ct env k =>
    change AskS g .none W H0 F0 k0 D (if noExc (env.set i .no) = true then .ct (env.set i .no) k else .bad) at q
    by_cases hn : noExc (env.set i .no) = true
    · rw [if_pos hn] at q
      exact fun σ H F z ok ow => q _ H F z (envOk_xc hn (ok.set (w := none) (e := .no) trivial)) (ow.set_d rfl)
    · rw [if_neg hn] at q; exact q.elim
  | rt d k => exact q
  | err c fs env k => exact q.elim
  | bad => exact q
theorem pds_try {x n : Str} {c : Value} {i : Nat} {b₀ : Stmt} {suite : List Stmt} {np : Pos} {yes : String → Option Bool} {sb sh : Ss} (hK : X.K = g.K) (hs : X.stack = X.env :: X.outer) (hf : X.env.frame = some X.env.locals) (hN : X.N.Nodup) (hi : X.N[i]? = some n) (hln : X.env.kindOf n = some .local) (hc : Names X x c) (tk : Takes X W)
    (hy : ∀ c' b, yes c' = some b → PySem.W.exmOne g.K (.ref (g.cl c')) c = some b)
    (hb : ∀ (W : WX) (pn : List (Addr × Obj)) (xe : Value → Shared → Prop), Takes (X.tr pn xe) W → PassesOwn (model X.prog X.w) X.A X.env xe → PDSs (X.tr pn xe) g .none W body sb)
    (hsu : ∀ (a : Addr) (oe : Obj) (cls : Value) (d : Option Addr) (pn : List (Addr × Obj)), Zc cls d oe → (∃ vs, oe.data = .fields vs) → PDSs (X.suite a ((a, oe) :: pn)) g (xcOf a d cls) W0 (b₀ :: suite) sh) :
    PDS X g .none W (.Try body [.ExceptHandler (some (.Name x np)) (some n) (b₀ :: suite) pos'] [] [] pos) (sTry yes i sb sh) := by
  refine PS.imp (ps_try_as hs hf hN hi hln hc tk hb hsu) fun D σ H ⟨H0, F0, k0, F, k, env, z, ok, ow, q⟩ => ?_
  refine ⟨H0, F0, k0, F, k, env, z, ok, ow, ?_⟩
  unfold sTry at q
  cases hsb : sb env k with
  | err c' fs env' k' =>
    rw [hsb] at q
    intro dx σ1 H1 F1 vs z1 ok1 ow1 hd r
    simp only at q
    cases hyc : yes c' with
    | none => rw [hyc] at q; exact q.elim
    | some b =>
      rw [hyc] at q
      refine ⟨b, by rw [hK]; exact hy c' b hyc, fun e a ha => ?_, fun e => ?_⟩
      · subst e
        have s2 := Stp.laid (o := .xd vs) z1.st hd
        refine ⟨H0, F0, k0, _, k', env'.set i (.exc c' fs), z1.trans s2, ?_, ow1.set_d rfl, unExc_rd q⟩
        exact (envOk_none (ok1.step s2)).set (e := .exc c' fs) ⟨a, dx, vs, rfl, rfl, upd_same, r.same s2.ff⟩
      · subst e
        exact q dx σ1 H1 F1 vs z1 ok1 ow1 hd r
  | nx env' k' => rw [hsb] at q; exact q
  | rt d k' => rw [hsb] at q; exact q
  | bk env' k' => rw [hsb] at q; exact q
  | ct env' k' => rw [hsb] at q; exact q
  | bad => rw [hsb] at q; exact q
/-- e.field, of the caught exception -/
def sXf (c : String) (fl : Str) (i : Nat) : Sm DL.D := fun env k => match env[i]? with
  | some (.exc c' fs) => if c' = c then .of (fs.lookup fl) k else .bad
  | _ => .bad
theorem pd_xf {a : Addr} {oe : Obj} {cls : Value} {d : Option Addr} {pn : List (Addr × Obj)} {i : Nat} {c : String} {n : Str} (T : XfC X.K (g.cl c)) (hno : PySem.W.findIn X.K (.ref (g.cl c)) n = some none)
    (hz : Zc cls d oe) (hf : ∃ vs, oe.data = .fields vs) (he : PE (X.suite a ((a, oe) :: pn)) e (tVar i)) (hb : attributeBase e n X.env (eval e X.env) = eval e X.env := by rfl) :
    PD (X.suite a ((a, oe) :: pn)) g (xcOf a d cls) W (.Attribute e n pos) (sXf c n i) := by
  refine PE.imp (pe_xf T hno hz hf he hb) fun σ H Q ⟨F, k, env, s, ok, q⟩ => ?_
  unfold sXf at q
  cases hi : env[i]? with
  | none => rw [hi] at q; exact q.elim
  | some en =>
    rw [hi] at q
    cases en with
    | exc c' fs =>
      simp only at q
      by_cases hc : c' = c
      · rw [if_pos hc] at q
        subst hc
        obtain ⟨b, dx, vs, ev, hxc, hdx, rf⟩ := ok.2 i _ hi
        cases d with
        | none => cases hxc
        | some dd =>
          cases hxc
          cases hl : fs.lookup n with
          | none => rw [hl] at q; exact q.elim
          | some y =>
            rw [hl] at q
            obtain ⟨w, h1, h2⟩ := rf.lookup hl
            exact ⟨_, getD_some ev, rfl, rfl, dx, vs, w, rfl, s.sub _ _ hdx, h1, q H F (.refl s) w h2⟩
      · rw [if_neg hc] at q; exact q.elim
    | _ => exact q.elim
/-- isinstance(e, C), e the caught exception -/
def sXi (c : String) (b : Bool) (i : Nat) : Sm DL.D := fun env k => match env[i]? with
  | some (.exc c' fs) => if c' = c then .ok (.bl b) k else .bad
  | _ => .bad
theorem pd_xi {a C2 : Addr} {oe : Obj} {cls : Value} {d : Option Addr} {pn : List (Addr × Obj)} {i : Nat} {c : String} {b : Bool} {x2 : Str} {p2 p3 : Pos} (T : ExcC X.K (g.cl c)) (hki : PySem.W.kitOne X.K (.ref (g.cl c)) (.ref C2) = some b)
    (hz : Zc cls d oe) (hf : ∃ vs, oe.data = .fields vs) (he : PE (X.suite a ((a, oe) :: pn)) e (tVar i)) (hC : PE (X.suite a ((a, oe) :: pn)) (.Name x2 p3) (tC (.ref C2))) (hg : Gl X "isinstance") (hm : X.mg "isinstance" = none)
    (he1 : starEach [e, .Name x2 p3] X.env = (false, eval e X.env) :: starEach [.Name x2 p3] X.env := by rfl)
    (hpl : (backTo pos (starEach [.Name x2 p3] X.env)).any (·.1) = false := by rfl) :
    PD (X.suite a ((a, oe) :: pn)) g (xcOf a d cls) W (.Call (.Name "isinstance" p2) [e, .Name x2 p3] [] pos) (sXi c b i) := by
  refine PE.imp (pe_callB (call_isED T hz hf) hg hm (by decide +kernel) (pa_cons he (pa_cons hC pa_nil) he1) (by decide) (by decide) he1 hpl) fun σ H Q ⟨F, k, env, s, ok, q⟩ => ?_
  unfold sXi at q
  cases hi : env[i]? with
  | none => rw [hi] at q; exact q.elim
  | some en =>
    rw [hi] at q
    cases en with
    | exc c' fs =>
      simp only at q
      by_cases hc : c' = c
      · rw [if_pos hc] at q
        subst hc
        obtain ⟨y, dx, vs, ev, hxc, hdx, rf⟩ := ok.2 i _ hi
        cases d with
        | none => cases hxc
        | some dd =>
          cases hxc
          exact ⟨_, getD_some ev, rfl, ⟨dx, vs, rfl, s.sub _ _ hdx⟩, .ref C2, .ref C2, b, rfl, fun u r => r, hki, q H F (.refl s) _ (.bl _)⟩
      · rw [if_neg hc] at q; exact q.elim
    | _ => exact q.elim
end
end DL
set_option Elab.async false
set_option linter.all false
set_option maxRecDepth 100000
set_option maxHeartbeats 4000000
/-! defs -/
namespace DL
open PySem PySem.Spec L2 PyProof.Rows
open PySem.W (Frag)
def entryE (n : Nat) (ds : List D) : List En := ds.map En.d ++ List.replicate (n - ds.length) En.no
def endD : OutS → Out D
  | .nx _ k => .ok .non k
  | .rt d k => .ok d k
  | .err c fs _ k => .err c fs k
  | _ => .bad
/-- a def by its body -/
def fnD (n : Nat) (s : Ss) : Fn := fun ds k => endD (s (entryE n ds) k)
def selfE (cn : String) (env : List En) (k : DkO) : Out (List (Str × D)) := match env[0]? with
  | some (En.ownO c fs) => if c = cn then .ok fs k else .bad
  | _ => .bad
def endI (cn : String) : OutS → Out (List (Str × D))
  | .nx env k => selfE cn env k
  | .err c fs _ k => .err c fs k
  | _ => .bad
/-- an __init__ by its body -/
def fnI (cn : String) (n : Nat) (s : Ss) : FnI := fun ds k => endI cn (s (.ownO cn [] :: entryE (n - 1) ds) k)
section
variable {P : Program} {w : World} {g : G} {mg : Str → Option Value} {base : Heap} {x qual : Str} {st : Stmt} {f : Addr} {fd : FuncData} {N ps : List Str} {k : Nat} {s : Ss}
theorem entry_ok {xc : XC} {H F : Hp} {kk : DkO} {vs : List V} {ds : List D} {n : Nat} (r : RepAll g F vs ds) : EnvOk g xc kk (vs.map some ++ List.replicate (n - vs.length) none) H F (entryE n ds) := by
  unfold entryE
  refine ⟨by simp [r.length], fun i e he => ?_⟩
  by_cases hi : i < ds.length
  · rw [List.getElem?_append_left (by simpa using hi), List.getElem?_map] at he
    rw [List.getElem?_append_left (by simpa [r.length] using hi), List.getElem?_map]
    cases hd : ds[i]? with
    | none => rw [hd] at he; cases he
    | some d =>
      rw [hd] at he
      cases he
      obtain ⟨v, hv, rv⟩ := r.get hd
      rw [hv]
      exact ⟨v, rfl, rv⟩
  · rw [List.getElem?_append_right (by simpa using hi)] at he
    rcases List.getElem?_eq_some_iff.mp he with ⟨h1, h2⟩
    rw [List.getElem_replicate] at h2
    subst h2
    trivial
theorem entry_noOwn {n : Nat} {ds : List D} {i : Nat} {e : En} (h : (entryE n ds)[i]? = some e) : e.isOwn = false := by
  have := List.mem_of_getElem? h
  unfold entryE at this
  rcases List.mem_append.mp this with z | z
  · obtain ⟨d, _, rfl⟩ := List.mem_map.mp z; rfl
  · rw [(List.mem_replicate.mp z).2]; rfl
theorem own_entry {H : Hp} {σ : L2.St} {n : Nat} {ds : List D} : Own H σ (entryE n ds) :=
  ⟨fun i e h ho => (by rw [entry_noOwn h] at ho; cases ho), fun i j e e' p h ho => (by rw [entry_noOwn h] at ho; cases ho)⟩
/-- a def keeps its promise by trees -/
theorem fn_of_body {n m : Nat} (Fm : Fun g.K x qual st f fd) (S : FnScope N ps (defScope st)) (hn : ps.length = n) (hm : N.length = m)
    (hbody : ∀ (cdv : Value) (A : Around) (outer : List Env) (sh : Shared) (H : Hp) (E : XK), Room k (A.deeper (envOfC qual (defScope st) sh.heap.objs.size f cdv)) → A.guards = some [] →
      PDSs (cxOf (L2.CX P w) P w g.K mg base N qual (defScope st) f cdv A outer sh H E) g .none (fun c d _ H => E c d H) (defBody st) s) : FnG P w g.K mg base (k + 1) f fd ps (SpD g n (fnD m s)) := by
  subst hn hm
  refine Fm.okXG S (fun vs H Q E h => h.1) fun cdv A outer sh H vs Q E hr hgd hsp => ?_
  obtain ⟨hl, F, kk, ds, sta, r, q⟩ := hsp
  refine ⟨_, hbody cdv A outer sh H E hr hgd, H, F, kk, F, kk, entryE N.length ds, .refl sta, entry_ok r, own_entry, ?_⟩
  unfold fnD at q
  cases ho : s (entryE N.length ds) kk with
  | nx env k' => rw [ho] at q; exact fun σ H' F' z _ _ => q H' F' z _ .non
  | rt d k' => rw [ho] at q; exact fun H' F' v z rv => q H' F' z v rv
  | err c fs env k' => rw [ho] at q; exact fun dx σ H' F' vs z _ _ hd rf => q dx H' F' vs z hd rf
  | bk env k' => rw [ho] at q; exact q.elim
  | ct env k' => rw [ho] at q; exact q.elim
  | bad => rw [ho] at q; exact q.elim
/-- an __init__ keeps its promise -/
theorem init_of_body {n m : Nat} {cn : String} (Fm : Fun g.K x qual st f fd) (S : FnScope N ps (defScope st)) (hn : ps.length = n + 1) (hm : N.length = m + 1)
    (hbody : ∀ (cdv : Value) (A : Around) (outer : List Env) (sh : Shared) (H : Hp) (E : XK) (p : Addr), Room k (A.deeper (envOfC qual (defScope st) sh.heap.objs.size f cdv)) → A.guards = some [] →
      PDSs (cxOf (L2.CX P w) P w g.K mg base N qual (defScope st) f cdv A outer sh H E) g (.self p) (fun c d _ H => E c d H) (defBody st) s) : FnG P w g.K mg base (k + 1) f fd ps (SpI g cn n (fnI cn (m + 1) s)) := by
  refine Fm.okXG S (fun vs H Q E h => by rw [hn]; exact h.1) fun cdv A outer sh H vs Q E hr hgd hsp => ?_
  obtain ⟨hl, p, dx, ws, F, kk, ds, rfl, hp, sta, dp, r, q⟩ := hsp
  have fp : F p = none := none_sub sta rem_same
  have subH : ∀ b o, rem H p b = some o → H b = some o := fun b o e => by
    by_cases hb : b = p
    · subst hb; rw [rem_same] at e; cases e
    · rw [rem_ne hb] at e; exact e
  have z0 : Stp g (rem H p) F kk H F kk := by
    refine ⟨⟨fun b o e => subH b o (sta.sub b o e), ?_⟩, .refl _, fun b o _ e => subH b o e, fun b e _ => e, .refl _⟩
    cases kk with
    | none => trivial
    | some d =>
      obtain ⟨h1, h2, h3, h4⟩ := sta.dk
      exact ⟨subH _ _ h1, subH _ _ h2, h3, h4⟩
  have e1 : entryE m ds = entryE (m + 1 - 1) ds := rfl
  have okE : EnvOk g (.self p) kk (L2.start N (.ref p :: ws)) H F (.ownO cn [] :: entryE m ds) := by
    have e0 : L2.start N (.ref p :: ws) = some (.ref p) :: (ws.map some ++ List.replicate (m - ws.length) none) := by
      unfold L2.start
      rw [hm, List.length_cons, List.map_cons, List.cons_append]
      have : m + 1 - (ws.length + 1) = m - ws.length := by omega
      rw [this]
    rw [e0]
    have oe : EnvOk g (.self p) kk (ws.map some ++ List.replicate (m - ws.length) none) H F (entryE m ds) := entry_ok r
    refine ⟨by rw [List.length_cons, List.length_cons, oe.1], fun i e he => ?_⟩
    cases i with
    | zero => cases he; exact ⟨p, dx, [], rfl, hp, fp, dp, .nil, rfl⟩
    | succ i => exact oe.2 i e (by simpa using he)
  have owE : Own (rem H p) (L2.start N (.ref p :: ws)) (.ownO cn [] :: entryE m ds) := by
    refine ⟨fun i e he ho => ?_, fun i j e e' q h1 o1 h2 o2 _ _ => ?_⟩
    · cases i with
      | zero => exact ⟨p, rfl, rem_same⟩
      | succ i => rw [entry_noOwn (i := i) (by simpa using he)] at ho; cases ho
    · cases i with
      | zero =>
        cases j with
        | zero => rfl
        | succ j => rw [entry_noOwn (i := j) (by simpa using h2)] at o2; cases o2
      | succ i => rw [entry_noOwn (i := i) (by simpa using h1)] at o1; cases o1
  refine ⟨_, hbody cdv A outer sh H E p hr hgd, rem H p, F, kk, F, kk, _, z0, okE, owE, ?_⟩
  unfold fnI at q
  rw [← e1] at q
  cases ho : s (.ownO cn [] :: entryE m ds) kk with
  | nx env k' =>
    rw [ho] at q
    intro σ H' F' z ok' _
    change AskF g E (rem H p) F kk (selfE cn env k') _ at q
    unfold selfE at q
    cases h0 : env[0]? with
    | none => rw [h0] at q; exact q.elim
    | some en =>
      rw [h0] at q
      cases en with
      | ownO c fs =>
        simp only at q
        by_cases hc : c = cn
        · rw [if_pos hc] at q
          subst hc
          obtain ⟨a, dx2, vs2, ev, h1, h2, h3, rf, hx⟩ := ok'.2 0 _ h0
          cases hx
          exact q H' F' z dx2 vs2 h1 h2 rf
        · rw [if_neg hc] at q; exact q.elim
      | _ => exact q.elim
  | rt d k' => rw [ho] at q; exact q.elim
  | err c fs env k' => rw [ho] at q; exact fun dx σ H' F' vs z _ _ hd rf => q dx H' F' vs z hd rf
  | bk env k' => rw [ho] at q; exact q.elim
  | ct env k' => rw [ho] at q; exact q.elim
  | bad => rw [ho] at q; exact q.elim
end
end DL
set_option Elab.async false
set_option linter.all false
set_option maxRecDepth 100000
set_option maxHeartbeats 4000000
/-! the deck -/
namespace DL
open PySem PySem.Spec L2
open PySem.W (Frag)
abbrev DKL (l : Addr) (m t : Int) : List (Key × V) := [(.inr "cells", .ref l), (.inr "mixed", .int m), (.inr "draws", .int t)]
def Keep (d l : Addr) (H H' : Hp) : Prop := ∀ b o, b ≠ d → b ≠ l → H b = some o → H' b = some o
theorem Keep.refl {d l : Addr} {H : Hp} : Keep d l H H := fun _ _ _ _ e => e
theorem Keep.trans {d l : Addr} {H H1 H2 : Hp} (a : Keep d l H H1) (b : Keep d l H1 H2) : Keep d l H H2 := fun x o h1 h2 e => b x o h1 h2 (a x o h1 h2 e)
theorem Same.keep {d l : Addr} {H H' : Hp} (s : Same H H') : Keep d l H H' := fun b o _ _ e => s b o e
theorem same_new {H H' : Hp} {p : Addr} {o : HO} (s : Same H H') (np : H' p = none) : Same H (upd H' p o) := fun c q e => by
  rw [upd_ne (ne_of_none (s c q e) np)]
  exact s c q e
theorem put_draws {l : Addr} {m t u : Int} : putK (DKL l m t) (.inr "draws") (.int u) = DKL l m u := by rfl
theorem val_cells {l : Addr} {m t : Int} : valV (DKL l m t) (.inr "cells") = some (.ref l) := by rfl
theorem val_mixed {l : Addr} {m t : Int} : valV (DKL l m t) (.inr "mixed") = some (.int m) := by rfl
theorem val_draws {l : Addr} {m t : Int} : valV (DKL l m t) (.inr "draws") = some (.int t) := by rfl
theorem get_cells {H : Hp} {d l : Addr} {m t : Int} (h : H d = some (.dK (DKL l m t))) : DGet H d (.str "cells") (some (.ref l)) := .inl ⟨_, .inr "cells", .inl h, rfl, val_cells.symm⟩
theorem get_mixed {H : Hp} {d l : Addr} {m t : Int} (h : H d = some (.dK (DKL l m t))) : DGet H d (.str "mixed") (some (.int m)) := .inl ⟨_, .inr "mixed", .inl h, rfl, val_mixed.symm⟩
theorem get_draws {H : Hp} {d l : Addr} {m t : Int} (h : H d = some (.dK (DKL l m t))) : DGet H d (.str "draws") (some (.int t)) := .inl ⟨_, .inr "draws", .inl h, rfl, val_draws.symm⟩
theorem put_draws' {H : Hp} {d l : Addr} {m t u : Int} (h : H d = some (.dK (DKL l m t))) : DPut H d (.str "draws") (.int u) (upd H d (.dK (DKL l m u))) := .inl ⟨_, .inr "draws", h, rfl, by show 3 < sizeLine; decide, by rw [put_draws]⟩
theorem ints_ok (ns : List Int) : (ns.map V.int).all okV = true := by
  rw [List.all_eq_true]
  intro x hx
  obtain ⟨i, _, rfl⟩ := List.mem_map.mp hx
  rfl
abbrev rMd : R2 := rI (fun x j => 0 < j) fun i j => V.int (i % j)
abbrev rMl : R2 := rI CMul fun i j => V.int (i * j)
abbrev rAd : R2 := rI0 fun i j => V.int (i + j)
abbrev rNt : List V → Hp → VK → Prop := fun xs H Q => (∃ i, xs = [V.int i] ∧ Q (V.int i) H) ∨ ∃ k, xs = [V.bl k] ∧ Q (V.int (if k = true then 1 else 0)) H
theorem cmulL {i j : Int} (h : 0 ≤ i ∧ i < 18446744073709551616) : CMul i j := .inl ⟨by omega, by omega⟩
theorem cmulR {i j : Int} (h : 0 ≤ j ∧ j < 18446744073709551616) : CMul i j := .inr ⟨by omega, by omega⟩
theorem md_lt (x : Int) {j : Int} (h : 0 < j) : 0 ≤ x % j ∧ x % j < j := ⟨Int.emod_nonneg _ (by omega), Int.emod_lt_of_pos _ h⟩
/-- what a draw gives, of the figure -/
def tailR (c0 t F j : Int) : Int :=
  let f2 := (F % 2147483629 + 60623 * t * t + c0) * 40692 % 2147483647
  let f3 := (f2 * f2 + 69621 * t + c0) % 2147483579
  (f3 * 39373 % 2147483549).fdiv 64 % j
theorem tailR_lt {c0 t F j : Int} (h : 0 < j) : 0 ≤ tailR c0 t F j ∧ tailR c0 t F j < j := md_lt _ h
theorem drop_le {ns : List Int} (h : ns.length ≤ 63) : ns.dropLast.length ≤ 63 := by rw [List.length_dropLast]; omega
theorem push_le {ns : List Int} {x : Int} (h : ns.length ≤ 63) (h0 : ns ≠ []) : (ns.dropLast ++ [x]).length ≤ 63 := by
  have := List.length_pos_iff.mpr h0
  rw [List.length_append, List.length_dropLast, List.length_singleton]; omega
/-- a draw below j -/
def drawK (c0 : Int) (k : Dk) (j : Int) : Int × Dk :=
  if h : k.ns = [] then (tailR c0 (k.t + 1) k.m j, ⟨k.c, k.ns, k.m, k.t + 1, k.len⟩)
  else if 10 ^ 18 ≤ k.ns.getLast h then (k.ns.getLast h % j, ⟨k.c, k.ns.dropLast ++ [(k.ns.getLast h).fdiv j], k.m, k.t + 1, push_le k.len h⟩)
  else (tailR c0 (k.t + 1) (k.m + k.ns.getLast h % 2147483563) j, ⟨k.c, k.ns.dropLast, k.m, k.t + 1, drop_le k.len⟩)
def tOk (t : Int) : Bool := decide (0 ≤ t) && decide (t < 2 ^ 63)
def bOk (b : Int) : Bool := decide (0 < b) && decide (b < 1073741824)
def drawF (c0 : Int) : Fn := fun ds k => match ds, k with
  | [.dk, .int b], some k => if bOk b && tOk k.t then .ok (.int (drawK c0 k b).1) (some (drawK c0 k b).2) else .bad
  | _, _ => .bad
/-- what is known of a draw -/
theorem draw_ok {c0 b : Int} {k : Dk} (hb : bOk b = true) (ht : tOk k.t = true) : ∃ r k', drawF c0 [.dk, .int b] (some k) = .ok (.int r) (some k') ∧ 0 ≤ r ∧ r < b ∧ k'.t = k.t + 1 := by
  have hb' : 0 < b := by
    simp only [bOk, Bool.and_eq_true, decide_eq_true_eq] at hb
    exact hb.1
  refine ⟨(drawK c0 k b).1, (drawK c0 k b).2, ?_, ?_⟩
  · unfold drawF
    simp only [hb, ht, Bool.and_self, if_true]
  · unfold drawK
    by_cases h : k.ns = []
    · rw [dif_pos h]; exact ⟨(tailR_lt hb').1, (tailR_lt hb').2, rfl⟩
    · rw [dif_neg h]
      by_cases h2 : 10 ^ 18 ≤ k.ns.getLast h
      · rw [if_pos h2]; exact ⟨(md_lt _ hb').1, (md_lt _ hb').2, rfl⟩
      · rw [if_neg h2]; exact ⟨(tailR_lt hb').1, (tailR_lt hb').2, rfl⟩
theorem drawF_some {c0 : Int} {ds : List D} {k : DkO} {g : G} {E : XK} {H F : Hp} {Q : D → Hp → Hp → DkO → Prop} (q : AskF g E H F k (drawF c0 ds k) Q) : ∃ b kk, ds = [.dk, .int b] ∧ k = some kk ∧ bOk b = true ∧ tOk kk.t = true ∧ AskF g E H F k (.ok (.int (drawK c0 kk b).1) (some (drawK c0 kk b).2)) Q := by
  unfold drawF at q
  split at q
  · rename_i b kk
    by_cases hc : (bOk b && tOk kk.t) = true
    · rw [if_pos hc] at q
      rw [Bool.and_eq_true] at hc
      exact ⟨b, kk, rfl, rfl, hc.1, hc.2, q⟩
    · rw [if_neg hc] at q; exact q.elim
  · exact q.elim
theorem deck_stp {g : G} {H F H' : Hp} {k k' : Dk} (s : Sta g H F (some k)) (kp : Keep g.dk k.c H H') (h1 : H' g.dk = some (.dK (DKL k.c k'.m k'.t))) (h2 : H' k.c = some (.lst (k'.ns.map V.int))) (hc : k'.c = k.c) : Stp g H F (some k) H' F (some k') := by
  obtain ⟨e1, e2, e3, e4⟩ := s.dk
  refine ⟨⟨fun b o e => kp b o ?_ ?_ (s.sub b o e), by rw [hc]; exact h1, by rw [hc]; exact h2, e3, by rw [hc]; exact e4⟩, .refl _, fun b o hb e => kp b o (fun z => hb (.inl z)) (fun z => hb (.inr z)) e, fun b e _ => e, hc.symm⟩
  · intro z; subst z; rw [e3] at e; cases e
  · intro z; subst z; rw [e4] at e; cases e
theorem repDk {g : G} {F : Hp} {v : V} (h : Rep g F v .dk) : v = .ref g.dk := by cases h; rfl
theorem cut_take {ns : List Int} {k : Nat} : cutV (ns.map V.int) none (some (k : Int)) = (ns.take k).map V.int := by
  unfold cutV
  rw [HT.sIx_none, HT.sIx_nat, List.drop_zero, Nat.sub_zero, ← List.map_take, List.length_map]
  congr 1
  rcases Nat.le_total k ns.length with z | z
  · rw [Nat.min_eq_left z]
  · rw [Nat.min_eq_right z, List.take_length, List.take_of_length_le z]
/-- the new deck -/
def spDeck (K : Frag) : Sp := fun vs H Q _ => ∃ (a : Addr) (ns : List Int), vs = [.ref a] ∧ SqL K H a (ns.map V.int) ∧ ∀ (d : Addr) (k : Dk) H', k.t = 0 → d ≠ k.c → H' d = some (.dK (DKL k.c k.m k.t)) → H' k.c = some (.lst (k.ns.map V.int)) → Q (.ref d) H'
end DL
set_option Elab.async false
set_option linter.all false
set_option maxRecDepth 100000
set_option maxHeartbeats 4000000
/-! more operators, forms of statements -/
namespace DL
open PySem PySem.Spec L2
open PySem.W (Frag)
section
variable {X : Cx} {g : G} {xc : XC} {W : WX} {e o tg iter : Expr} {es : List Expr} {f h fo : Sm D} {p : Sm Bool} {l its : Sm (List D)} {m : Sm (List En)} {pos pos' : Pos} {st : Stmt} {rest body orelse : List Stmt} {s t u : Ss}
/-! text * n, tuple * n -/
def mulS (x : Str) (n : Nat) : Str := ⟨(List.replicate n x.cps.toList).flatten.toArray⟩
def mulSD : D → D → Option D
  | .str x, .int n => if decide (0 ≤ n) && decide (n ≤ 1000) && decide (x.length ≤ 1000) then some (.str (mulS x n.toNat)) else none
  | _, _ => none
theorem txt_mul {x : Str} {n : Int} (h : 0 ≤ n) : Txt.mul x n = mulS x n.toNat := by
  have key : ∀ (k : Nat) (acc : Array Nat), ((List.replicate k x.cps).foldl (· ++ ·) acc) = acc ++ (List.replicate k x.cps.toList).flatten.toArray := by
    intro k
    induction k with
    | zero => intro acc; simp
    | succ k ih =>
      intro acc
      rw [List.replicate_succ, List.foldl_cons, ih, List.replicate_succ, List.flatten_cons, ← List.append_toArray, Array.append_assoc]
  unfold Txt.mul mulS
  by_cases h1 : n < 1
  · have : n = 0 := by omega
    subst this
    rfl
  · rw [if_neg h1]
    by_cases h2 : (n == 1 || x.length == 0) = true
    · rw [if_pos h2]
      rw [Bool.or_eq_true] at h2
      rcases h2 with z | z
      · have : n = 1 := eq_of_beq z
        subst this
        show x = ⟨(List.replicate 1 x.cps.toList).flatten.toArray⟩
        simp
      · have : x.cps.size = 0 := eq_of_beq z
        have e : x.cps = #[] := Array.eq_empty_of_size_eq_zero this
        obtain ⟨c⟩ := x
        subst e
        simp
    · rw [if_neg h2, key]
      simp
theorem mulS_len (x : Str) (n : Nat) : (mulS x n).length = n * x.length := by
  show (List.replicate n x.cps.toList).flatten.toArray.size = n * x.cps.size
  rw [List.size_toArray, List.length_flatten]
  simp
theorem mulS_ok {x : Str} {n : Nat} (h : SOk x) (hl : n * x.length ≤ sizeLine) : SOk (mulS x n) := by
  refine ⟨by rw [mulS_len]; exact hl, strOk_sub h.2 fun c hc => ?_⟩
  have hc' : c ∈ (List.replicate n x.cps.toList).flatten := hc
  rw [List.mem_flatten] at hc'
  obtain ⟨l, h1, h2⟩ := hc'
  rw [(List.mem_replicate.mp h1).2] at h2
  exact h2
theorem mulOk_of {x : Str} {n : Int} (h0 : 0 ≤ n) (h1 : n ≤ 1000) (hx : x.length ≤ 1000) : MulOk x n := by
  refine ⟨?_, fun h _ => ?_, fun h _ => ?_⟩
  · rw [Bool.or_eq_false_iff]; exact ⟨decide_eq_false (by omega), decide_eq_false (by omega)⟩
  · have hn : 0 < n := by omega
    have : 9223372036854775 ≤ (2 ^ 63 - 1 : Int) / n := by
      rw [Int.le_ediv_iff_mul_le hn]
      omega
    omega
  · have : x.length * n.toNat ≤ 1000000 := Nat.le_trans (Nat.mul_le_mul hx (show n.toNat ≤ 1000 by omega)) (by decide)
    unfold PySem.Builtin.Str.tooLong
    have := sizeLine_eq
    exact decide_eq_false (by omega)
theorem opd_mulS : OpD X g (binaryOp .Mult) mulSD :=
  ⟨_, op_mulS, fun H F k x y a b d Q s ra rb e q => by
    unfold mulSD at e
    split at e
    · split at e
      · cases e
        rename_i z n hz
        simp only [Bool.and_eq_true, decide_eq_true_eq] at hz
        obtain ⟨rfl, hx⟩ := repStr ra
        rw [repInt rb]
        refine ⟨_, n, rfl, rfl, mulOk_of hz.1.1 hz.1.2 hz.2, ?_⟩
        rw [txt_mul hz.1.1]
        refine q _ H F (.refl s) (.str (mulS_ok hx ?_))
        have : n.toNat * z.length ≤ 1000 * 1000 := Nat.mul_le_mul (by omega) hz.2
        exact Nat.le_trans this (by decide)
      · cases e
    · cases e⟩
def repTD : D → D → Option D
  | .tup xs, .int n => if decide (2 ≤ n) && decide (n ≤ 1000) && decide (xs.length ≤ 1000) && !xs.isEmpty then some (.tup (List.replicate n.toNat xs).flatten) else none
  | _, _ => none
theorem opd_repT (hK : X.K = g.K) : OpD X g (binaryOp .Mult) repTD :=
  ⟨_, op_repT, fun H F k x y a b d Q s ra rb e q => by
    unfold repTD at e
    split at e
    · split at e
      · cases e
        rename_i xs n hz
        simp only [Bool.and_eq_true, decide_eq_true_eq, Bool.not_eq_true'] at hz
        obtain ⟨c, vs, rfl, h1, r1⟩ := repTup ra
        rw [repInt rb]
        refine ⟨c, n, vs, rfl, rfl, by rw [hK]; exact s.sub.seqT h1, fun z => ?_, hz.1.1.1, hz.1.1.2, by rw [r1.length]; exact hz.1.2, fun pp np => ?_⟩
        · subst z
          cases r1
          simp at hz
        · have st := Stp.laid (o := .tup (List.replicate n.toNat vs).flatten) s np
          exact q _ _ _ st (.tup (SqT.of upd_same) (RepAll.rep (r1.same st.ff) _))
      · cases e
    · cases e⟩
def timesD : D → D → Option D := orD (orD mulD repD) (orD mulSD repTD)
theorem opd_times (hK : X.K = g.K) : OpD X g (binaryOp .Mult) timesD := opd_mul.or (opd_mulS.or (opd_repT hK))
def sNeg (f : Sm D) : Sm D := fun env k => (f env k).bind fun d k1 => match d with
  | .int i => .ok (.int (-i)) k1
  | _ => .bad
theorem pd_neg' (ha : PD X g xc W e f) : PD X g xc W (.UnaryOp .USub e pos) (sNeg f) := pd_neg ha

/-! name = [.. for ..], on one line, known at once -/
theorem setN_frz {H0 F0 : Hp} {k0 k : DkO} {env : List En} {D : Ends} {i : Nat} (q : AskS g xc W H0 F0 k0 D (sSet i (sFrz l) env k)) : AskS g xc W H0 F0 k0 D (sSetN i l env k) := by
  unfold sSet sFrz at q
  unfold sSetN
  cases hl : l env k with
  | bad => rw [hl] at q; exact q
  | err c fs k' => rw [hl] at q; exact q
  | ok ds k' =>
    rw [hl] at q
    intro σ H F z ok ow
    by_cases hi : i < env.length
    · have e1 : (env.set i (.own ds))[i]? = some (.own ds) := List.getElem?_set_self hi
      obtain ⟨F1, z1, ok1, ow1⟩ := frz_step z ok ow e1
      have e2 : (env.set i (.own ds)).set i (frzE (.own ds)) = env.set i (.d (.lst ds)) := List.set_set ..
      rw [e2] at ok1 ow1
      exact q _ _ _ z1 ok1 ow1
    · have e1 : env.set i (.own ds) = env := List.set_eq_of_length_le (by omega)
      have e2 : env.set i (.d (.lst ds)) = env := List.set_eq_of_length_le (by omega)
      rw [e1] at ok ow
      refine q σ H F z ?_ ?_
      · show EnvOk g xc k' σ H F (env.set i (.d (.lst ds))); rw [e2]; exact ok
      · show Own H0 σ (env.set i (.d (.lst ds))); rw [e2]; exact ow
theorem pds_setD {i : Nat} (hh : PDS X g xc W st (sSetN i l)) : PDS X g xc W st (sSet i (sFrz l)) :=
  PS.imp hh fun D σ H ⟨H0, F0, k0, F, k, env, z, ok, ow, q⟩ => ⟨H0, F0, k0, F, k, env, z, ok, ow, setN_frz q⟩

/-! names = values, some of them cells: by a tuple -/
theorem EnsOk.hid {Hs H F : Hp} {k : DkO} {vs : List V} {es : List En} {ps : List Addr} {z : Addr} {o : HO} (h : EnsOk g Hs H F k vs es ps) (nz : H z = none) : EnsOk g Hs (upd H z o) F k vs es ps := by
  induction h with
  | nil => exact .nil
  | d r _ ih => exact .d r ih
  | own hq fq dq nq hn r _ ih => exact .own (by rw [upd_ne (ne_of_none hq nz)]; exact hq) fq dq nq hn r ih
theorem EnsOk.length {Hs H F : Hp} {k : DkO} {vs : List V} {es : List En} {ps : List Addr} (h : EnsOk g Hs H F k vs es ps) : vs.length = es.length := by
  induction h with
  | nil => rfl
  | d r _ ih => rw [List.length_cons, List.length_cons, ih]
  | own _ _ _ _ _ _ _ ih => rw [List.length_cons, List.length_cons, ih]
theorem setsE_len : ∀ {is : List Nat} {es env env' : List En}, setsE is es env = some env' → es.length = is.length
  | [], [], _, _, _ => rfl
  | [], _ :: _, _, _, h => by simp [setsE] at h
  | _ :: _, [], _, _, h => by simp [setsE] at h
  | _ :: is, _ :: es, env, env', h => by
    rw [List.length_cons, List.length_cons, setsE_len (is := is) (by simpa [setsE] using h)]
theorem tgTs_names {K : Frag} {H : Hp} {Q : L2.St → Hp → Prop} : ∀ (is : List Nat) (vs : List V) (σ σ' : L2.St), setsV is vs σ = some σ' → Q σ' H → tgTs K (is.map Tgt.name) vs σ H Q
  | [], [], σ, σ', h, q => by
    simp only [setsV, Option.some.injEq] at h
    subst h
    simp only [List.map_nil, tgTs]
    exact ⟨rfl, q⟩
  | [], _ :: _, _, _, h, _ => by simp [setsV] at h
  | _ :: _, [], _, _, h, _ => by simp [setsV] at h
  | i :: is, v :: vs, σ, σ', h, q => by
    simp only [setsV] at h
    simp only [List.map_cons, tgTs, tgT]
    exact ⟨v, vs, rfl, tgTs_names is vs _ σ' h q⟩
theorem pds_parT {tgs : List Expr} {is : List Nat} {kt : Nat} {pt pt2 : Pos} {x1 : Nat} (hK : X.K = g.K) (hc : X.calm = true) (hl : is.length ≤ 1000) (hh : PDGs X g tgs (is.map Tgt.name)) (ha : PDM X g xc W es m)
    (hn : (assignEach tgs X.env).length = (is.map Tgt.name).length := by rfl) (hst : (assignEach tgs X.env).findIdx? (·.1) = none := by rfl)
    (hs : swapsWithSole [.Tuple tgs kt pt] (.Tuple es x1 pt2) pos.line X.env = pure false := by rfl) (hw : swappedStores [.Tuple tgs kt pt] (.Tuple es x1 pt2) X.env = pure none := by rfl)
    (h1 : (assignEach [.Tuple tgs kt pt] X.env).map (·.2) = [assign (.Tuple tgs kt pt) X.env] := by rfl) : PDS X g xc W (.Assign [.Tuple tgs kt pt] (.Tuple es x1 pt2) pos) (sPar is m) := by
  refine PS.imp (ps_asg (pe_tup ha) (pdg_tup (pos := pt) (kk := kt) hK hc hh hn hst) hs hw h1) fun D σ H ⟨H0, F0, k0, F, k, env, z, ok, ow, q⟩ => ?_
  refine ⟨F, k, env, z.st, ok, (askS_ask z ok ow q).imp fun ens H1 F1 k1 _ s1 ⟨z1, ok1, q1⟩ vs ps hes => ?_⟩
  cases hse : setsE is ens env with
  | none => rw [hse] at q1; exact q1.elim
  | some env' =>
    rw [hse] at q1
    have hlen : vs.length = is.length := hes.length.trans (setsE_len hse)
    refine ⟨Nat.le_of_lt (small1000 (by rw [hlen]; exact hl)), fun p np => ?_⟩
    have s2 := Stp.hid (o := .tup vs) z1.st np
    obtain ⟨σ', h1, h2, h3⟩ := sets_rd (H0 := H0) (fun q hq => z.no0 hq) (hes.hid (o := .tup vs) np) is (ok1.step s2) ow (fun q hq => fresh_not ok (hes.mem q hq)) hse
    have fin := q1 _ _ _ (z1.trans s2) h2 h3
    show tgT g.K (.tup (is.map Tgt.name)) (.ref p) σ (upd H1 p (.tup vs)) D.nx
    simp only [tgT]
    exact ⟨p, vs, rfl, SqT.of upd_same, by rw [hlen, List.length_map], tgTs_names is vs σ σ' h1 fin⟩
end
theorem fnG_never {P : Program} {w : World} {K : Frag} {mg : Str → Option Value} {base : Heap} {k : Nat} {f : Addr} {fd : FuncData} {ps : List Str} {g : G} {n : Nat} (hn : ps.length = n) : FnG P w K mg base k f fd ps (SpD g n fun _ _ => .bad) :=
  ⟨fun vs H Q E h => by rw [hn]; exact h.1, fun A outer s H args us vs Q E hr hgd e0 hb r hsp => (by obtain ⟨_, F, k, ds, _, _, q⟩ := hsp; exact q.elim)⟩
section
variable {X : Cx} {g : G}
/-! a bool with a number -/
def b2n (b : Bool) : Int := if b = true then 1 else 0
theorem op_add_bi : OpR X (binaryOp .Add) (fun x y H Q => ∃ b i, x = .bl b ∧ y = .int i ∧ Q (.int (b2n b + i)) H) := by
  intro pins s σ H x y v u Q I rx ry h
  obtain ⟨k, i, rfl, rfl, q⟩ := h
  obtain ⟨t, rfl⟩ := ry
  cases rx
  exact PySem.IntBool.add_bool_int ⟨.int (b2n k + i), H, I.tok _, ⟨_, rfl⟩, q⟩
theorem op_sub_bi : OpR X (binaryOp .Sub) (fun x y H Q => ∃ b i, x = .bl b ∧ y = .int i ∧ Q (.int (b2n b - i)) H) := by
  intro pins s σ H x y v u Q I rx ry h
  obtain ⟨k, i, rfl, rfl, q⟩ := h
  obtain ⟨t, rfl⟩ := ry
  cases rx
  exact PySem.IntBool.sub_bool_int ⟨.int (b2n k - i), H, I.tok _, ⟨_, rfl⟩, q⟩
def biD (f : Int → Int → Int) : D → D → Option D
  | .bl b, .int i => some (.int (f (b2n b) i))
  | _, _ => none
theorem opd_bi {f : Value → Value → Sem Value} {h : Int → Int → Int} (ho : OpR X f (fun x y H Q => ∃ b i, x = .bl b ∧ y = .int i ∧ Q (.int (h (b2n b) i)) H)) : OpD X g f (biD h) :=
  ⟨_, ho, fun H F k x y a b d Q s ra rb e q => by
    unfold biD at e
    split at e
    · cases e
      rw [repBl ra, repInt rb]
      exact ⟨_, _, rfl, rfl, q _ H F (.refl s) (.int _)⟩
    · cases e⟩
def plusD : D → D → Option D := orD catD (biD fun i j => i + j)
def minusD : D → D → Option D := orD subD (biD fun i j => i - j)
theorem opd_plus (hK : X.K = g.K) : OpD X g (binaryOp .Add) plusD := (opd_add hK).or (opd_bi op_add_bi)
theorem opd_minus : OpD X g (binaryOp .Sub) minusD := opd_sub.or (opd_bi op_sub_bi)
theorem call_str_bl : CallR X (.type "str") (fun xs H Q => ∃ b : Bool, xs = [.bl b] ∧ Q (.str (if b = true then "True" else "False")) H) := by
  intro pins s σ H xs us Q I r h
  obtain ⟨b, rfl, q⟩ := h
  obtain ⟨u, rfl, rx⟩ := vals1 r
  cases rx
  exact PySem.P.str_of_bool ⟨.str _, H, I.tok _, ⟨_, rfl⟩, q⟩
def strBD : List D → Option D
  | [.bl b] => some (.str (if b = true then "True" else "False"))
  | _ => none
theorem callo_strB : CallO X g (.type "str") (pureO strBD) := CallO.pure call_str_bl fun H F k xs ds d Q s rs e q => by
  unfold strBD at e
  split at e
  · cases e
    rename_i b
    obtain ⟨v, rfl, r⟩ := rep1 rs
    rw [repBl r]
    refine ⟨b, rfl, q _ H F (.refl s) (.str ?_)⟩
    cases b <;> exact ⟨by decide +kernel, by decide +kernel⟩
  · cases e
def textD : List D → DkO → Out D := orO (pureO strD) (pureO strBD)
theorem callo_text : CallO X g (.type "str") textD := CallO.or callo_str callo_strB
end
theorem pss_ex {X : Cx} {sts : List Stmt} {ι : Type} {t : ι → TS} (h : ∀ i, PSs X sts (t i)) : PSs X sts (fun D σ H => ∃ i, t i D σ H) := ⟨fun pins s σ H D I ⟨i, q⟩ => (h i).run pins s σ H D I q⟩
/-- a law's own promise -/
def spLaw (K : Frag) : Sp := fun vs H Q _ => ∃ (a : Addr) (ns : List Int), vs = [.ref a] ∧ SqL K H a (ns.map V.int) ∧ ∀ H', Q (.bl true) H'
theorem rep_no {n i : Nat} {e : En} (h : (List.replicate n En.no)[i]? = some e) : e = .no := by
  obtain ⟨h3, h4⟩ := List.getElem?_eq_some_iff.mp h
  rw [List.getElem_replicate] at h4
  exact h4.symm
theorem law_noOwn {n i : Nat} {e : En} (h : (En.no :: .d .dk :: List.replicate n En.no)[i]? = some e) : e.isOwn = false := by
  match i, h with
  | 0, h => cases h; rfl
  | 1, h => cases h; rfl
  | i + 2, h => rw [rep_no (i := i) (n := n) h]; rfl
/-- the law's rest, behind its deck -/
theorem law_rest {K : Frag} {cl : String → Addr} {own : List String} {d : Addr} {k : Dk} {H : Hp} {Q : VK} {W : WX} {a : V} {n : Nat} {s : Ss} (hne : d ≠ k.c) (h1 : H d = some (.dK (DKL k.c k.m k.t))) (h2 : H k.c = some (.lst (k.ns.map V.int)))
    (hs : ∃ k', s (.no :: .d .dk :: List.replicate n .no) (some k) = .rt (.bl true) k') (hq : ∀ H', Q (.bl true) H') :
    tS (⟨K, cl, own, d⟩ : G) .none W s { nx := fun _ H' => Q .non H', rt := Q } (some a :: some (.ref d) :: List.replicate n none) H := by
  obtain ⟨k', hs⟩ := hs
  have sta : Sta (⟨K, cl, own, d⟩ : G) H (fun _ => none) (some k) := ⟨fun b o e => (by cases e), h1, h2, rfl, rfl⟩
  refine ⟨H, fun _ => none, some k, fun _ => none, some k, .no :: .d .dk :: List.replicate n .no, .refl sta, ⟨by simp, fun i e he => ?_⟩, ⟨fun i e he ho => ?_, fun i j e e' p he ho => ?_⟩, ?_⟩
  · match i, he with
    | 0, he => cases he; trivial
    | 1, he => cases he; exact ⟨_, rfl, .dk⟩
    | i + 2, he => rw [rep_no (i := i) (n := n) he]; trivial
  · rw [law_noOwn he] at ho; cases ho
  · rw [law_noOwn he] at ho; cases ho
  · rw [hs]
    intro H' F v _ r
    rw [repBl r]
    exact hq H'
end DL
set_option Elab.async false
set_option linter.all false
set_option maxRecDepth 100000
set_option maxHeartbeats 4000000
namespace DL
open PySem PySem.Spec L2
open PySem.W (Frag)
theorem ini_of {K : Frag} {cB cL : Addr} {nmB qB : Str} {NB : Addr} {bsB : List Value} {snB : List Str} {subB : List Value} {abB : Bool} {colB : Option Bool} {ddB : Option Addr} {m0 m1 m2 m3 m5 : Option Value}
    (xL : K.lookup cB = some (excClassObj nmB qB cB NB bsB [.ref cL, .type "Exception", .type "BaseException", .type "object"] true snB subB abB colB ddB m0 m1 m2 m3 m5 "Exception.__new__")) :
    PySem.W.excInitIn K cB PySem.Lw.exTail "Exception.__new__" = true ∧ PySem.W.excOver K cB PySem.Lw.exTail = true := by
  have et : PySem.W.excTail PySem.Lw.exTail [.ref cL, .type "Exception", .type "BaseException", .type "object"] = true := by
    show ((([.type "Exception", .type "BaseException", .type "object"] : List Value)) == PySem.Lw.exTail) = true
    decide +kernel
  refine ⟨?_, ?_⟩
  · unfold PySem.W.excInitIn
    rw [xL]
    show (((cB == cB && ("Exception.__new__" : String) == "Exception.__new__") && !false) && PySem.W.excTail PySem.Lw.exTail [.ref cL, .type "Exception", .type "BaseException", .type "object"]) = true
    rw [et]
    simp
  · unfold PySem.W.excOver PySem.W.clsIn
    rw [xL]
    show (cB == cB && PySem.W.excTail PySem.Lw.exTail [.ref cL, .type "Exception", .type "BaseException", .type "object"]) = true
    rw [et]
    simp
theorem kit_of2 {K : Frag} {cB cL : Addr} (h2 : PySem.W.isClsIn K cL = true) (h3 : PySem.W.typeIn K (.ref cL) = some (.type "type")) (h4 : PySem.W.subIn K (.ref cB) (.ref cL) = some true) : PySem.W.kitOne K (.ref cB) (.ref cL) = some true := by
  unfold PySem.W.kitOne
  split
  · rfl
  · have e2 : ((PySem.W.clsIn K cL).isSome && PySem.W.typeIn K (.ref cL) == some (.type "type")) = true := by
      have h2' : (PySem.W.clsIn K cL).isSome = true := h2
      rw [h2', h3] <;> rfl
    show (if ((PySem.W.clsIn K cL).isSome && PySem.W.typeIn K (.ref cL) == some (.type "type")) = true then PySem.W.subIn K (.ref cB) (.ref cL) else none) = some true
    rw [if_pos e2]
    exact h4
theorem walk {l : PySem.W.OpenLaw} {q : Program} {loose : List Str} {XP : (Str → Option Value) → Heap → Prop} {YP : World → Heap → Prop} {d : DefRec} {K : Params → Frag} {k : Nat} (hk1 : callerA.depth + 3 * k + 5 < recursionLimit) (hk2 : callerA.units + 16 * k + 200 < cLine) (hn : l.most = some 63) (hdf : d.params.defaults = [])
    (hY : ∀ (w : World) (h : Heap), YP w h → (K w.params).In h)
    (F : ∀ (w : World) (mg : Str → Option Value) (fa : Addr) (h : Heap), (K w.params).In h → h.Ns mainGlobals mg → mg d.name = some (.ref fa) →
      ∃ fd : FuncData, (∀ (s : Shared) (u : Value), BindsTo s fd ⟨[u], []⟩ [("_law_script", u)]) ∧ ∀ base : Heap, (K w.params).In base → base.Ns mainGlobals mg → FnG l.prog w (K w.params) mg base k fa fd ["_law_script"] (spLaw (K w.params))) :
    PySem.W.WalkO q loose XP YP l.row.toRowW d [] (fun f vs => PySem.call f vs) :=
  L2.walkG_of (n := 63) (k := k) (x := "_law_script") (sp := spLaw) hn (by decide) hdf ⟨rfl, hk1, hk2⟩ hY F (fun _ _ a ns hl _ hS => ⟨a, ns, rfl, hS, fun _ => rfl⟩)
end DL
set_option Elab.async false
set_option linter.all false
set_option maxRecDepth 100000
set_option maxHeartbeats 4000000
/-! reckoning by trees -/
namespace DL
open PySem PySem.Spec L2
open PySem.W (Frag)
@[simp] theorem outS_ok {α : Type} {a : α} {k : DkO} {env : List En} {R : α → DkO → OutS} : outS (.ok a k) env R = R a k := rfl
@[simp] theorem outS_err {α : Type} {c : String} {fs : List (Str × D)} {k : DkO} {env : List En} {R : α → DkO → OutS} : outS (.err c fs k : Out α) env R = .err c fs env k := rfl
@[simp] theorem outS_bad {α : Type} {env : List En} {R : α → DkO → OutS} : outS (.bad : Out α) env R = .bad := rfl
@[simp] theorem endD_rt {d : D} {k : DkO} : endD (.rt d k) = .ok d k := rfl
@[simp] theorem endD_nx {env : List En} {k : DkO} : endD (.nx env k) = .ok .non k := rfl
@[simp] theorem endD_err {c : String} {fs : List (Str × D)} {env : List En} {k : DkO} : endD (.err c fs env k) = .err c fs k := rfl
section
variable {env : List En} {k k' : DkO} {f h q : Sm D} {p p' : Sm Bool} {l lk its : Sm (List D)} {m : Sm (List En)} {d : D} {s t : Ss}
/-! ### one step each -/
@[simp] theorem sC_eq {d : D} : sC d env k = .ok d k := id rfl
@[simp] theorem sV_eq {i : Nat} : sV i env k = match env[i]? with | some (.d x) => .ok x k | _ => .bad := id rfl
@[simp] theorem lNil_eq : lNil env k = .ok [] k := id rfl
@[simp] theorem lCons_eq : lCons f l env k = (f env k).bind fun d k1 => (l env k1).bind fun ds k2 => .ok (d :: ds) k2 := id rfl
@[simp] theorem lStar_eq : lStar f l env k = (f env k).bind fun d k1 => match seqOf d with | some xs => (l env k1).bind fun ds k2 => .ok (xs ++ ds) k2 | none => .bad := id rfl
@[simp] theorem sRet_eq : sRet f env k = outS (f env k) env fun d k1 => .rt d k1 := id rfl
@[simp] theorem sExpr_eq : sExpr f env k = outS (f env k) env fun _ k1 => .nx env k1 := id rfl
@[simp] theorem sApp_eq {op : List D → DkO → Out D} : sApp op l env k = (l env k).bind op := id rfl
@[simp] theorem pureO_eq {op : List D → Option D} {ds : List D} : pureO op ds k = .of (op ds) k := id rfl
@[simp] theorem sOp_eq {op : D → D → Option D} : sOp op f h env k = (f env k).bind fun x k1 => (h env k1).bind fun y k2 => .of (op x y) k2 := id rfl
@[simp] theorem sOpO_eq {op : D → D → DkO → Out D} : sOpO op f h env k = (f env k).bind fun x k1 => (h env k1).bind fun y k2 => op x y k2 := id rfl
@[simp] theorem sB_eq : sB f env k = (f env k).bind fun d k1 => match d with | .bl b => .ok b k1 | _ => .bad := id rfl
@[simp] theorem sTru_eq : sTru f env k = (f env k).bind fun d k1 => .of (truD d) k1 := id rfl
@[simp] theorem sNotB_eq : sNotB p env k = (p env k).bind fun b k1 => .ok (!b) k1 := id rfl
@[simp] theorem sAndB_eq : sAndB p p' env k = (p env k).bind fun b k1 => if b = true then p' env k1 else .ok false k1 := id rfl
@[simp] theorem sOrB_eq : sOrB p p' env k = (p env k).bind fun b k1 => if b = true then .ok true k1 else p' env k1 := id rfl
@[simp] theorem sAnd_eq : sAnd f h env k = (f env k).bind fun d k1 => match truD d with | some true => h env k1 | some false => .ok d k1 | none => .bad := id rfl
@[simp] theorem sOr_eq : sOr f h env k = (f env k).bind fun d k1 => match truD d with | some true => .ok d k1 | some false => h env k1 | none => .bad := id rfl
@[simp] theorem sNot_eq : sNot f env k = (f env k).bind fun d k1 => match truD d with | some b => .ok (.bl (!b)) k1 | none => .bad := id rfl
@[simp] theorem sIf_eq : sIf p f h env k = (p env k).bind fun b k1 => if b = true then f env k1 else h env k1 := id rfl
@[simp] theorem sChain_eq {o o' : D → D → Option D} : sChain o o' f h q env k = (f env k).bind fun x k1 => (h env k1).bind fun y k2 => match o x y with
  | some (.bl true) => (q env k2).bind fun z k3 => match o' y z with
    | some (.bl b) => .ok (.bl b) k3
    | _ => .bad
  | some (.bl false) => .ok (.bl false) k2
  | _ => .bad := id rfl
@[simp] theorem sNeg_eq : sNeg f env k = (f env k).bind fun d k1 => match d with | .int i => .ok (.int (-i)) k1 | _ => .bad := id rfl
@[simp] theorem sFrz_eq : sFrz l env k = (l env k).bind fun ds k1 => .ok (.lst ds) k1 := id rfl
@[simp] theorem sRev_eq : sRev f env k = (f env k).bind fun d k1 => .of (revD d) k1 := id rfl
@[simp] theorem iVal_eq : iVal f env k = (f env k).bind fun d k1 => .of (itemsOf d) k1 := id rfl
@[simp] theorem iEnumD_eq : iEnumD f env k = (f env k).bind fun d k1 => .of ((itemsOf d).map (enumD 0)) k1 := id rfl
@[simp] theorem iRange1_eq : iRange1 f env k = (f env k).bind fun d k1 => match d with | .int j => if big62 j = true then .ok (rangeL 0 j) k1 else .bad | _ => .bad := id rfl
@[simp] theorem iRange2_eq : iRange2 f h env k = (f env k).bind fun d k1 => (h env k1).bind fun e k2 => match d, e with | .int i, .int j => if big62 i = true ∧ big62 j = true then .ok (rangeL i j) k2 else .bad | _, _ => .bad := id rfl
@[simp] theorem sComp_eq {t : Tgt} {vs : List Nat} : sComp t vs p f its env k = (its env k).bind fun ds k1 => compM t p f (wipeE env vs) ds [] k1 := id rfl
@[simp] theorem sYes_eq : sYes env k = .ok true k := id rfl
@[simp] theorem sIx_eq : sIx f h env k = (f env k).bind fun x k1 => (h env k1).bind fun y k2 => .of (ixD x y) k2 := id rfl
@[simp] theorem oNone_eq : oNone env k = .ok none k := id rfl
@[simp] theorem oSome_eq : oSome f env k = (f env k).bind fun d k1 => match d with | .int i => .ok (some i) k1 | _ => .bad := id rfl
@[simp] theorem sSl_eq {lo hi : Sm (Option Int)} : sSl f lo hi env k = (f env k).bind fun d k1 => (lo env k1).bind fun l k2 => (hi env k2).bind fun u k3 => .of (slD d l u) k3 := id rfl
@[simp] theorem sTup_eq : sTup l env k = (l env k).bind fun ds k1 => if ds.length ≤ sizeLine then .ok (.tup ds) k1 else .bad := id rfl
@[simp] theorem sLst_eq : sLst l env k = (l env k).bind fun ds k1 => if ds.length ≤ sizeLine then .ok (.lst ds) k1 else .bad := id rfl
@[simp] theorem sNew_eq : sNew l env k = (l env k).bind fun ds k1 => if ds.length ≤ sizeLine then .ok ds k1 else .bad := id rfl
@[simp] theorem sIsi_eq {T : String} : sIsi T f env k = (f env k).bind fun d k1 => match d with | .dk => .bad | .cls _ => .bad | .shw _ => .bad | d => .ok (.bl (isTy T d)) k1 := id rfl
@[simp] theorem sIsC_eq {T : String} : sIsC T f env k = (f env k).bind fun d k1 => match d with | .dk => .bad | .cls _ => .bad | .shw _ => .bad | d => .ok (.bl (isCl T d)) k1 := id rfl
@[simp] theorem sCall_eq {n : Nat} {fn : Fn} : sCall n fn l env k = (l env k).bind fun ds k1 => if ds.length = n then fn ds k1 else .bad := id rfl
@[simp] theorem sCallK_eq {n m j : Nat} {ix : List Nat} {fn : Fn} : sCallK n m j ix fn l lk env k = (l env k).bind fun ds k1 => (lk env k1).bind fun es k2 => if (ord m j ix ds es).length = n then fn (ord m j ix ds es) k2 else .bad := id rfl
@[simp] theorem sMake_eq {cn : String} {n : Nat} {fn : FnI} : sMake cn n fn l env k = (l env k).bind fun ds k1 => if ds.length = n then (fn ds k1).bind fun fs k2 => .ok (.obj cn fs) k2 else .bad := id rfl
@[simp] theorem sOrdK_eq {j : Nat} {ix : List Nat} : sOrdK j ix l env k = (l env k).bind fun ds k1 => if ds.length = j then .ok (ordK j ix ds) k1 else .bad := id rfl
@[simp] theorem sOfC_eq {cn : String} : sOfC cn f h env k = (f env k).bind fun d k1 => match d with | .cls c' => if c' = cn then h env k1 else .bad | _ => .bad := id rfl
@[simp] theorem sCM_eq {cn : String} {n : Nat} {fn : Fn} : sCM cn n fn f l env k = sOfC cn f (fun env k => (l env k).bind fun ds k1 => if ds.length + 1 = n then fn (.cls cn :: ds) k1 else .bad) env k := id rfl
@[simp] theorem sFld_eq {cs : List String} {fl : Str} : sFld cs fl f env k = (f env k).bind fun d k1 => match d with | .obj c fs => if c ∈ cs then .of (fs.lookup fl) k1 else .bad | _ => .bad := id rfl
@[simp] theorem sMeth_eq {c : String} {m : Str} {n : Nat} {fn : Fn} : sMeth c m n fn f l env k = (f env k).bind fun d k1 => match d with | .obj c' fs => if c' = c ∧ fs.lookup m = none then (l env k1).bind fun ds k2 => if ds.length + 1 = n then fn (.obj c' fs :: ds) k2 else .bad else .bad | _ => .bad := id rfl
@[simp] theorem sM0_eq {op : Str → List D → Option D} : sM0 op f env k = (f env k).bind fun d k1 => match d with | .str x => .of (op x []) k1 | _ => .bad := id rfl
@[simp] theorem sM1_eq {op : Str → List D → Option D} : sM1 op f h env k = (f env k).bind fun d k1 => match d with | .str x => (h env k1).bind fun e k2 => .of (op x [e]) k2 | _ => .bad := id rfl
@[simp] theorem sSet_eq {i : Nat} : sSet i f env k = outS (f env k) env fun d k1 => .nx (env.set i (.d d)) k1 := id rfl
@[simp] theorem sSetN_eq {i : Nat} : sSetN i l env k = outS (l env k) env fun ds k1 => .nx (env.set i (.own ds)) k1 := id rfl
@[simp] theorem sAsg_eq {t : Tgt} : sAsg t f env k = outS (f env k) env fun d k1 => match t.set d env with | some env' => .nx env' k1 | none => .bad := id rfl
@[simp] theorem mNil_eq : mNil env k = .ok [] k := id rfl
@[simp] theorem mD_eq : mD f m env k = (f env k).bind fun d k1 => (m env k1).bind fun es k2 => .ok (.d d :: es) k2 := id rfl
@[simp] theorem mN_eq : mN l m env k = (l env k).bind fun ds k1 => (m env k1).bind fun es k2 => .ok (.own ds :: es) k2 := id rfl
@[simp] theorem sPar_eq {is : List Nat} : sPar is m env k = outS (m env k) env fun es k1 => match setsE is es env with | some env' => .nx env' k1 | none => .bad := id rfl
@[simp] theorem sApnd_eq {i : Nat} : sApnd i f env k = match env[i]? with | some (.own ds) => outS (f env k) env fun d k1 => if ds.length < sizeLine then .nx (env.set i (.own (ds ++ [d]))) k1 else .bad | _ => .bad := id rfl
@[simp] theorem sFrzS_eq {i : Nat} : sFrzS i s env k = match env[i]? with | some e => s (env.set i (frzE e)) k | none => s env k := id rfl
@[simp] theorem sSkip_eq : sSkip env k = .nx env k := id rfl
@[simp] theorem sIfS_eq : sIfS p s t env k = outS (p env k) env fun b k1 => if b = true then s env k1 else t env k1 := id rfl
@[simp] theorem sSeq_eq : sSeq s t env k = match s env k with | .nx env' k' => t env' k' | o => o := id rfl
@[simp] theorem sFor_eq {t : Tgt} : sFor t its s env k = outS (its env k) env fun ds k1 => forM t s ds env k1 := id rfl
@[simp] theorem sSetF_eq {i : Nat} {c : String} {fl : Str} : sSetF i c fl f env k = outS (f env k) env fun d k1 => match env[i]? with | some (.ownO c' fs) => if c' = c ∧ fs.length < 1000 then .nx (env.set i (.ownO c (putD fl d fs))) k1 else .bad | _ => .bad := id rfl
@[simp] theorem sRaise_eq {c : String} {fl : Str} : sRaise c fl l env k = outS (l env k) env fun ds k1 => match ds with | [d] => .err c [(fl, d)] env k1 | _ => .bad := id rfl
@[simp] theorem sTry_eq {yes : String → Option Bool} {i : Nat} : sTry yes i s t env k = match s env k with
  | .err c fs env' k' => match yes c with
    | some true => unExc i (t (env'.set i (.exc c fs)) k')
    | some false => .err c fs env' k'
    | none => .bad
  | o => o := id rfl
@[simp] theorem unExc_nx {i : Nat} : unExc i (.nx env k) = if noExc (env.set i .no) = true then .nx (env.set i .no) k else .bad := id rfl
@[simp] theorem unExc_rt {i : Nat} : unExc i (.rt d k) = .rt d k := id rfl
@[simp] theorem sXf_eq {c : String} {fl : Str} {i : Nat} : sXf c fl i env k = match env[i]? with | some (.exc c' fs) => if c' = c then .of (fs.lookup fl) k else .bad | _ => .bad := id rfl
@[simp] theorem sXi_eq {c : String} {b : Bool} {i : Nat} : sXi c b i env k = match env[i]? with | some (.exc c' fs) => if c' = c then .ok (.bl b) k else .bad | _ => .bad := id rfl
@[simp] theorem pureOp_eq {o : D → D → Option D} {a b : D} : pureOp o a b k = .of (o a b) k := id rfl
theorem orO_bad {α : Type} {o o' : α → DkO → Out D} {x : α} {k : DkO} (h : o x k = .bad) : orO o o' x k = o' x k := by unfold orO; rw [h]
theorem orO_ok {α : Type} {o o' : α → DkO → Out D} {x : α} {k k' : DkO} {d : D} (h : o x k = .ok d k') : orO o o' x k = .ok d k' := by unfold orO; rw [h]
theorem orOp_bad {o o' : D → D → DkO → Out D} {a b : D} {k : DkO} (h : o a b k = .bad) : orOp o o' a b k = o' a b k := by unfold orOp; rw [h]
theorem orOp_ok {o o' : D → D → DkO → Out D} {a b : D} {k k' : DkO} {d : D} (h : o a b k = .ok d k') : orOp o o' a b k = .ok d k' := by unfold orOp; rw [h]
theorem ownO_ok {cn : String} {fn : Fn} {C : D → Bool} {fs : List (Str × D)} {k k' : DkO} {d : D} (e : fn [.obj cn fs] k = .ok d k') (hc : C d = true) : ownO cn fn C [.obj cn fs] k = .ok d k' := by
  unfold ownO
  simp only [if_true, e, noE_ok, bind_ok, hc]
theorem ownEq_ok {cn : String} {fn : Fn} {w : Bool → Bool} {fs : List (Str × D)} {k k' : DkO} {d : D} {z : Bool} (e : fn [.obj cn fs, d] k = .ok (.bl z) k') (h1 : d.isCls = false) (h2 : d.isDk = false) : ownEq cn fn w (.obj cn fs) d k = .ok (.bl (w z)) k' := by
  unfold ownEq
  simp only [h1, h2, and_self, if_true, e, noE_ok, bind_ok]
@[simp] theorem le_sz {n : Nat} (h : n ≤ 1000) : (n ≤ sizeLine) = True := eq_true (Nat.le_of_lt (small1000 h))
@[simp] theorem lt_sz {n : Nat} (h : n ≤ 1000) : (n < sizeLine) = True := eq_true (small1000 h)
/-! ### comprehensions -/
/-- over what is made of a list, the deck left alone -/
theorem compM_map {β : Type} {t : Tgt} {env0 : List En} {mk : β → D} {pp : β → Bool} {ff : β → D} : ∀ (bs : List β) (acc : List D), acc.length + bs.length ≤ sizeLine →
    (∀ b ∈ bs, ∃ env1, t.set (mk b) env0 = some env1 ∧ ∀ k, p env1 k = .ok (pp b) k ∧ (pp b = true → f env1 k = .ok (ff b) k)) → ∀ k, compM t p f env0 (bs.map mk) acc k = .ok (acc ++ (bs.filter pp).map ff) k
  | [], acc, _, _, k => by simp [compM]
  | b :: bs, acc, hl, h, k => by
    rw [List.length_cons] at hl
    obtain ⟨env1, h1, h2⟩ := h b List.mem_cons_self
    rw [List.map_cons]
    unfold compM
    rw [h1]
    simp only [(h2 k).1, noE_ok, bind_ok]
    have ht := fun d hd => h d (List.mem_cons_of_mem _ hd)
    by_cases hp : pp b = true
    · rw [if_pos hp, (h2 k).2 hp]
      simp only [noE_ok, bind_ok]
      rw [if_pos (by omega), compM_map bs _ (by rw [List.length_append, List.length_singleton]; omega) ht k, List.filter_cons_of_pos hp, List.map_cons]
      simp
    · rw [if_neg hp, compM_map bs _ (by omega) ht k, List.filter_cons_of_neg hp]
theorem compM_eq {t : Tgt} {env0 : List En} {pp : D → Bool} {ff : D → D} (ds acc : List D) (hl : acc.length + ds.length ≤ sizeLine)
    (hh : ∀ d ∈ ds, ∃ env1, t.set d env0 = some env1 ∧ ∀ k, p env1 k = .ok (pp d) k ∧ (pp d = true → f env1 k = .ok (ff d) k)) (k : DkO) : compM t p f env0 ds acc k = .ok (acc ++ (ds.filter pp).map ff) k := by
  have := compM_map (mk := fun d => d) ds acc hl hh k
  rwa [List.map_id'] at this
theorem bls_map {β : Type} {q : β → Bool} : ∀ bs : List β, blsOf (bs.map fun b => D.bl (q b)) = some (bs.map q)
  | [] => rfl
  | b :: bs => by show (blsOf (bs.map fun b => D.bl (q b))).map (q b :: ·) = _; rw [bls_map bs]; rfl
theorem all_map {β : Type} {q : β → Bool} {bs : List β} : allD [.lst (bs.map fun b => D.bl (q b))] = some (.bl (bs.all q)) := by
  show (blsOf (bs.map fun b => D.bl (q b))).map _ = _
  rw [bls_map]; simp [Function.comp_def]
theorem any_map {β : Type} {q : β → Bool} {bs : List β} : anyD [.lst (bs.map fun b => D.bl (q b))] = some (.bl (bs.any q)) := by
  show (blsOf (bs.map fun b => D.bl (q b))).map _ = _
  rw [bls_map]; simp [Function.comp_def]
end

/-! ### data -/
mutual
/-- how long it is shown at most -/
def wt : D → Nat
  | .str x => 10 * x.length + 10
  | .int _ => 2000
  | .lst ds => wtAll ds + 10
  | .tup ds => wtAll ds + 10
  | _ => 10
def wtAll : List D → Nat
  | [] => 0
  | d :: ds => wt d + 2 + wtAll ds
end
mutual
def ht : D → Nat
  | .lst ds => htAll ds + 1
  | .tup ds => htAll ds + 1
  | .dct _ => 1
  | _ => 0
def htAll : List D → Nat
  | [] => 0
  | d :: ds => max (ht d) (htAll ds)
end
mutual
/-- data that can be shown -/
def okD : D → Bool
  | .non => true
  | .bl _ => true
  | .int i => decide (i.natAbs.log2 < 1920)
  | .str x => decide (x.length ≤ sizeLine) && PyData.strOk x
  | .lst ds => okAll ds
  | .tup ds => okAll ds
  | .dct ds => ds.isEmpty
  | _ => false
def okAll : List D → Bool
  | [] => true
  | d :: ds => okD d && okAll ds
end
theorem okD_str {x : Str} (h : okD (.str x) = true) : SOk x := by
  simp only [okD, Bool.and_eq_true, decide_eq_true_eq] at h; exact h
theorem okAll_mem : ∀ {ds : List D}, okAll ds = true → ∀ d ∈ ds, okD d = true
  | [], _, _, h => nomatch h
  | d :: ds, h, x, hx => by
    simp only [okAll, Bool.and_eq_true] at h
    rcases List.mem_cons.mp hx with rfl | z
    · exact h.1
    · exact okAll_mem h.2 x z
theorem okAll_of : ∀ {ds : List D}, (∀ d ∈ ds, okD d = true) → okAll ds = true
  | [], _ => rfl
  | d :: ds, h => by
    simp only [okAll, Bool.and_eq_true]
    exact ⟨h d List.mem_cons_self, okAll_of fun x hx => h x (List.mem_cons_of_mem _ hx)⟩
theorem reprText_wt {x : Str} (h : SOk x) : (reprText x).length ≤ 10 * x.length + 10 := by
  have := PySem.StrLaws.reprText_len x fun c hc => Nat.lt_trans (strOk_all.mp h.2 c hc) (by decide)
  omega
theorem shownAll_len : ∀ ps : List PyData, (PyData.shownAll ps).length = ps.length
  | [] => rfl
  | p :: ps => by simp only [PyData.shownAll, List.length_cons, shownAll_len ps]
mutual
theorem okD_py : ∀ {d : D}, okD d = true → ∃ p, d.py = some p ∧ p.showable = true ∧ p.shown.length ≤ wt d ∧ p.depth ≤ ht d
  | .non, _ => ⟨_, rfl, rfl, by decide, by simp [PyData.depth, ht]⟩
  | .bl b, _ => ⟨_, rfl, rfl, by cases b <;> decide, by simp [PyData.depth, ht]⟩
  | .int i, h => by
    simp only [okD, decide_eq_true_eq] at h
    refine ⟨_, rfl, decide_eq_true h, ?_, by simp [PyData.depth, ht]⟩
    exact Nat.le_trans (PyProof.Rows.int_text_len_1921 h) (by simp [wt])
  | .str x, h => ⟨_, rfl, rfl, by simp only [wt]; exact reprText_wt (okD_str h), by simp [PyData.depth, ht]⟩
  | .lst ds, h => by
    obtain ⟨ps, h1, h2, h3, h4⟩ := okAll_py (ds := ds) (by simpa [okD] using h)
    refine ⟨.list ps, by simp only [D.py, h1, Option.map_some], by simpa [PyData.showable] using h2, ?_, by simp only [PyData.depth, ht]; omega⟩
    have := PySem.listText_len_le (PyData.shownAll ps)
    rw [shownAll_len] at this
    simp only [PyData.shown, wt]; omega
  | .tup ds, h => by
    obtain ⟨ps, h1, h2, h3, h4⟩ := okAll_py (ds := ds) (by simpa [okD] using h)
    refine ⟨.tuple ps, by simp only [D.py, h1, Option.map_some], by simpa [PyData.showable] using h2, ?_, by simp only [PyData.depth, ht]; omega⟩
    have := PySem.tupleText_len_le (PyData.shownAll ps)
    rw [shownAll_len] at this
    simp only [PyData.shown, wt]; omega
  | .dct [], _ => ⟨.dict [], rfl, rfl, by decide, by simp [PyData.depth, PyData.depthKv, ht]⟩
  | .dct (_ :: _), h => by simp [okD] at h
  | .obj _ _, h => by simp [okD] at h
  | .dk, h => by simp [okD] at h
  | .cls _, h => by simp [okD] at h
  | .shw _, h => by simp [okD] at h
theorem okAll_py : ∀ {ds : List D}, okAll ds = true → ∃ ps, D.pyAll ds = some ps ∧ PyData.showableAll ps = true ∧ ((PyData.shownAll ps).map (·.length)).sum + 2 * ps.length ≤ wtAll ds ∧ PyData.depthAll ps ≤ htAll ds
  | [], _ => ⟨[], rfl, rfl, by simp [PyData.shownAll, wtAll], by simp [PyData.depthAll, htAll]⟩
  | d :: ds, h => by
    simp only [okAll, Bool.and_eq_true] at h
    obtain ⟨p, a1, a2, a3, a4⟩ := okD_py h.1
    obtain ⟨ps, b1, b2, b3, b4⟩ := okAll_py h.2
    refine ⟨p :: ps, by simp only [D.pyAll, a1, b1], by simp only [PyData.showableAll, a2, b2, Bool.and_self], ?_, ?_⟩
    · simp only [PyData.shownAll, wtAll, List.map_cons, List.sum_cons, List.length_cons]; omega
    · simp only [PyData.depthAll, htAll]; omega
end
/-- the repr of data, whatever it is -/
theorem repr_of {d : D} (h : okD d = true) (hw : wt d ≤ sizeLine) (hd : ht d ≤ 60) : ∃ p, reprD [d] = some (.shw p) ∧ d.py = some p := by
  obtain ⟨p, h1, h2, h3, h4⟩ := okD_py h
  refine ⟨p, ?_, h1⟩
  unfold reprD
  simp only [h1, h2, Bool.true_and]
  rw [if_pos]
  simp only [Bool.and_eq_true, decide_eq_true_eq]
  exact ⟨by omega, by omega⟩
theorem eq_shw {p : PyData} : eqD (.shw p) (.shw p) = some (.bl true) := by
  unfold eqD orD nilT eqvD eqShw
  simp [D.py]
/-- data: nothing of one's own, no deck -/
def plain : D → Bool
  | .dk => false
  | .cls _ => false
  | .shw _ => false
  | _ => true
theorem okD_plain {d : D} (h : okD d = true) : plain d = true := by
  cases d <;> first | rfl | simp [okD] at h
theorem isi_eq {T : String} {d : D} {k : DkO} (h : plain d = true) : (match d with | .dk => .bad | .cls _ => .bad | .shw _ => .bad | d => .ok (.bl (isTy T d)) k : Out D) = .ok (.bl (isTy T d)) k := by
  cases d <;> first | rfl | cases h
theorem wtAll_app : ∀ (a b : List D), wtAll (a ++ b) = wtAll a + wtAll b
  | [], b => by simp [wtAll]
  | d :: a, b => by rw [List.cons_append]; simp only [wtAll]; rw [wtAll_app a b]; omega
theorem htAll_app : ∀ (a b : List D), htAll (a ++ b) = max (htAll a) (htAll b)
  | [], b => by simp [htAll]
  | d :: a, b => by rw [List.cons_append]; simp only [htAll]; rw [htAll_app a b]; omega
theorem okAll_app : ∀ (a b : List D), okAll (a ++ b) = (okAll a && okAll b)
  | [], b => by simp [okAll]
  | d :: a, b => by rw [List.cons_append]; simp only [okAll]; rw [okAll_app a b, Bool.and_assoc]
theorem wt_mem : ∀ {ds : List D} {d : D}, d ∈ ds → wt d + 2 ≤ wtAll ds
  | [], _, h => nomatch h
  | x :: ds, d, h => by
    simp only [wtAll]
    rcases List.mem_cons.mp h with rfl | z
    · omega
    · have := wt_mem z; omega
theorem ht_mem : ∀ {ds : List D} {d : D}, d ∈ ds → ht d ≤ htAll ds
  | [], _, h => nomatch h
  | x :: ds, d, h => by
    simp only [htAll]
    rcases List.mem_cons.mp h with rfl | z
    · omega
    · have := ht_mem z; omega
theorem wtAll_len : ∀ (ds : List D), 2 * ds.length ≤ wtAll ds
  | [] => by simp [wtAll]
  | d :: ds => by have := wtAll_len ds; rw [List.length_cons]; simp only [wtAll]; omega
end DL
set_option Elab.async false
set_option linter.all false
set_option maxRecDepth 100000
set_option maxHeartbeats 4000000
/-! drawn data: draws left, sizes -/
namespace DL
open PySem PySem.Spec L2
open PySem.W (Frag)
/-- so many draws may follow -/
def Bud (k : Dk) (n : Nat) : Prop := 0 ≤ k.t ∧ k.t + n < 9223372036854775808
theorem Bud.mono {k : Dk} {n m : Nat} (h : Bud k m) (hn : n ≤ m) : Bud k n := ⟨h.1, by have := h.2; omega⟩
theorem Bud.tok {k : Dk} {n : Nat} (h : Bud k n) : tOk k.t = true := by
  unfold tOk; simp only [Bool.and_eq_true, decide_eq_true_eq]; have := h.2; exact ⟨h.1, by omega⟩
theorem draw_run {c0 b : Int} {k : Dk} {n : Nat} (hb : bOk b = true) (h : Bud k (n + 1)) : ∃ r k', drawF c0 [.dk, .int b] (some k) = .ok (.int r) (some k') ∧ 0 ≤ r ∧ r < b ∧ Bud k' n := by
  obtain ⟨r, k', h1, h2, h3, h4⟩ := draw_ok (c0 := c0) hb h.tok
  exact ⟨r, k', h1, h2, h3, by have := h.1; rw [h4]; omega, by have := h.2; rw [h4]; omega⟩
theorem bOk_nat {n : Nat} (h0 : 0 < n) (h1 : n < 1073741824) : bOk (n : Int) = true := by
  unfold bOk; simp only [Bool.and_eq_true, decide_eq_true_eq]; omega
/-- some[draw(len(some))] -/
def pickF (c0 : Int) : Fn := fnD 2 (sRet (sIx (sV 1) (sCall 2 (drawF c0) (lCons (sV 0) (lCons (sApp (pureO lenD) (lCons (sV 1) lNil)) lNil)))))
theorem atI_nat' {α : Type} {xs : List α} {i : Nat} {x : α} (h : xs[i]? = some x) : atI xs (i : Int) = some x := by
  unfold atI ixN
  have hl := (List.getElem?_eq_some_iff.mp h).1
  have e : HT.sIx xs.length 0 (some (i : Int)) = HT.sIx xs.length 0 (some (i : Int)) := rfl
  exact L2.atI_nat h
theorem atI_get_ok {α : Type} {xs : List α} {r : Int} (h0 : 0 ≤ r) (h1 : r < xs.length) : ∃ x, atI xs r = some x ∧ x ∈ xs ∧ xs[r.toNat]? = some x := by
  obtain ⟨i, rfl⟩ := Int.eq_ofNat_of_zero_le h0
  have hi : i < xs.length := by omega
  refine ⟨xs[i], L2.atI_nat (by simp [hi]), List.getElem_mem hi, by simp [hi]⟩
theorem pick_lst {c0 : Int} {ds : List D} {k : Dk} {n : Nat} (h0 : 0 < ds.length) (h1 : ds.length < 1073741824) (h : Bud k (n + 1)) : ∃ d k', pickF c0 [.dk, .lst ds] (some k) = .ok d (some k') ∧ d ∈ ds ∧ Bud k' n := by
  obtain ⟨r, k', e, r0, r1, hb⟩ := draw_run (c0 := c0) (bOk_nat h0 h1) h
  obtain ⟨d, hd, hm, _⟩ := atI_get_ok r0 r1
  refine ⟨d, k', ?_, hm, hb⟩
  show endD (sRet _ [.d .dk, .d (.lst ds)] (some k)) = _
  simp [lenD, e, ixD, hd]
theorem pick_str {c0 : Int} {x : Str} {k : Dk} {n : Nat} (h0 : 0 < x.length) (h1 : x.length < 1073741824) (h : Bud k (n + 1)) : ∃ c k', pickF c0 [.dk, .str x] (some k) = .ok (.str ⟨#[c]⟩) (some k') ∧ c ∈ x.cps.toList ∧ Bud k' n := by
  obtain ⟨r, k', e, r0, r1, hb⟩ := draw_run (c0 := c0) (bOk_nat h0 h1) h
  obtain ⟨d, hd, hm, _⟩ := atI_get_ok (xs := x.cps.toList) r0 (by rw [← len_list]; exact r1)
  refine ⟨d, k', ?_, hm, hb⟩
  show endD (sRet _ [.d .dk, .d (.str x)] (some k)) = _
  simp [lenD, e, ixD, hd]

/-- a function that draws below b -/
def DrawOk (F : Fn) : Prop := ∀ (b : Int) (k : Dk) (n : Nat), bOk b = true → Bud k (n + 1) → ∃ r k', F [.dk, .int b] (some k) = .ok (.int r) (some k') ∧ 0 ≤ r ∧ r < b ∧ Bud k' n
/-- a function that picks -/
structure PickOk (F : Fn) : Prop where
  lst : ∀ (ds : List D) (k : Dk) (n : Nat), 0 < ds.length → ds.length < 1073741824 → Bud k (n + 1) → ∃ d k', F [.dk, .lst ds] (some k) = .ok d (some k') ∧ d ∈ ds ∧ Bud k' n
  str : ∀ (x : Str) (k : Dk) (n : Nat), 0 < x.length → x.length < 1073741824 → Bud k (n + 1) → ∃ c k', F [.dk, .str x] (some k) = .ok (.str ⟨#[c]⟩) (some k') ∧ c ∈ x.cps.toList ∧ Bud k' n
theorem drawOk_F (c0 : Int) : DrawOk (drawF c0) := fun _ _ _ hb h => draw_run hb h
theorem pickOk_F (c0 : Int) : PickOk (pickF c0) := ⟨fun _ _ _ h0 h1 h => pick_lst h0 h1 h, fun _ _ _ h0 h1 h => pick_str h0 h1 h⟩
/-! ### loops with draws -/
section
variable {t : Tgt} {p : Sm Bool} {f : Sm D} {env0 : List En} {β : Type} {mk : β → D}
theorem compM_run {P : β → D → Prop} {c : Nat} : ∀ (bs : List β) (acc : List D) (k : Dk) (n : Nat), acc.length + bs.length ≤ sizeLine → Bud k (n + c * bs.length) →
    (∀ b ∈ bs, ∃ env1, t.set (mk b) env0 = some env1 ∧ ∀ k n, Bud k (n + c) → ∃ y k', f env1 (some k) = .ok y (some k') ∧ P b y ∧ Bud k' n) →
    ∃ ys k', compM t sYes f env0 (bs.map mk) acc (some k) = .ok (acc ++ ys) (some k') ∧ ys.length = bs.length ∧ (∀ y ∈ ys, ∃ b ∈ bs, P b y) ∧ Bud k' n
  | [], acc, k, n, _, hb, _ => ⟨[], k, by simp [compM], rfl, fun _ z => (nomatch z), hb.mono (by omega)⟩
  | b :: bs, acc, k, n, hl, hb, h => by
    rw [List.length_cons] at hl hb
    obtain ⟨env1, h1, h2⟩ := h b List.mem_cons_self
    obtain ⟨y, k1, e1, py, hb1⟩ := h2 k (n + c * bs.length) (hb.mono (by rw [Nat.mul_succ]; omega))
    obtain ⟨ys, k2, e2, l2, p2, hb2⟩ := compM_run bs (acc ++ [y]) k1 n (by rw [List.length_append, List.length_singleton]; omega) hb1 fun d hd => h d (List.mem_cons_of_mem _ hd)
    refine ⟨y :: ys, k2, ?_, by rw [List.length_cons, List.length_cons, l2], fun z hz => ?_, hb2⟩
    · rw [List.map_cons]
      unfold compM
      rw [h1]
      simp only [sYes_eq, noE_ok, bind_ok, if_true, e1]
      rw [if_pos (by omega), e2]
      simp
    · rcases List.mem_cons.mp hz with rfl | hz
      · exact ⟨b, List.mem_cons_self, py⟩
      · obtain ⟨b', h3, h4⟩ := p2 z hz
        exact ⟨b', List.mem_cons_of_mem _ h3, h4⟩
end
/-- a for whose body always goes on -/
theorem forM_run {t : Tgt} {s : Ss} {β : Type} {mk : β → D} {I : Nat → List En → Prop} {c : Nat} : ∀ (bs : List β) (i : Nat) (env : List En) (k : Dk) (n : Nat), I i env → Bud k (n + c * bs.length) →
    (∀ j b env k n, j < i + bs.length → b ∈ bs → I j env → Bud k (n + c) → ∃ env1 env2 k', t.set (mk b) env = some env1 ∧ s env1 (some k) = .nx env2 (some k') ∧ I (j + 1) env2 ∧ Bud k' n) →
    ∃ env' k', forM t s (bs.map mk) env (some k) = .nx env' (some k') ∧ I (i + bs.length) env' ∧ Bud k' n
  | [], i, env, k, n, hi, hb, _ => ⟨env, k, rfl, hi, hb.mono (by omega)⟩
  | b :: bs, i, env, k, n, hi, hb, h => by
    rw [List.length_cons] at hb
    obtain ⟨env1, env2, k1, h1, h2, h3, hb1⟩ := h i b env k (n + c * bs.length) (by rw [List.length_cons]; omega) List.mem_cons_self hi (hb.mono (by rw [Nat.mul_succ]; omega))
    obtain ⟨env', k', e, hi', hb'⟩ := forM_run bs (i + 1) env2 k1 n h3 hb1 fun j b env k n hj hb => h j b env k n (by rw [List.length_cons]; omega) (List.mem_cons_of_mem _ hb)
    refine ⟨env', k', ?_, by rw [List.length_cons]; rw [show i + (bs.length + 1) = i + 1 + bs.length by omega]; exact hi', hb'⟩
    rw [List.map_cons]
    unfold forM
    simp only [h1, h2]
    exact e

/-! ### data of small signs -/
mutual
def gdD : D → Bool
  | .non => true
  | .bl _ => true
  | .int _ => true
  | .str x => x.cps.toList.all fun c => decide (c < 128)
  | .lst ds => gdAll ds
  | .tup ds => gdAll ds
  | .dct ds => ds.isEmpty
  | _ => false
def gdAll : List D → Bool
  | [] => true
  | d :: ds => gdD d && gdAll ds
end
mutual
/-- the greatest number -/
def mg : D → Nat
  | .int i => i.natAbs
  | .lst ds => mgAll ds
  | .tup ds => mgAll ds
  | _ => 0
def mgAll : List D → Nat
  | [] => 0
  | d :: ds => max (mg d) (mgAll ds)
end
theorem gdAll_iff : ∀ {ds : List D}, gdAll ds = true ↔ ∀ d ∈ ds, gdD d = true
  | [] => by simp [gdAll]
  | d :: ds => by simp only [gdAll, Bool.and_eq_true, List.mem_cons, forall_eq_or_imp, gdAll_iff (ds := ds)]
theorem htAll_iff {h : Nat} : ∀ {ds : List D}, htAll ds ≤ h ↔ ∀ d ∈ ds, ht d ≤ h
  | [] => by simp [htAll]
  | d :: ds => by simp only [htAll, Nat.max_le, List.mem_cons, forall_eq_or_imp, htAll_iff (ds := ds)]
theorem mgAll_iff {h : Nat} : ∀ {ds : List D}, mgAll ds ≤ h ↔ ∀ d ∈ ds, mg d ≤ h
  | [] => by simp [mgAll]
  | d :: ds => by simp only [mgAll, Nat.max_le, List.mem_cons, forall_eq_or_imp, mgAll_iff (ds := ds)]
theorem wtAll_sub {a b : List D} (h : a.Sublist b) : wtAll a ≤ wtAll b := by
  induction h with
  | slnil => exact Nat.le_refl _
  | cons d _ ih => simp only [wtAll]; omega
  | cons_cons d _ ih => simp only [wtAll]; omega
theorem wtAll_rev (a : List D) : wtAll a.reverse = wtAll a := by
  induction a with
  | nil => rfl
  | cons d a ih => rw [List.reverse_cons, wtAll_app, ih]; simp only [wtAll]; omega
theorem log_small {i : Int} (h : i.natAbs ≤ 10 ^ 60) : i.natAbs.log2 < 1920 := by
  by_cases h0 : i.natAbs = 0
  · rw [h0]; decide
  · exact (Nat.log2_lt h0).mpr (Nat.lt_of_le_of_lt h (by decide))
theorem asc_sok {x : Str} (h : x.cps.toList.all (fun c => decide (c < 128)) = true) (hl : x.length ≤ sizeLine) : SOk x :=
  ⟨hl, strOk_all.mpr fun c hc => Nat.lt_trans (of_decide_eq_true (List.all_eq_true.mp h c hc)) (by decide)⟩
mutual
theorem gd_ok : ∀ {d : D}, gdD d = true → wt d ≤ sizeLine → mg d ≤ 10 ^ 60 → okD d = true
  | .non, _, _, _ => rfl
  | .bl _, _, _, _ => rfl
  | .int i, _, _, h => decide_eq_true (log_small h)
  | .str x, h, hw, _ => by
    simp only [gdD] at h
    simp only [wt] at hw
    obtain ⟨a, b⟩ := asc_sok h (by omega)
    simp only [okD, Bool.and_eq_true, decide_eq_true_eq]
    exact ⟨a, b⟩
  | .lst ds, h, hw, hm => by
    simp only [gdD, wt, mg, okD] at *
    exact gdAll_ok h (by omega) hm
  | .tup ds, h, hw, hm => by
    simp only [gdD, wt, mg, okD] at *
    exact gdAll_ok h (by omega) hm
  | .dct ds, h, _, _ => by simpa [gdD, okD] using h
  | .obj _ _, h, _, _ => by simp [gdD] at h
  | .dk, h, _, _ => by simp [gdD] at h
  | .cls _, h, _, _ => by simp [gdD] at h
  | .shw _, h, _, _ => by simp [gdD] at h
theorem gdAll_ok : ∀ {ds : List D}, gdAll ds = true → wtAll ds ≤ sizeLine → mgAll ds ≤ 10 ^ 60 → okAll ds = true
  | [], _, _, _ => rfl
  | d :: ds, h, hw, hm => by
    simp only [gdAll, wtAll, mgAll, okAll, Bool.and_eq_true, Nat.max_le] at *
    exact ⟨gd_ok h.1 (by omega) hm.1, gdAll_ok h.2 (by omega) hm.2⟩
end
/-- data of weight n, depth h, numbers to m -/
structure Gd (n h m : Nat) (d : D) : Prop where
  g : gdD d = true
  w : wt d ≤ n
  h : ht d ≤ h
  m : mg d ≤ m
theorem Gd.mono {n h m n' h' m' : Nat} {d : D} (a : Gd n h m d) (hn : n ≤ n') (hh : h ≤ h') (hm : m ≤ m') : Gd n' h' m' d := ⟨a.g, Nat.le_trans a.w hn, Nat.le_trans a.h hh, Nat.le_trans a.m hm⟩
theorem Gd.ok {n h m : Nat} {d : D} (a : Gd n h m d) (hn : n ≤ 10000000) (hm : m ≤ 10 ^ 60) : okD d = true := gd_ok a.g (by have := sizeLine_eq; have := a.w; omega) (Nat.le_trans a.m hm)
/-- .. of a list of data -/
structure GdL (n h m : Nat) (ds : List D) : Prop where
  g : gdAll ds = true
  w : wtAll ds ≤ n
  h : htAll ds ≤ h
  m : mgAll ds ≤ m
theorem GdL.tup {n h m : Nat} {ds : List D} (a : GdL n h m ds) : Gd (n + 10) (h + 1) m (.tup ds) := ⟨a.g, by simp only [wt]; have := a.w; omega, by simp only [ht]; have := a.h; omega, by simp only [mg]; exact a.m⟩
theorem GdL.lst {n h m : Nat} {ds : List D} (a : GdL n h m ds) : Gd (n + 10) (h + 1) m (.lst ds) := ⟨a.g, by simp only [wt]; have := a.w; omega, by simp only [ht]; have := a.h; omega, by simp only [mg]; exact a.m⟩
theorem Gd.ofTup {n h m : Nat} {ds : List D} (a : Gd n h m (.tup ds)) : GdL (n - 10) (h - 1) m ds := by
  obtain ⟨a1, a2, a3, a4⟩ := a
  simp only [gdD, wt, ht, mg] at *
  exact ⟨a1, by omega, by omega, a4⟩
theorem Gd.ofLst {n h m : Nat} {ds : List D} (a : Gd n h m (.lst ds)) : GdL (n - 10) (h - 1) m ds := by
  obtain ⟨a1, a2, a3, a4⟩ := a
  simp only [gdD, wt, ht, mg] at *
  exact ⟨a1, by omega, by omega, a4⟩
theorem GdL.nil {n h m : Nat} : GdL n h m [] := ⟨rfl, by simp [wtAll], by simp [htAll], by simp [mgAll]⟩
theorem GdL.cons {n n' h m : Nat} {d : D} {ds : List D} (a : Gd n h m d) (b : GdL n' h m ds) : GdL (n + n' + 2) h m (d :: ds) := by
  refine ⟨by simp only [gdAll, a.g, b.g, Bool.and_self], ?_, ?_, ?_⟩
  · simp only [wtAll]; have := a.w; have := b.w; omega
  · simp only [htAll]; have := a.h; have := b.h; omega
  · simp only [mgAll]; have := a.m; have := b.m; omega
theorem GdL.mono {n h m n' h' m' : Nat} {ds : List D} (a : GdL n h m ds) (hn : n ≤ n') (hh : h ≤ h') (hm : m ≤ m') : GdL n' h' m' ds := ⟨a.g, Nat.le_trans a.w hn, Nat.le_trans a.h hh, Nat.le_trans a.m hm⟩
theorem GdL.mem {n h m : Nat} {ds : List D} {d : D} (a : GdL n h m ds) (hd : d ∈ ds) : Gd (n - 2) h m d :=
  ⟨gdAll_iff.mp a.g d hd, by have := wt_mem hd; have := a.w; omega, htAll_iff.mp a.h d hd, mgAll_iff.mp a.m d hd⟩
theorem GdL.sub {n h m : Nat} {a b : List D} (l : GdL n h m b) (hs : a.Sublist b) : GdL n h m a :=
  ⟨gdAll_iff.mpr fun d hd => gdAll_iff.mp l.g d (hs.subset hd), Nat.le_trans (wtAll_sub hs) l.w, htAll_iff.mpr fun d hd => htAll_iff.mp l.h d (hs.subset hd), mgAll_iff.mpr fun d hd => mgAll_iff.mp l.m d (hs.subset hd)⟩
theorem GdL.rev {n h m : Nat} {a : List D} (l : GdL n h m a) : GdL n h m a.reverse :=
  ⟨gdAll_iff.mpr fun d hd => gdAll_iff.mp l.g d (by simpa using hd), by rw [wtAll_rev]; exact l.w, htAll_iff.mpr fun d hd => htAll_iff.mp l.h d (by simpa using hd), mgAll_iff.mpr fun d hd => mgAll_iff.mp l.m d (by simpa using hd)⟩
theorem GdL.app {n n' h m : Nat} {a b : List D} (l : GdL n h m a) (r : GdL n' h m b) : GdL (n + n') h m (a ++ b) := by
  refine ⟨gdAll_iff.mpr fun d hd => ?_, by rw [wtAll_app]; have := l.w; have := r.w; omega, htAll_iff.mpr fun d hd => ?_, mgAll_iff.mpr fun d hd => ?_⟩
  · exact (List.mem_append.mp hd).elim (gdAll_iff.mp l.g d) (gdAll_iff.mp r.g d)
  · exact (List.mem_append.mp hd).elim (htAll_iff.mp l.h d) (htAll_iff.mp r.h d)
  · exact (List.mem_append.mp hd).elim (mgAll_iff.mp l.m d) (mgAll_iff.mp r.m d)
theorem GdL.cut {n h m : Nat} {a : List D} (l : GdL n h m a) (lo hi : Option Int) : GdL n h m (cutL a lo hi) := l.sub ((List.take_sublist _ _).trans (List.drop_sublist _ _))
theorem GdL.len {n h m : Nat} {a : List D} (l : GdL n h m a) : 2 * a.length ≤ n := Nat.le_trans (wtAll_len a) l.w
theorem Gd.non {n h m : Nat} (hn : 10 ≤ n) : Gd n h m .non := ⟨rfl, by simp only [wt]; omega, by simp [ht], by simp [mg]⟩
theorem Gd.bl {n h m : Nat} {b : Bool} (hn : 10 ≤ n) : Gd n h m (.bl b) := ⟨rfl, by simp only [wt]; omega, by simp [ht], by simp [mg]⟩
theorem Gd.int {n h m : Nat} {i : Int} (hn : 2000 ≤ n) (hi : i.natAbs ≤ m) : Gd n h m (.int i) := ⟨rfl, by simp only [wt]; omega, by simp [ht], by simpa [mg] using hi⟩
theorem Gd.str {n h m : Nat} {x : Str} (hx : x.cps.toList.all (fun c => decide (c < 128)) = true) (hn : 10 * x.length + 10 ≤ n) : Gd n h m (.str x) := ⟨hx, by simp only [wt]; omega, by simp [ht], by simp [mg]⟩
theorem Gd.dct {n h m : Nat} (hn : 10 ≤ n) (hh : 1 ≤ h) : Gd n h m (.dct []) := ⟨rfl, by simp only [wt]; omega, by simp only [ht]; omega, by simp [mg]⟩
theorem Gd.asc {n h m : Nat} {x : Str} (a : Gd n h m (.str x)) : (∀ c ∈ x.cps.toList, c < 128) ∧ 10 * x.length + 10 ≤ n := by
  obtain ⟨a1, a2, _, _⟩ := a
  simp only [gdD, wt] at a1 a2
  exact ⟨fun c hc => of_decide_eq_true (List.all_eq_true.mp a1 c hc), a2⟩
theorem Gd.plain {n h m : Nat} {d : D} (a : Gd n h m d) : plain d = true := by
  obtain ⟨a1, _, _, _⟩ := a
  cases d <;> first | rfl | simp [gdD] at a1
end DL
set_option Elab.async false
set_option linter.all false
set_option maxRecDepth 100000
set_option maxHeartbeats 4000000
/-! one step each, for long bodies -/
namespace DL
open PySem PySem.Spec L2
open PySem.W (Frag)
section
variable {env env1 : List En} {k k1 k2 k' : DkO} {f h q : Sm D} {p p' : Sm Bool} {l lk its : Sm (List D)} {m : Sm (List En)} {d x y r : D} {s t : Ss} {ds es : List D}
theorem seq_nx (e : s env k = .nx env1 k1) : sSeq s t env k = t env1 k1 := by rw [sSeq_eq, e]
theorem seq_rt (e : s env k = .rt d k1) : sSeq s t env k = .rt d k1 := by rw [sSeq_eq, e]
theorem ifs_t (e : p env k = .ok true k1) : sIfS p s t env k = s env k1 := by rw [sIfS_eq, e]; rfl
theorem ifs_f (e : p env k = .ok false k1) : sIfS p s t env k = t env k1 := by rw [sIfS_eq, e]; rfl
theorem set_run {i : Nat} (e : f env k = .ok d k1) : sSet i f env k = .nx (env.set i (.d d)) k1 := by rw [sSet_eq, e]; rfl
theorem setN_run {i : Nat} (e : l env k = .ok ds k1) : sSetN i l env k = .nx (env.set i (.own ds)) k1 := by rw [sSetN_eq, e]; rfl
theorem ret_run (e : f env k = .ok d k1) : sRet f env k = .rt d k1 := by rw [sRet_eq, e]; rfl
theorem expr_run (e : f env k = .ok d k1) : sExpr f env k = .nx env k1 := by rw [sExpr_eq, e]; rfl
theorem for_run {t : Tgt} (e : its env k = .ok ds k1) : sFor t its s env k = forM t s ds env k1 := by rw [sFor_eq, e]; rfl
theorem apnd_run {i : Nat} (h : env[i]? = some (.own ds)) (e : f env k = .ok d k1) (hl : ds.length ≤ 1000) : sApnd i f env k = .nx (env.set i (.own (ds ++ [d]))) k1 := by
  rw [sApnd_eq, h]
  show outS (f env k) env _ = _
  rw [e]
  show (if ds.length < sizeLine then _ else _) = _
  rw [if_pos (small1000 hl)]
theorem frzS_run {i : Nat} {e : En} (h : env[i]? = some e) : sFrzS i s env k = s (env.set i (frzE e)) k := by rw [sFrzS_eq, h]
theorem par2_run {i j : Nat} {e1 e2 : En} (a : m env k = .ok [e1, e2] k1) : sPar [i, j] m env k = .nx ((env.set i e1).set j e2) k1 := by
  rw [sPar_eq, a]; rfl
theorem sPar_run3 {i j m' : Nat} {e1 e2 e3 : En} (a : m env k = .ok [e1, e2, e3] k1) : sPar [i, j, m'] m env k = .nx (((env.set i e1).set j e2).set m' e3) k1 := by
  rw [sPar_eq, a]; rfl
theorem mD_run {rs : List En} (a : f env k = .ok d k1) (b : m env k1 = .ok rs k2) : mD f m env k = .ok (.d d :: rs) k2 := by
  rw [mD_eq, a, bind_ok, b, bind_ok]
theorem mN_run {rs : List En} (a : l env k = .ok ds k1) (b : m env k1 = .ok rs k2) : mN l m env k = .ok (.own ds :: rs) k2 := by
  rw [mN_eq, a, bind_ok, b, bind_ok]
theorem v_run {i : Nat} (h : env[i]? = some (.d x)) : sV i env k = .ok x k := by rw [sV_eq, h]
theorem lc_run (a : f env k = .ok d k1) (b : l env k1 = .ok ds k2) : lCons f l env k = .ok (d :: ds) k2 := by rw [lCons_eq, a, bind_ok, b, bind_ok]
theorem l1_run (a : f env k = .ok d k1) : lCons f lNil env k = .ok [d] k1 := lc_run a rfl
theorem l2_run (a : f env k = .ok x k1) (b : h env k1 = .ok y k2) : lCons f (lCons h lNil) env k = .ok [x, y] k2 := lc_run a (l1_run b)
theorem l3_run {k3 : DkO} (a : f env k = .ok x k1) (b : h env k1 = .ok y k2) (c : q env k2 = .ok r k3) : lCons f (lCons h (lCons q lNil)) env k = .ok [x, y, r] k3 := lc_run a (l2_run b c)
theorem call_run {n : Nat} {fn : Fn} (a : l env k = .ok ds k1) (hn : ds.length = n) (c : fn ds k1 = .ok r k2) : sCall n fn l env k = .ok r k2 := by
  rw [sCall_eq, a, bind_ok, if_pos hn, c]
theorem app_run {op : List D → DkO → Out D} (a : l env k = .ok ds k1) (c : op ds k1 = .ok r k2) : sApp op l env k = .ok r k2 := by rw [sApp_eq, a, bind_ok, c]
theorem pure_run {op : List D → Option D} (h : op ds = some r) : pureO op ds k = .ok r k := by unfold pureO; rw [h]; rfl
theorem op_run {op : D → D → Option D} (a : f env k = .ok x k1) (b : h env k1 = .ok y k2) (c : op x y = some r) : sOp op f h env k = .ok r k2 := by
  rw [sOp_eq, a, bind_ok, b, bind_ok, c]; rfl
theorem opO_run {op : D → D → DkO → Out D} {k3 : DkO} (a : f env k = .ok x k1) (b : h env k1 = .ok y k2) (c : op x y k2 = .ok r k3) : sOpO op f h env k = .ok r k3 := by
  rw [sOpO_eq, a, bind_ok, b, bind_ok, c]
theorem ix_run (a : f env k = .ok x k1) (b : h env k1 = .ok y k2) (c : ixD x y = some r) : sIx f h env k = .ok r k2 := by
  rw [sIx_eq, a, bind_ok, b, bind_ok, c]; rfl
theorem sl_run {lo hi : Sm (Option Int)} {k3 : DkO} {u v : Option Int} (a : f env k = .ok x k1) (b : lo env k1 = .ok u k2) (b2 : hi env k2 = .ok v k3) (c : slD x u v = some r) : sSl f lo hi env k = .ok r k3 := by
  rw [sSl_eq, a, bind_ok, b, bind_ok, b2, bind_ok, c]; rfl
theorem oSome_run {i : Int} (a : f env k = .ok (.int i) k1) : oSome f env k = .ok (some i) k1 := by rw [oSome_eq, a]; rfl
theorem oNone_run : oNone env k = .ok none k := rfl
theorem b_run {b : Bool} (a : f env k = .ok (.bl b) k1) : sB f env k = .ok b k1 := by rw [sB_eq, a]; rfl
theorem tru_run {b : Bool} (a : f env k = .ok d k1) (e : truD d = some b) : sTru f env k = .ok b k1 := by rw [sTru_eq, a, bind_ok, e]; rfl
theorem notB_run {b : Bool} (a : p env k = .ok b k1) : sNotB p env k = .ok (!b) k1 := by rw [sNotB_eq, a]; rfl
theorem andB_t (a : p env k = .ok true k1) : sAndB p p' env k = p' env k1 := by rw [sAndB_eq, a]; rfl
theorem andB_f (a : p env k = .ok false k1) : sAndB p p' env k = .ok false k1 := by rw [sAndB_eq, a]; rfl
theorem orB_t (a : p env k = .ok true k1) : sOrB p p' env k = .ok true k1 := by rw [sOrB_eq, a]; rfl
theorem orB_f (a : p env k = .ok false k1) : sOrB p p' env k = p' env k1 := by rw [sOrB_eq, a]; rfl
theorem sif_run {b : Bool} (a : p env k = .ok b k1) : sIf p f h env k = if b = true then f env k1 else h env k1 := by rw [sIf_eq, a]; rfl
theorem isi_run {T : String} (a : f env k = .ok d k1) (hp : plain d = true) : sIsi T f env k = .ok (.bl (isTy T d)) k1 := by rw [sIsi_eq, a, bind_ok]; cases d <;> first | rfl | cases hp
theorem lst_run (a : l env k = .ok ds k1) (hl : ds.length ≤ 1000) : sLst l env k = .ok (.lst ds) k1 := by rw [sLst_eq, a, bind_ok, if_pos (Nat.le_of_lt (small1000 hl))]
theorem tup_run (a : l env k = .ok ds k1) (hl : ds.length ≤ 1000) : sTup l env k = .ok (.tup ds) k1 := by rw [sTup_eq, a, bind_ok, if_pos (Nat.le_of_lt (small1000 hl))]
theorem new_run (a : l env k = .ok ds k1) (hl : ds.length ≤ 1000) : sNew l env k = .ok ds k1 := by rw [sNew_eq, a, bind_ok, if_pos (Nat.le_of_lt (small1000 hl))]
theorem m1_run {op : Str → List D → Option D} {z : Str} (hf : f env k = .ok (.str z) k1) (hh : h env k1 = .ok d k2) (ho : op z [d] = some r) : sM1 op f h env k = .ok r k2 := by
  rw [sM1_eq, hf, bind_ok]
  show (h env k1).bind (fun e k2 => Out.of (op z [e]) k2) = _
  rw [hh, bind_ok, ho]; rfl
theorem m0_run {op : Str → List D → Option D} {z : Str} (hf : f env k = .ok (.str z) k1) (ho : op z [] = some r) : sM0 op f env k = .ok r k1 := by
  rw [sM0_eq, hf, bind_ok]
  show Out.of (op z []) k1 = _
  rw [ho]; rfl
theorem rev_run (a : f env k = .ok x k1) (c : revD x = some r) : sRev f env k = .ok r k1 := by rw [sRev_eq, a, bind_ok, c]; rfl
theorem frz_run (a : l env k = .ok ds k1) : sFrz l env k = .ok (.lst ds) k1 := by rw [sFrz_eq, a, bind_ok]
theorem iVal_run (a : f env k = .ok x k1) (c : itemsOf x = some ds) : iVal f env k = .ok ds k1 := by rw [iVal_eq, a, bind_ok, c]; rfl
theorem comp_run {t : Tgt} {vs : List Nat} {rs : List D} (a : its env k = .ok ds k1) (hc : compM t p f (wipeE env vs) ds [] k1 = .ok rs k2) : sFrz (sComp t vs p f its) env k = .ok (.lst rs) k2 := by
  rw [sFrz_eq, sComp_eq, a, bind_ok, hc, bind_ok]
theorem make_run {cn : String} {n : Nat} {fn : FnI} {fs : List (Str × D)} (a : l env k = .ok ds k1) (hn : ds.length = n) (c : fn ds k1 = .ok fs k2) : sOfC cn (sC (.cls cn)) (sMake cn n fn l) env k = .ok (.obj cn fs) k2 := by
  rw [sOfC_eq, sC_eq, bind_ok]
  show (if cn = cn then sMake cn n fn l env k else .bad) = _
  rw [if_pos rfl, sMake_eq, a, bind_ok, if_pos hn, c, bind_ok]
/-- a body that returns -/
def Rt (o : OutS) (Q : D → Dk → Prop) : Prop := ∃ d k', o = .rt d (some k') ∧ Q d k'
section
variable {Q : D → Dk → Prop} {κ : Dk}
theorem Rt.seq (e : s env k = .nx env1 k1) (h : Rt (t env1 k1) Q) : Rt (sSeq s t env k) Q := by rw [seq_nx e]; exact h
theorem Rt.seqRt (h : Rt (s env k) Q) : Rt (sSeq s t env k) Q := by
  obtain ⟨d, k', e, q⟩ := h
  exact ⟨d, k', seq_rt e, q⟩
theorem Rt.ifT (e : p env k = .ok true k1) (h : Rt (s env k1) Q) : Rt (sIfS p s t env k) Q := by rw [ifs_t e]; exact h
theorem Rt.ifF (e : p env k = .ok false k1) (h : Rt (t env k1) Q) : Rt (sIfS p s t env k) Q := by rw [ifs_f e]; exact h
theorem Rt.ret (e : f env k = .ok d (some κ)) (q : Q d κ) : Rt (sRet f env k) Q := ⟨d, κ, ret_run e, q⟩
theorem Rt.frz {i : Nat} {e : En} (h : env[i]? = some e) (r : Rt (s (env.set i (frzE e)) k) Q) : Rt (sFrzS i s env k) Q := by rw [frzS_run h]; exact r
theorem Rt.fn {n : Nat} {ds : List D} (h : Rt (s (entryE n ds) k) Q) : ∃ d k', fnD n s ds k = .ok d (some k') ∧ Q d k' := by
  obtain ⟨d, k', e, q⟩ := h
  refine ⟨d, k', ?_, q⟩
  show endD (s (entryE n ds) k) = _
  rw [e]; rfl
end
/-! ### numbers -/
theorem big62_ok {w : Nat} (h : w ≤ 1000) : big62 (w : Nat) = true := by
  unfold big62
  simp only [Bool.and_eq_true, decide_eq_true_eq]
  omega
theorem range_map {w : Nat} : rangeL 0 (w : Nat) = (List.range w).map fun (i : Nat) => .int (i : Nat) := by unfold rangeL; simp
theorem range1_run {w : Nat} (a : f env k = .ok (.int (w : Nat)) k1) (hw : w ≤ 1000) : iRange1 f env k = .ok ((List.range w).map fun (i : Nat) => .int (i : Nat)) k1 := by
  rw [iRange1_eq, a, bind_ok]
  show (if big62 (w : Int) = true then Out.ok (rangeL 0 w) k1 else .bad) = _
  rw [if_pos (big62_ok hw), range_map]
theorem draw_of {FD : Fn} (hD : DrawOk FD) {b : Int} {k : Dk} {n : Nat} (h0 : env[0]? = some (.d .dk)) (hb : bOk b = true) (hk : Bud k (n + 1)) :
    ∃ (r : Nat) (k' : Dk), sCall 2 FD (lCons (sV 0) (lCons (sC (.int b)) lNil)) env (some k) = .ok (.int (r : Nat)) (some k') ∧ (r : Int) < b ∧ Bud k' n := by
  obtain ⟨r, k', e, r0, r1, hb'⟩ := hD b k n hb hk
  obtain ⟨i, rfl⟩ := Int.eq_ofNat_of_zero_le r0
  exact ⟨i, k', call_run (l2_run (v_run h0) rfl) rfl e, r1, hb'⟩
theorem pick_of {FP : Fn} (hP : PickOk FP) {k : Dk} {n : Nat} {xs : List D} (h0 : env[0]? = some (.d .dk)) (a : h env (some k) = .ok (.lst xs) (some k)) (hx : 0 < xs.length) (hx2 : xs.length ≤ 1000) (hk : Bud k (n + 1)) :
    ∃ (d : D) (k' : Dk), sCall 2 FP (lCons (sV 0) (lCons h lNil)) env (some k) = .ok d (some k') ∧ d ∈ xs ∧ Bud k' n := by
  obtain ⟨d, k', e, hm, hb'⟩ := hP.lst xs k n hx (by omega) hk
  exact ⟨d, k', call_run (l2_run (v_run h0) a) rfl e, hm, hb'⟩
end
/-! ### equals -/
theorem eq_str {x y : Str} : eqD (.str x) (.str y) = some (.bl (x == y)) := by
  unfold eqD orD nilT eqvD; simp [D.py, flatPy, PyData.hasDict, PyData.depth, PyData.eqv]
theorem ne_str {x y : Str} : neD (.str x) (.str y) = some (.bl (!(x == y))) := by
  unfold neD orD eqvD; simp [D.py, flatPy, PyData.hasDict, PyData.depth, PyData.eqv]
theorem eq_int {i j : Int} : eqD (.int i) (.int j) = some (.bl (i == j)) := by
  unfold eqD orD nilT eqvD; simp [D.py, flatPy, PyData.hasDict, PyData.depth, PyData.eqv]
theorem ne_int {i j : Int} : neD (.int i) (.int j) = some (.bl (!(i == j))) := by
  unfold neD orD eqvD; simp [D.py, flatPy, PyData.hasDict, PyData.depth, PyData.eqv]
theorem eq_bl {i j : Bool} : eqD (.bl i) (.bl j) = some (.bl (i == j)) := by
  unfold eqD orD nilT eqvD; simp [D.py, flatPy, PyData.hasDict, PyData.depth, PyData.eqv]
theorem ne_bl {i j : Bool} : neD (.bl i) (.bl j) = some (.bl (!(i == j))) := by
  unfold neD orD eqvD; simp [D.py, flatPy, PyData.hasDict, PyData.depth, PyData.eqv]
theorem gt_int {i j : Int} : gtD (.int i) (.int j) = some (.bl (decide (j < i))) := by
  unfold gtD intOp; rfl
theorem lt_int {i j : Int} : ltD (.int i) (.int j) = some (.bl (decide (i < j))) := by
  unfold ltD orD intOp; rfl
theorem plus_int {i j : Int} : plusD (.int i) (.int j) = some (.int (i + j)) := rfl
theorem minus_int {i j : Int} : minusD (.int i) (.int j) = some (.int (i - j)) := by
  unfold minusD orD subD intOp; rfl
end DL
set_option Elab.async false
set_option linter.all false
set_option maxRecDepth 100000
set_option maxHeartbeats 4000000
namespace PySem
namespace XBadCloth
open PySem.W PySem.Calls PyProof.Rows PySem.HandSPX PySem.Lw
def iA (p1 p2 : Pos) : Arguments := { posonlyargs := [], args := [{ arg := "self", annotation := none, pos := p1 }, { arg := "part", annotation := none, pos := p2 }], vararg := none, kwonlyargs := [], kw_defaults := [], kwarg := none, defaults := [] }
def iB (q1 q2 q3 q4 : Pos) : List Stmt := [.Assign [.Attribute (.Name "self" q1) "part" q2] (.Name "part" q3) q4]
def iS : Scope := { kind := .function, names := [(PySem.Str.ofString "self", .local), (PySem.Str.ofString "part", .local)], isGenerator := false, isCoroutine := false, more := [] }
/-- what the written part says of the class at C and of its __init__ at fI -/
structure Txt (K : Frag) (mg : Str → Option Value) (C fI : Addr) : Prop where
  gC : mg "BadCloth" = some (.ref C)
  ini : excInitIn K C exTail "Exception.__new__" = true
  ovr : excOver K C exTail = true
  sa : findIn K (.ref C) "__setattr__" = some (some (.builtin "object.__setattr__"))
  ga : findIn K (.ref C) "__getattribute__" = some (some (.builtin "BaseException.__getattribute__"))
  gg : findIn K (.ref C) "__getattr__" = some none
  noN : findIn K (.ref C) "part" = some none
  tkr : takerIn K C "part" = some none
  iC : findIn K (.ref C) "__init__" = some (some (.ref fI))
  tI : typeIn K (.ref fI) = some (.type "function")
  kC : keepIn K (.ref C) = true
  exC : subIn K (.ref C) (.type "BaseException") = some true
  tyC : typeIn K (.ref C) = some (.type "type")
  hdC : hasDictIn K C = true
  fn : ∃ (oc : Value) (od : Option Addr) (doc pm : Value) (an : Option Addr) (cdv ct : Value) (osl : Array (Option Value)) (p1 p2 q1 q2 q3 q4 : Pos),
    K.lookup fI = some ⟨oc, od, .func (fnOf "__init__" "BadCloth.__init__" (iA p1 p2) (iB q1 q2 q3 q4) iS .none .none doc pm an cdv ct), osl⟩ ∧ codeIn K cdv "BadCloth.__init__" = true
section
variable {prog : Program} {w : World} {A : Around} {E : Value → Shared → Prop} {R : Result → Shared → Prop} {s : Shared} {K : Frag} {mg : Str → Option Value} {C fI : Addr}
theorem init_ok (T : Txt K mg C fI) {x t0 : Addr} {v : Value} (X : K.In s.heap) (hlim : s.heap.NoLimit) (hx : s.heap.get? x = some (excO C t0)) (hroom : A.depth < recursionLimit)
    (hq : ∀ h' tk dx, InitEnd "part" s.heap h' x C dx t0 v → R (.ok (.ret .none)) { s with heap := h', toks := tk }) :
    codeAny (model prog w) A (.call (.ref fI) ⟨[.ref x, v], []⟩) R s := by
  obtain ⟨oc, od, doc, pm, an, cdv, ct, osl, p1, p2, q1, q2, q3, q4, ho, hcd⟩ := T.fn
  refine Att.call_fn (binds := [("self", .ref x), ("part", v)]) X hlim ho hcd hroom (BindsTo.of_eq (by first | rfl | with_unfolding_all rfl)) (by first | rfl | decide | with_unfolding_all rfl) (fun s1 IC => ?_) rfl rfl rfl
  obtain ⟨h1, tk1, rfl⟩ := IC.toInCall.same
  have k : ∀ b o, s.heap.get? b = some o → h1.get? b = some o := IC.toInCall.keep
  have hn := IC.toInCall.ns
  have X1 : K.In h1 := X.keeps k
  have hx1 := k _ _ hx
  show wpAny _ _ (execs _ _) _ _ _
  refine wpAny_execs_cons (plainObj_wpAny_Assign_Attribute ?_)
  refine ldC (v := v) hn (by first | rfl | with_unfolding_all rfl | kernel_rfl) (ldC (v := .ref x) hn (by first | rfl | with_unfolding_all rfl | kernel_rfl) ?_)
  refine set_plain X1 (ox := excO C t0) (od := none) ⟨hx1, rfl, rfl, trivial⟩ T.sa ?_
  refine store_first X1 T.ovr T.hdC T.tkr hx1 (fun h3 tk3 dx k3 dn dne hx3 hn3 => ?_)
  show wpAny _ _ (execs _ _) _ _ _
  have z : s.heap.objs.size < h1.objs.size := hn.lt
  exact wpAny_execs_nil (hq h3 tk3 dx ⟨fun b o hb e => k3 b o hb (k b o e), hx3, Nat.le_of_lt (Nat.lt_of_lt_of_le z dn), dne, hn3⟩)
theorem made_ok (T : Txt K mg C fI) {v : Value} (X : K.In s.heap) (hlim : s.heap.NoLimit) (hroom : A.depth + 1 < recursionLimit)
    (hq : ∀ h' tk e d, OwnMade "part" s.heap h' e C d v → R (.ok (.ret (.ref e))) { s with heap := h', toks := tk }) :
    codeAny (model prog w) A (.call (.ref C) ⟨[v], []⟩) R s := by
  obtain ⟨nm, N, qn, bs, bm, hdct, sn, sub, ab, col, dd, k0, k1, k2, k3, k5, hC, hbm⟩ := excInit_of X T.ini
  obtain ⟨hp, g, dr, tk, os⟩ := s
  refine call_own PySem.F.excBase_Exception hbm hC (looks_findIn X T.iC) (fun self => bind_fn X self T.tI) (one_size v) ?_
  have k : ∀ b o, hp.get? b = some o → ((hp.push (kdv_tup [v])).push (excO C hp.objs.size)).get? b = some o := fun b o e => Heap.get?_push_of_some _ (Heap.get?_push_of_some _ e)
  have hget : ((hp.push (kdv_tup [v])).push (excO C hp.objs.size)).get? (hp.objs.size + 1) = some (excO C hp.objs.size) := by heap_get
  refine init_ok (s := ⟨(hp.push (kdv_tup [v])).push (excO C hp.objs.size), g, dr, tk, os⟩) T (X.keeps k) (hlim.keeps k) hget ?_ fun h' tk' dx I => ?_
  · show A.depth + 1 < recursionLimit
    exact hroom
  · exact ⟨rfl, hq h' tk' (hp.objs.size + 1) dx (OwnMade.of I k)⟩
end
end XBadCloth
end PySem
namespace L2
open PySem PySem.Spec PyProof.Rows
section
variable {X : Cx} {C fI : Addr}
theorem pmk_BadCloth {a : Expr} {ta : TA} {p pos : Pos} {k : Nat} (T : PySem.XBadCloth.Txt X.K X.mg C fI) (hr : Room k X.A) (ha : PA X [a] ta) (hg : Gl X "BadCloth" := by rfl)
    (he : starEach (a :: []) X.env = (false, eval a X.env) :: starEach [] X.env := by rfl) (hpl : (backTo pos (starEach [] X.env)).any (·.1) = false := by rfl) :
    PMk X (.Call (.Name "BadCloth" p) [a] [] pos) (tMk1 "part" C ta) := by
  intro pins s σ H Q I h
  refine wpAny_Call_Name_kw (ld_glob I hg T.gC ?_)
  refine PySem.W.callWith_K (h₀ := X.base) I.ok.mod.kin T.kC (thn (ha.run pos pins s σ H _ I h) fun us s1 hh => ?_) he hpl
  obtain ⟨vs, H1, I1, r1, v, ev, q1⟩ := hh
  subst ev
  refine ⟨I1.kIn, ?_⟩
  cases r1 with
  | cons rv rn =>
    rename_i v' us'
    cases rn
    show wpAny _ _ (call (.ref C) [v']) _ _ _
    have hlim := I1.nolimit
    obtain ⟨hp, g, dr, tk, os⟩ := s1
    refine wpAny_call (PySem.XBadCloth.made_ok T I1.kIn hlim (by have := hr.dp; omega) fun h' tk' e d M => ?_)
    exact mk1_of I1 (raises_own T.exC T.tyC) rv M q1
theorem ps_raiseBadCloth {a : Expr} {ta : TA} {W : WX} {p pos pos2 : Pos} {k : Nat} (hc : X.calm = true) (T : PySem.XBadCloth.Txt X.K X.mg C fI) (hr : Room k X.A) (tk : Takes X W) (ha : PA X [a] ta) (hg : Gl X "BadCloth" := by rfl)
    (he : starEach (a :: []) X.env = (false, eval a X.env) :: starEach [] X.env := by rfl) (hpl : (backTo pos (starEach [] X.env)).any (·.1) = false := by rfl) :
    PS X (.Raise (some (.Call (.Name "BadCloth" p) [a] [] pos)) none pos2) (tRaise1 "part" C W ta) := ps_raise hc tk (pmk_BadCloth T hr ha hg he hpl)
theorem xfc_BadCloth {K : PySem.W.Frag} {mg : Str → Option Value} (T : PySem.XBadCloth.Txt K mg C fI) : XfC K C := ⟨T.ga, T.gg, T.exC, T.hdC⟩
end
end L2
set_option Elab.async false
set_option linter.all false
set_option maxRecDepth 100000
set_option maxHeartbeats 4000000
namespace C03
open PySem PySem.Spec L2 DL
open PySem.W (Frag)
def top (i : Nat) : Stmt := PySem.Challenge.pw_loomhold_k03_cloths_of_any_value_and_tex.main.body.getD i (.Pass ⟨0, 0, 0, 0⟩)
abbrev st_is_string_over : Stmt := top 5
abbrev st_first_uneven : Stmt := top 6
abbrev st_lines_of : Stmt := top 8
abbrev st__law_deck : Stmt := top 13
abbrev st__law_draw : Stmt := top 14
abbrev st__law_pick : Stmt := top 15
abbrev st__law_cloth : Stmt := top 16
abbrev st__law_odd : Stmt := top 17
abbrev st__law_bent : Stmt := top 18
abbrev st__law_page_bent : Stmt := top 19
abbrev st__law_is_row : Stmt := top 20
abbrev st__law_bad : Stmt := top 21
abbrev st__law_built : Stmt := top 22
abbrev st__law_right : Stmt := top 23
abbrev st__law_heard : Stmt := top 24
abbrev st__law_page_right : Stmt := top 25
abbrev st__law_equals_right : Stmt := top 26
abbrev st_law : Stmt := top 27
abbrev st_Cloth___init__ : Stmt := inClass (top 11) 0
abbrev st_Cloth___len__ : Stmt := inClass (top 11) 1
abbrev st_Cloth___eq__ : Stmt := inClass (top 11) 2
abbrev st_Cloth___str__ : Stmt := inClass (top 11) 3
abbrev st_Cloth_read : Stmt := inClass (top 11) 4
theorem sc_is_string_over : FnScope ["thing", "signs", "sign"] ["thing", "signs"] (defScope st_is_string_over) := ⟨rfl, rfl, rfl, by decide +kernel, rfl, by decide +kernel, by decide +kernel⟩
theorem sc_first_uneven : FnScope ["rows", "signs", "number", "row"] ["rows", "signs"] (defScope st_first_uneven) := ⟨rfl, rfl, rfl, by decide +kernel, rfl, by decide +kernel, by decide +kernel⟩
theorem sc_lines_of : FnScope ["text"] ["text"] (defScope st_lines_of) := ⟨rfl, rfl, rfl, by decide +kernel, rfl, by decide +kernel, by decide +kernel⟩
theorem sc__law_deck : FnScope ["_law_script", "_law_cells", "_law_mixed", "_law_cell"] ["_law_script"] (defScope st__law_deck) := ⟨rfl, rfl, rfl, by decide +kernel, rfl, by decide +kernel, by decide +kernel⟩
theorem sc__law_draw : FnScope ["_law_deck_here", "_law_below", "_law_turn_now", "_law_figure", "_law_cell"] ["_law_deck_here", "_law_below"] (defScope st__law_draw) := ⟨rfl, rfl, rfl, by decide +kernel, rfl, by decide +kernel, by decide +kernel⟩
theorem sc__law_pick : FnScope ["_law_deck_here", "_law_some"] ["_law_deck_here", "_law_some"] (defScope st__law_pick) := ⟨rfl, rfl, rfl, by decide +kernel, rfl, by decide +kernel, by decide +kernel⟩
theorem sc__law_cloth : FnScope ["_law_deck_here", "_law_many", "_law_wide", "_law_way", "_law_top", "_law_k", "_law_rows", "_law_own", "_law_is_upper", "_law_go", "_law_sign", "_law_row"] ["_law_deck_here"] (defScope st__law_cloth) := ⟨rfl, rfl, rfl, by decide +kernel, rfl, by decide +kernel, by decide +kernel⟩
theorem sc__law_odd : FnScope ["_law_deck_here", "_law_it", "_law_some"] ["_law_deck_here", "_law_it"] (defScope st__law_odd) := ⟨rfl, rfl, rfl, by decide +kernel, rfl, by decide +kernel, by decide +kernel⟩
theorem sc__law_bent : FnScope ["_law_deck_here", "_law_it", "_law_deep", "_law_at"] ["_law_deck_here", "_law_it", "_law_deep"] (defScope st__law_bent) := ⟨rfl, rfl, rfl, by decide +kernel, rfl, by decide +kernel, by decide +kernel⟩
theorem sc__law_page_bent : FnScope ["_law_deck_here", "_law_page", "_law_some", "_law_way", "_law_at", "_law_sign", "_law_lines", "_law_spot", "_law_words", "_law_where"] ["_law_deck_here", "_law_page", "_law_some"] (defScope st__law_page_bent) := ⟨rfl, rfl, rfl, by decide +kernel, rfl, by decide +kernel, by decide +kernel⟩
theorem sc__law_is_row : FnScope ["_law_it", "_law_sign"] ["_law_it"] (defScope st__law_is_row) := ⟨rfl, rfl, rfl, by decide +kernel, rfl, by decide +kernel, by decide +kernel⟩
theorem sc__law_bad : FnScope ["_law_it", "_law_odd_here", "_law_k", "_law_row"] ["_law_it"] (defScope st__law_bad) := ⟨rfl, rfl, rfl, by decide +kernel, rfl, by decide +kernel, by decide +kernel⟩
theorem sc__law_built : FnScope ["_law_it", "_law_is_named", "_law_found", "_law_code", "e"] ["_law_it", "_law_is_named"] (defScope st__law_built) := ⟨rfl, rfl, rfl, by decide +kernel, rfl, by decide +kernel, by decide +kernel⟩
theorem sc__law_right : FnScope ["_law_it", "_law_wrong", "_law_was", "_law_due"] ["_law_it"] (defScope st__law_right) := ⟨rfl, rfl, rfl, by decide +kernel, rfl, by decide +kernel, by decide +kernel⟩
theorem sc__law_heard : FnScope ["_law_it", "_law_is_named", "_law_found", "e"] ["_law_it", "_law_is_named"] (defScope st__law_heard) := ⟨rfl, rfl, rfl, by decide +kernel, rfl, by decide +kernel, by decide +kernel⟩
theorem sc__law_page_right : FnScope ["_law_it", "_law_was", "_law_due", "_law_lines", "_law_odd_here", "_law_k", "_law_row"] ["_law_it"] (defScope st__law_page_right) := ⟨rfl, rfl, rfl, by decide +kernel, rfl, by decide +kernel, by decide +kernel⟩
theorem sc__law_equals_right : FnScope ["_law_deck_here", "_law_some", "_law_near", "_law_other", "_law_at", "_law_k", "_law_row", "_law_it"] ["_law_deck_here", "_law_some"] (defScope st__law_equals_right) := ⟨rfl, rfl, rfl, by decide +kernel, rfl, by decide +kernel, by decide +kernel⟩
theorem sc_law : FnScope ["_law_script", "_law_deck_here", "_law_go", "_law_some", "_law_row", "_law_turn", "_law_bent_here", "_law_page", "_law_odd_here", "_law_it"] ["_law_script"] (defScope st_law) := ⟨rfl, rfl, rfl, by decide +kernel, rfl, by decide +kernel, by decide +kernel⟩
theorem sc_Cloth___init__ : FnScope ["self", "picks", "number"] ["self", "picks"] (defScope st_Cloth___init__) := ⟨rfl, rfl, rfl, by decide +kernel, rfl, by decide +kernel, by decide +kernel⟩
theorem sc_Cloth___len__ : FnScope ["self"] ["self"] (defScope st_Cloth___len__) := ⟨rfl, rfl, rfl, by decide +kernel, rfl, by decide +kernel, by decide +kernel⟩
theorem sc_Cloth___eq__ : FnScope ["self", "other"] ["self", "other"] (defScope st_Cloth___eq__) := ⟨rfl, rfl, rfl, by decide +kernel, rfl, by decide +kernel, by decide +kernel⟩
theorem sc_Cloth___str__ : FnScope ["self"] ["self"] (defScope st_Cloth___str__) := ⟨rfl, rfl, rfl, by decide +kernel, rfl, by decide +kernel, by decide +kernel⟩
theorem sc_Cloth_read : FnScope ["cls", "text", "lines", "number"] ["cls", "text"] (defScope st_Cloth_read) := ⟨rfl, rfl, rfl, by decide +kernel, rfl, by decide +kernel, by decide +kernel⟩
structure Adr where
  f_is_string_over : Addr
  fd_is_string_over : FuncData
  f_first_uneven : Addr
  fd_first_uneven : FuncData
  f_lines_of : Addr
  fd_lines_of : FuncData
  f__law_deck : Addr
  fd__law_deck : FuncData
  f__law_draw : Addr
  fd__law_draw : FuncData
  f__law_pick : Addr
  fd__law_pick : FuncData
  f__law_cloth : Addr
  fd__law_cloth : FuncData
  f__law_odd : Addr
  fd__law_odd : FuncData
  f__law_bent : Addr
  fd__law_bent : FuncData
  f__law_page_bent : Addr
  fd__law_page_bent : FuncData
  f__law_is_row : Addr
  fd__law_is_row : FuncData
  f__law_bad : Addr
  fd__law_bad : FuncData
  f__law_built : Addr
  fd__law_built : FuncData
  f__law_right : Addr
  fd__law_right : FuncData
  f__law_heard : Addr
  fd__law_heard : FuncData
  f__law_page_right : Addr
  fd__law_page_right : FuncData
  f__law_equals_right : Addr
  fd__law_equals_right : FuncData
  f_law : Addr
  fd_law : FuncData
  f_Cloth___init__ : Addr
  fd_Cloth___init__ : FuncData
  f_Cloth___len__ : Addr
  fd_Cloth___len__ : FuncData
  f_Cloth___eq__ : Addr
  fd_Cloth___eq__ : FuncData
  f_Cloth___str__ : Addr
  fd_Cloth___str__ : FuncData
  f_Cloth_read : Addr
  fd_Cloth_read : FuncData
  mc_Cloth : Value
  p_Cloth_read : Addr
  i_BadCloth : Addr
  i_BadText : Addr
  t_SIGNS : Tok
structure Txt (K : Frag) (cl : String → Addr) (mg : Str → Option Value) (A : Adr) : Prop where
  F_is_string_over : Fun K "is_string_over" "is_string_over" st_is_string_over A.f_is_string_over A.fd_is_string_over
  m_is_string_over : mg "is_string_over" = some (.ref A.f_is_string_over)
  F_first_uneven : Fun K "first_uneven" "first_uneven" st_first_uneven A.f_first_uneven A.fd_first_uneven
  m_first_uneven : mg "first_uneven" = some (.ref A.f_first_uneven)
  F_lines_of : Fun K "lines_of" "lines_of" st_lines_of A.f_lines_of A.fd_lines_of
  m_lines_of : mg "lines_of" = some (.ref A.f_lines_of)
  F__law_deck : Fun K "_law_deck" "_law_deck" st__law_deck A.f__law_deck A.fd__law_deck
  m__law_deck : mg "_law_deck" = some (.ref A.f__law_deck)
  F__law_draw : Fun K "_law_draw" "_law_draw" st__law_draw A.f__law_draw A.fd__law_draw
  m__law_draw : mg "_law_draw" = some (.ref A.f__law_draw)
  F__law_pick : Fun K "_law_pick" "_law_pick" st__law_pick A.f__law_pick A.fd__law_pick
  m__law_pick : mg "_law_pick" = some (.ref A.f__law_pick)
  F__law_cloth : Fun K "_law_cloth" "_law_cloth" st__law_cloth A.f__law_cloth A.fd__law_cloth
  m__law_cloth : mg "_law_cloth" = some (.ref A.f__law_cloth)
  F__law_odd : Fun K "_law_odd" "_law_odd" st__law_odd A.f__law_odd A.fd__law_odd
  m__law_odd : mg "_law_odd" = some (.ref A.f__law_odd)
  F__law_bent : Fun K "_law_bent" "_law_bent" st__law_bent A.f__law_bent A.fd__law_bent
  m__law_bent : mg "_law_bent" = some (.ref A.f__law_bent)
  F__law_page_bent : Fun K "_law_page_bent" "_law_page_bent" st__law_page_bent A.f__law_page_bent A.fd__law_page_bent
  m__law_page_bent : mg "_law_page_bent" = some (.ref A.f__law_page_bent)
  F__law_is_row : Fun K "_law_is_row" "_law_is_row" st__law_is_row A.f__law_is_row A.fd__law_is_row
  m__law_is_row : mg "_law_is_row" = some (.ref A.f__law_is_row)
  F__law_bad : Fun K "_law_bad" "_law_bad" st__law_bad A.f__law_bad A.fd__law_bad
  m__law_bad : mg "_law_bad" = some (.ref A.f__law_bad)
  F__law_built : Fun K "_law_built" "_law_built" st__law_built A.f__law_built A.fd__law_built
  m__law_built : mg "_law_built" = some (.ref A.f__law_built)
  F__law_right : Fun K "_law_right" "_law_right" st__law_right A.f__law_right A.fd__law_right
  m__law_right : mg "_law_right" = some (.ref A.f__law_right)
  F__law_heard : Fun K "_law_heard" "_law_heard" st__law_heard A.f__law_heard A.fd__law_heard
  m__law_heard : mg "_law_heard" = some (.ref A.f__law_heard)
  F__law_page_right : Fun K "_law_page_right" "_law_page_right" st__law_page_right A.f__law_page_right A.fd__law_page_right
  m__law_page_right : mg "_law_page_right" = some (.ref A.f__law_page_right)
  F__law_equals_right : Fun K "_law_equals_right" "_law_equals_right" st__law_equals_right A.f__law_equals_right A.fd__law_equals_right
  m__law_equals_right : mg "_law_equals_right" = some (.ref A.f__law_equals_right)
  F_law : Fun K "law" "law" st_law A.f_law A.fd_law
  m_law : mg "law" = some (.ref A.f_law)
  F_Cloth___init__ : Fun K "__init__" "Cloth.__init__" st_Cloth___init__ A.f_Cloth___init__ A.fd_Cloth___init__
  F_Cloth___len__ : Fun K "__len__" "Cloth.__len__" st_Cloth___len__ A.f_Cloth___len__ A.fd_Cloth___len__
  F_Cloth___eq__ : Fun K "__eq__" "Cloth.__eq__" st_Cloth___eq__ A.f_Cloth___eq__ A.fd_Cloth___eq__
  F_Cloth___str__ : Fun K "__str__" "Cloth.__str__" st_Cloth___str__ A.f_Cloth___str__ A.fd_Cloth___str__
  F_Cloth_read : Fun K "read" "Cloth.read" st_Cloth_read A.f_Cloth_read A.fd_Cloth_read
  n_all : mg "all" = none
  n_enumerate : mg "enumerate" = none
  n_int : mg "int" = none
  n_isinstance : mg "isinstance" = none
  n_len : mg "len" = none
  n_list : mg "list" = none
  n_range : mg "range" = none
  n_repr : mg "repr" = none
  n_str : mg "str" = none
  n_sum : mg "sum" = none
  n_tuple : mg "tuple" = none
  c_SIGNS : mg "SIGNS" = some (.str "x-" A.t_SIGNS)
  g_LoomError : mg "LoomError" = some (.ref (cl "LoomError"))
  g_BadCloth : mg "BadCloth" = some (.ref (cl "BadCloth"))
  x_BadCloth : PySem.XBadCloth.Txt K mg (cl "BadCloth") A.i_BadCloth
  e_BadCloth : ExcC K (cl "BadCloth")
  ki_BadCloth : PySem.W.kitOne K (.ref (cl "BadCloth")) (.ref (cl "LoomError")) = some true
  te_BadCloth_BadCloth : PySem.W.exmOne K (.ref (cl "BadCloth")) (.ref (cl "BadCloth")) = some true
  te_BadCloth_BadText : PySem.W.exmOne K (.ref (cl "BadCloth")) (.ref (cl "BadText")) = some false
  g_BadText : mg "BadText" = some (.ref (cl "BadText"))
  x_BadText : PySem.XBadText.Txt K mg (cl "BadText") A.i_BadText
  e_BadText : ExcC K (cl "BadText")
  ki_BadText : PySem.W.kitOne K (.ref (cl "BadText")) (.ref (cl "LoomError")) = some true
  te_BadText_BadCloth : PySem.W.exmOne K (.ref (cl "BadText")) (.ref (cl "BadCloth")) = some false
  te_BadText_BadText : PySem.W.exmOne K (.ref (cl "BadText")) (.ref (cl "BadText")) = some true
  g_Cloth : mg "Cloth" = some (.ref (cl "Cloth"))
  oc_Cloth : OwnC K (cl "Cloth")
  mk_Cloth : Mk K (cl "Cloth") A.f_Cloth___init__
  na_Cloth_picks : NoAttr K (cl "Cloth") "picks"
  na_Cloth_ends : NoAttr K (cl "Cloth") "ends"
  s_Cloth___len__ : PySem.W.findIn K (.ref (cl "Cloth")) "__len__" = some (some (.ref A.f_Cloth___len__))
  fn_Cloth___len__ : PySem.W.isFn K (.ref A.f_Cloth___len__) = true
  s_Cloth___eq__ : PySem.W.findIn K (.ref (cl "Cloth")) "__eq__" = some (some (.ref A.f_Cloth___eq__))
  fn_Cloth___eq__ : PySem.W.isFn K (.ref A.f_Cloth___eq__) = true
  s_Cloth___str__ : PySem.W.findIn K (.ref (cl "Cloth")) "__str__" = some (some (.ref A.f_Cloth___str__))
  fn_Cloth___str__ : PySem.W.isFn K (.ref A.f_Cloth___str__) = true
  cm_Cloth_read : ClX.CMet K (cl "Cloth") A.mc_Cloth "read" A.p_Cloth_read A.f_Cloth_read
  cr_Cloth : ClX.CRead K (cl "Cloth") A.mc_Cloth
  ne_Cloth : PySem.W.findIn K (.ref (cl "Cloth")) "__ne__" = some (some (.builtin "object.__ne__"))
  so_Cloth : PySem.W.subIn K (.ref (cl "Cloth")) (.type "object") = some true
abbrev OWN : List String := ["Cloth"]
abbrev gg (K : Frag) (cl : String → Addr) (dk : Addr) : G := ⟨K, cl, OWN, dk⟩
section
variable {P : Program} {w : World} {K : Frag} {cl : String → Addr} {dk : Addr} {mg : Str → Option Value} {base : Heap} {A : Adr}
theorem Txt.own (T : Txt K cl mg A) : OwnAll (gg K cl dk) := fun c hc => by
  have hc' : c = "Cloth" := by simpa using hc
  subst hc'; exact T.oc_Cloth
theorem Txt.sub_Cloth (T : Txt K cl mg A) : SubNo (gg K cl dk) "Cloth" := fun c hc hne => by
  have hc' : c = "Cloth" := by simpa using hc
  exact absurd hc' hne
theorem Txt.nas_Cloth_picks (T : Txt K cl mg A) : ∀ c ∈ ["Cloth"], NoAttr (gg K cl dk).K ((gg K cl dk).cl c) "picks" := fun c hc => by
  obtain rfl := List.mem_singleton.mp hc
  exact T.na_Cloth_picks
theorem Txt.nas_Cloth_ends (T : Txt K cl mg A) : ∀ c ∈ ["Cloth"], NoAttr (gg K cl dk).K ((gg K cl dk).cl c) "ends" := fun c hc => by
  obtain rfl := List.mem_singleton.mp hc
  exact T.na_Cloth_ends
theorem Txt.b_is_string_over (T : Txt K cl mg A) : Binds K A.fd_is_string_over ["thing", "signs"] [] := T.F_is_string_over.binds (ps := ["thing", "signs"]) fun _ _ _ _ _ _ us hl => match us, hl with | [_, _], _ => rfl
theorem Txt.b_first_uneven (T : Txt K cl mg A) : Binds K A.fd_first_uneven ["rows", "signs"] [] := T.F_first_uneven.binds (ps := ["rows", "signs"]) fun _ _ _ _ _ _ us hl => match us, hl with | [_, _], _ => rfl
theorem Txt.b_lines_of (T : Txt K cl mg A) : Binds K A.fd_lines_of ["text"] [] := T.F_lines_of.binds (ps := ["text"]) fun _ _ _ _ _ _ us hl => match us, hl with | [_], _ => rfl
theorem Txt.b__law_deck (T : Txt K cl mg A) : Binds K A.fd__law_deck ["_law_script"] [] := T.F__law_deck.binds (ps := ["_law_script"]) fun _ _ _ _ _ _ us hl => match us, hl with | [_], _ => rfl
theorem Txt.b__law_draw (T : Txt K cl mg A) : Binds K A.fd__law_draw ["_law_deck_here", "_law_below"] [] := T.F__law_draw.binds (ps := ["_law_deck_here", "_law_below"]) fun _ _ _ _ _ _ us hl => match us, hl with | [_, _], _ => rfl
theorem Txt.b__law_pick (T : Txt K cl mg A) : Binds K A.fd__law_pick ["_law_deck_here", "_law_some"] [] := T.F__law_pick.binds (ps := ["_law_deck_here", "_law_some"]) fun _ _ _ _ _ _ us hl => match us, hl with | [_, _], _ => rfl
theorem Txt.b__law_cloth (T : Txt K cl mg A) : Binds K A.fd__law_cloth ["_law_deck_here"] [] := T.F__law_cloth.binds (ps := ["_law_deck_here"]) fun _ _ _ _ _ _ us hl => match us, hl with | [_], _ => rfl
theorem Txt.b__law_odd (T : Txt K cl mg A) : Binds K A.fd__law_odd ["_law_deck_here", "_law_it"] [] := T.F__law_odd.binds (ps := ["_law_deck_here", "_law_it"]) fun _ _ _ _ _ _ us hl => match us, hl with | [_, _], _ => rfl
theorem Txt.b__law_bent (T : Txt K cl mg A) : Binds K A.fd__law_bent ["_law_deck_here", "_law_it", "_law_deep"] [] := T.F__law_bent.binds (ps := ["_law_deck_here", "_law_it", "_law_deep"]) fun _ _ _ _ _ _ us hl => match us, hl with | [_, _, _], _ => rfl
theorem Txt.b__law_page_bent (T : Txt K cl mg A) : Binds K A.fd__law_page_bent ["_law_deck_here", "_law_page", "_law_some"] [] := T.F__law_page_bent.binds (ps := ["_law_deck_here", "_law_page", "_law_some"]) fun _ _ _ _ _ _ us hl => match us, hl with | [_, _, _], _ => rfl
theorem Txt.b__law_is_row (T : Txt K cl mg A) : Binds K A.fd__law_is_row ["_law_it"] [] := T.F__law_is_row.binds (ps := ["_law_it"]) fun _ _ _ _ _ _ us hl => match us, hl with | [_], _ => rfl
theorem Txt.b__law_bad (T : Txt K cl mg A) : Binds K A.fd__law_bad ["_law_it"] [] := T.F__law_bad.binds (ps := ["_law_it"]) fun _ _ _ _ _ _ us hl => match us, hl with | [_], _ => rfl
theorem Txt.b__law_built (T : Txt K cl mg A) : Binds K A.fd__law_built ["_law_it", "_law_is_named"] [] := T.F__law_built.binds (ps := ["_law_it", "_law_is_named"]) fun _ _ _ _ _ _ us hl => match us, hl with | [_, _], _ => rfl
theorem Txt.b__law_right (T : Txt K cl mg A) : Binds K A.fd__law_right ["_law_it"] [] := T.F__law_right.binds (ps := ["_law_it"]) fun _ _ _ _ _ _ us hl => match us, hl with | [_], _ => rfl
theorem Txt.b__law_heard (T : Txt K cl mg A) : Binds K A.fd__law_heard ["_law_it", "_law_is_named"] [] := T.F__law_heard.binds (ps := ["_law_it", "_law_is_named"]) fun _ _ _ _ _ _ us hl => match us, hl with | [_, _], _ => rfl
theorem Txt.b__law_page_right (T : Txt K cl mg A) : Binds K A.fd__law_page_right ["_law_it"] [] := T.F__law_page_right.binds (ps := ["_law_it"]) fun _ _ _ _ _ _ us hl => match us, hl with | [_], _ => rfl
theorem Txt.b__law_equals_right (T : Txt K cl mg A) : Binds K A.fd__law_equals_right ["_law_deck_here", "_law_some"] [] := T.F__law_equals_right.binds (ps := ["_law_deck_here", "_law_some"]) fun _ _ _ _ _ _ us hl => match us, hl with | [_, _], _ => rfl
theorem Txt.b_law (T : Txt K cl mg A) : Binds K A.fd_law ["_law_script"] [] := T.F_law.binds (ps := ["_law_script"]) fun _ _ _ _ _ _ us hl => match us, hl with | [_], _ => rfl
theorem Txt.b_Cloth___init__ (T : Txt K cl mg A) : Binds K A.fd_Cloth___init__ ["self", "picks"] [] := T.F_Cloth___init__.binds (ps := ["self", "picks"]) fun _ _ _ _ _ _ us hl => match us, hl with | [_, _], _ => rfl
theorem Txt.b_Cloth___len__ (T : Txt K cl mg A) : Binds K A.fd_Cloth___len__ ["self"] [] := T.F_Cloth___len__.binds (ps := ["self"]) fun _ _ _ _ _ _ us hl => match us, hl with | [_], _ => rfl
theorem Txt.b_Cloth___eq__ (T : Txt K cl mg A) : Binds K A.fd_Cloth___eq__ ["self", "other"] [] := T.F_Cloth___eq__.binds (ps := ["self", "other"]) fun _ _ _ _ _ _ us hl => match us, hl with | [_, _], _ => rfl
theorem Txt.b_Cloth___str__ (T : Txt K cl mg A) : Binds K A.fd_Cloth___str__ ["self"] [] := T.F_Cloth___str__.binds (ps := ["self"]) fun _ _ _ _ _ _ us hl => match us, hl with | [_], _ => rfl
theorem Txt.b_Cloth_read (T : Txt K cl mg A) : Binds K A.fd_Cloth_read ["cls", "text"] [] := T.F_Cloth_read.binds (ps := ["cls", "text"]) fun _ _ _ _ _ _ us hl => match us, hl with | [_, _], _ => rfl
theorem Txt.kbo_Cloth___init___picks (T : Txt K cl mg A) : KBinds K A.fd_Cloth___init__ ["self", "picks"] ["picks"] (ord 1 1 (0 :: [0].map (· + 1))) (ord 1 1 (0 :: [0].map (· + 1))) := by
  obtain ⟨oc, od, kV, doc, pm, an, cdv, ct, osl, e, lk, hcd⟩ := T.F_Cloth___init__.ex
  rw [e]
  exact kb_ord (m := 1) (j := 1) (ix := [0, 1]) (by decide) fun s us ws _ h1 h2 => match us, ws, h1, h2 with | [_], [_], _, _ => .of_eq rfl
theorem Txt.kbo_Cloth_read_text (T : Txt K cl mg A) : KBinds K A.fd_Cloth_read ["cls", "text"] ["text"] (ord 1 1 (0 :: [0].map (· + 1))) (ord 1 1 (0 :: [0].map (· + 1))) := by
  obtain ⟨oc, od, kV, doc, pm, an, cdv, ct, osl, e, lk, hcd⟩ := T.F_Cloth_read.ex
  rw [e]
  exact kb_ord (m := 1) (j := 1) (ix := [0, 1]) (by decide) fun s us ws _ h1 h2 => match us, ws, h1, h2 with | [_], [_], _, _ => .of_eq rfl
end
end C03
set_option Elab.async false
set_option linter.all false
set_option maxRecDepth 100000
set_option maxHeartbeats 4000000
namespace C03
open PySem PySem.Spec L2 DL
open PySem.W (Frag)

section
variable {P : Program} {w : World} {K : Frag} {cl : String → Addr} {dk : Addr} {mg : Str → Option Value} {base : Heap} {A : Adr}
abbrev C0 : Int := 313
def n__law_draw : Fn := drawF C0
abbrev drawTail : TS := tSeq (tAsg (tOp rMd (tOp rMl (tCB rNt (tCons (tOp rAd (tOp rAd (tOp rMd (tCB rNt (tCons (tVar 3) tNil)) (tC (V.int 2147483629))) (tOp rMl (tOp rMl (tC (V.int 60623)) (tVar 2)) (tVar 2))) (tC (V.int 313))) tNil)) (tC (V.int 40692))) (tC (V.int 2147483647))) (gName 3))
  (tSeq (tAsg (tOp rMd (tCB rNt (tCons (tOp rAd (tOp rAd (tOp rMl (tVar 3) (tVar 3)) (tOp rMl (tC (V.int 69621)) (tVar 2))) (tC (V.int 313))) tNil)) (tC (V.int 2147483579))) (gName 3))
    (tRet (tOp rMd (tOp (rI CDivN fun i j => V.int (i.fdiv j)) (tOp rMd (tCB rNt (tCons (tOp rMl (tVar 3) (tC (V.int 39373))) tNil)) (tC (V.int 2147483549))) (tC (V.int 64))) (tVar 1))))
theorem draw_tail {a c : Option V} {j t F : Int} {D : Ends} {H : Hp} {σ : L2.St} (hσ : σ = [a, some (.int j), some (.int t), some (.int F), c]) (hj : 0 < j) (ht : 0 ≤ t ∧ t < 18446744073709551616) (h : D.rt (.int (tailR C0 t F j)) H) : drawTail D σ H := by
  subst hσ
  refine ⟨_, rfl, .inl ⟨_, rfl, ?_⟩⟩
  refine ⟨_, _, rfl, rfl, (by decide : (0 : Int) < 2147483629), ?_⟩
  refine ⟨_, rfl, _, _, rfl, rfl, cmulL (by decide), ?_⟩
  refine ⟨_, rfl, _, _, rfl, rfl, cmulR ht, ?_⟩
  refine ⟨_, _, rfl, rfl, ?_⟩
  refine ⟨_, _, rfl, rfl, .inl ⟨_, rfl, ?_⟩⟩
  refine ⟨_, _, rfl, rfl, cmulR (by decide), ?_⟩
  refine ⟨_, _, rfl, rfl, (by decide : (0 : Int) < 2147483647), ?_⟩
  refine ⟨_, rfl, _, rfl, _, _, rfl, rfl, cmulL ⟨(md_lt _ (by decide)).1, Int.lt_trans (md_lt _ (by decide)).2 (by decide)⟩, ?_⟩
  refine ⟨_, rfl, _, _, rfl, rfl, cmulL (by decide), ?_⟩
  refine ⟨_, _, rfl, rfl, ?_⟩
  refine ⟨_, _, rfl, rfl, .inl ⟨_, rfl, ?_⟩⟩
  refine ⟨_, _, rfl, rfl, (by decide : (0 : Int) < 2147483579), ?_⟩
  refine ⟨_, rfl, _, _, rfl, rfl, cmulR (by decide), .inl ⟨_, rfl, ?_⟩⟩
  refine ⟨_, _, rfl, rfl, (by decide : (0 : Int) < 2147483549), ?_⟩
  refine ⟨_, _, rfl, rfl, ⟨by decide, by decide⟩, ?_⟩
  refine ⟨_, rfl, _, _, rfl, rfl, hj, ?_⟩
  exact h
theorem ok__law_draw (T : Txt K cl mg A) : FnG P w K mg base 1 A.f__law_draw A.fd__law_draw ["_law_deck_here", "_law_below"] (SpD (gg K cl dk) 2 n__law_draw) := by
  refine T.F__law_draw.okG sc__law_draw (fun vs H Q E h => h.1) (fun cdv A0 outer s H vs Q E hr hgd0 h => ?_)
  obtain ⟨_, F, k, ds, sta, rr, q⟩ := h
  obtain ⟨j, kk, rfl, rfl, hb, ht0, q⟩ := drawF_some q
  obtain ⟨v1, v2, rfl, r1, r2⟩ := rep2 rr
  obtain rfl := repDk r1
  obtain rfl := repInt r2
  obtain ⟨h1, h2, _, _⟩ := sta.dk
  obtain ⟨l, ns, m, t, len⟩ := kk
  simp only [bOk, tOk, Bool.and_eq_true, decide_eq_true_eq] at hb ht0
  obtain ⟨hj0, hj⟩ := hb
  have h1 : H dk = some (.dK (DKL l m t)) := h1
  have h2 : H l = some (.lst (ns.map V.int)) := h2
  have kQ : ∀ (r : Int) (k' : Dk) (H' : Hp), drawK C0 ⟨l, ns, m, t, len⟩ j = (r, k') → Keep dk l H H' → H' dk = some (.dK (DKL l k'.m k'.t)) → H' l = some (.lst (k'.ns.map V.int)) → k'.c = l → Q (.int r) H' := fun r k' H' e kp e1 e2 e3 => by
    rw [e] at q
    exact q H' F (deck_stp sta kp e1 e2 e3) _ (.int _)
  have hne : dk ≠ l := by
    rintro rfl
    rw [h1] at h2
    cases h2
  refine ⟨_, (pss_cons (ps_dput (hu_of hr) (pv 0) pe_str (pe_op op_add (pe_dget (hu_of hr) (pv 0) pe_str (fun _ _ => rfl)) pe_int) rfl)
  (pss_cons (ps_par (i := 2) (j := 3) rfl sc__law_draw.nd rfl rfl (by decide) rfl rfl (by exact (pa_cons (pe_dget (hu_of hr) (pv 0) pe_str (fun _ _ => rfl)) (pa_cons (pe_dget (hu_of hr) (pv 0) pe_str (fun _ _ => rfl)) pa_nil))) (by rfl))
  (pss_cons (ps_if (pt_cmpR (op_neD hr.units) (pe_dget (hu_of hr) (pv 0) pe_str (fun _ _ => rfl)) (pe_lst pa_nil) (nomark _))
  (pss_cons (ps_set (i := 4) sc__law_draw.nd rfl (Or.inl rfl) (pe_callTy (call_int1) (by rfl) T.n_int (by decide +kernel) (by exact (pa_cons (pe_bm0 PySem.F.plainAttrs_list PySem.F.slot_list_pop PySem.F.type_list_pop mt_pop (pe_dget (hu_of hr) (pv 0) pe_str (fun _ _ => rfl))) pa_nil))))
  (pss_cons (ps_if (pt_cmpR op_ge (pv 4) (pe_op op_pow pe_int pe_int) (nomark _))
  (pss_cons (ps_expr (pe_bm PySem.F.plainAttrs_list PySem.F.slot_list_append PySem.F.type_list_append mt_append (pe_dget (hu_of hr) (pv 0) pe_str (fun _ _ => rfl)) (pa_cons (pe_op op_fdivN (pv 4) (pv 1)) pa_nil)))
  (pss_one (ps_ret (pe_op op_mod (pv 4) (pv 1)))))
  pss_nil)
  (pss_one (ps_set (i := 3) sc__law_draw.nd rfl (Or.inl rfl) (pe_op op_add (pv 3) (pe_op op_mod (pv 4) pe_int))))))
  pss_nil)
  (pss_cons (ps_set (i := 3) sc__law_draw.nd rfl (Or.inl rfl) (pe_op op_mod (pe_op op_mul (pe_callTy (call_int1) (by rfl) T.n_int (by decide +kernel) (by exact (pa_cons (pe_op op_add (pe_op op_add (pe_op op_mod (pe_callTy (call_int1) (by rfl) T.n_int (by decide +kernel) (by exact (pa_cons (pv 3) pa_nil))) pe_int) (pe_op op_mul (pe_op op_mul pe_int (pv 2)) (pv 2))) pe_int) pa_nil))) pe_int) pe_int))
  (pss_cons (ps_set (i := 3) sc__law_draw.nd rfl (Or.inl rfl) (pe_op op_mod (pe_callTy (call_int1) (by rfl) T.n_int (by decide +kernel) (by exact (pa_cons (pe_op op_add (pe_op op_add (pe_op op_mul (pv 3) (pv 3)) (pe_op op_mul pe_int (pv 2))) pe_int) pa_nil))) pe_int))
  (pss_one (ps_ret (pe_op op_mod (pe_op op_fdivN (pe_op op_mod (pe_callTy (call_int1) (by rfl) T.n_int (by decide +kernel) (by exact (pa_cons (pe_op op_mul (pv 3) pe_int) pa_nil))) pe_int) pe_int) (pv 1))))))))), ?_⟩
  refine ⟨_, rfl, dk, _, rfl, get_draws h1, ?_⟩
  refine ⟨_, _, rfl, rfl, ?_⟩
  refine ⟨_, rfl, dk, _, rfl, put_draws' h1, ?_⟩
  have g1 : upd H dk (.dK (DKL l m (t + 1))) dk = some (.dK (DKL l m (t + 1))) := upd_same
  have g2 : upd H dk (.dK (DKL l m (t + 1))) l = some (.lst (ns.map V.int)) := by rw [upd_ne (Ne.symm hne)]; exact h2
  refine ⟨_, rfl, dk, _, rfl, get_draws g1, ?_⟩
  refine ⟨_, rfl, dk, _, rfl, get_mixed g1, ?_⟩
  refine ⟨_, _, rfl, ?_⟩
  have ht : 0 ≤ t + 1 ∧ t + 1 < 18446744073709551616 := by omega
  have k0 : Keep dk l H (upd H dk (.dK (DKL l m (t + 1)))) := fun b o n1 n2 e => by rw [upd_ne n1]; exact e
  refine ⟨_, rfl, dk, _, rfl, get_cells g1, Nat.zero_le _, fun p np => ?_⟩
  have pd : p ≠ dk := fun z => by rw [z, g1] at np; cases np
  have pl : p ≠ l := fun z => by rw [z, g2] at np; cases np
  have g3 : upd (upd H dk (.dK (DKL l m (t + 1)))) p (.lst []) dk = some (.dK (DKL l m (t + 1))) := by rw [upd_ne (Ne.symm pd)]; exact g1
  have g4 : upd (upd H dk (.dK (DKL l m (t + 1)))) p (.lst []) l = some (.lst (ns.map V.int)) := by rw [upd_ne (Ne.symm pl)]; exact g2
  have k1 : Keep dk l H (upd (upd H dk (.dK (DKL l m (t + 1)))) p (.lst [])) := k0.trans (DL.Same.keep (DL.same_new (Same.refl _) np))
  refine rNe_nil (SqL.of g4) (DL.ints_ok ns) upd_same ?_
  refine ⟨_, rfl, ?_⟩
  refine ite2 (fun hne0 => ?_) (fun hne0 => ?_)
  · rcases List.eq_nil_or_concat ns with z | ⟨r, c, z⟩
    · rw [z] at hne0
      cases hne0
    rw [List.concat_eq_append] at z
    subst z
    have hns : r ++ [c] ≠ [] := by simp
    have hlast : (r ++ [c]).getLast hns = c := by simp
    have hdl : (r ++ [c]).dropLast = r := by simp
    have g4' : upd (upd H dk (.dK (DKL l m (t + 1)))) p (.lst []) l = some (.lst (r.map V.int ++ [.int c])) := by rw [g4, List.map_append]; rfl
    have hget : (r.map V.int ++ [V.int c])[(r.map V.int ++ [V.int c]).length - 1]? = some (.int c) := by simp
    have hdrop : (r.map V.int ++ [V.int c]).dropLast = r.map V.int := by simp
    refine ⟨_, rfl, dk, _, rfl, get_cells g3, .inl ⟨rfl, _, SqL.of g4'⟩, l, _, .int c, rfl, rfl, g4', hget, .inl ⟨_, rfl, ?_⟩⟩
    rw [hdrop]
    have g5 : upd (upd (upd H dk (.dK (DKL l m (t + 1)))) p (.lst [])) l (.lst (r.map V.int)) dk = some (.dK (DKL l m (t + 1))) := by rw [upd_ne hne]; exact g3
    have g6 : upd (upd (upd H dk (.dK (DKL l m (t + 1)))) p (.lst [])) l (.lst (r.map V.int)) l = some (.lst (r.map V.int)) := upd_same
    have k2 : Keep dk l H (upd (upd (upd H dk (.dK (DKL l m (t + 1)))) p (.lst [])) l (.lst (r.map V.int))) := k1.trans fun b o n1 n2 e => by rw [upd_ne n2]; exact e
    refine ⟨_, rfl, _, _, rfl, rfl, ⟨by decide, by decide, by decide⟩, _, _, rfl, rfl, ?_⟩
    refine ⟨_, rfl, ?_⟩
    refine ite2 (fun hbig => ?_) (fun hbig => ?_)
    · refine ⟨_, rfl, dk, _, rfl, get_cells g5, .inl ⟨rfl, _, SqL.of g6⟩, _, rfl, _, rfl, _, _, rfl, rfl, ⟨by omega, by omega⟩, l, _, _, rfl, rfl, g6, ?_, ?_⟩
      · rw [List.length_map]
        rw [List.length_append, List.length_singleton] at len
        exact Nat.lt_of_le_of_lt (show r.length ≤ 63 by omega) (by decide)
      refine ⟨_, rfl, _, rfl, _, _, rfl, rfl, hj0, ?_⟩
      have hbig' : 10 ^ 18 ≤ c := by simpa using hbig
      refine kQ _ ⟨l, r ++ [c.fdiv j], m, t + 1, by rw [List.length_append, List.length_singleton] at len ⊢; omega⟩ _ ?_ (k2.trans fun b o n1 n2 e => by rw [upd_ne n2]; exact e) ?_ ?_ rfl
      · unfold drawK
        rw [dif_neg hns]
        simp only [hlast, hdl]
        rw [if_pos hbig']
      · rw [upd_ne hne]; exact g5
      · rw [upd_same, List.map_append]; rfl
    · refine ⟨_, rfl, _, rfl, _, _, rfl, rfl, (by decide : (0 : Int) < 2147483563), ?_⟩
      refine ⟨_, _, rfl, rfl, ?_⟩
      have hbig' : ¬ 10 ^ 18 ≤ c := by simpa using hbig
      refine draw_tail rfl hj0 ht (kQ _ ⟨l, r, m, t + 1, by rw [List.length_append, List.length_singleton] at len; omega⟩ _ ?_ k2 g5 g6 rfl)
      unfold drawK
      rw [dif_neg hns]
      simp only [hlast, hdl]
      rw [if_neg hbig']
  · have hns : ns = [] := by simpa using hne0
    refine draw_tail rfl hj0 ht (kQ _ ⟨l, ns, m, t + 1, len⟩ _ ?_ k1 g3 g4 rfl)
    unfold drawK
    rw [dif_pos hns]
theorem ok__law_deck (T : Txt K cl mg A) : FnG P w K mg base 1 A.f__law_deck A.fd__law_deck ["_law_script"] (spDeck K) := by
  refine T.F__law_deck.okG sc__law_deck (fun vs H Q E h => ?_) (fun cdv A0 outer s H vs Q E hr hgd0 h => ?_)
  · obtain ⟨a, ns, rfl, _⟩ := h
    rfl
  · have hgd := hgd0
    obtain ⟨a, ns, rfl, ha, kQ⟩ := h
    refine ⟨_, (pss_cons (ps_par (i := 1) (j := 2) rfl sc__law_deck.nd rfl rfl (by decide) rfl rfl (by exact (pa_cons (pe_callTy (call_list_of) (by rfl) T.n_list (by decide +kernel) (by exact (pa_cons (pe_slice sl_list (pv 0) po_none (po_some pe_int)) pa_nil))) (pa_cons (pe_op op_add pe_int (pe_op op_mod (pe_callTy (call_int1) (by rfl) T.n_int (by decide +kernel) (by exact (pa_cons (pe_callB (cr_sum rfl) (by rfl) T.n_sum (by decide +kernel) (by exact (pa_cons (pe_slice sl_list (pv 0) po_none (po_some pe_int)) pa_nil))) pa_nil))) pe_int)) pa_nil))) (by rfl))
  (pss_cons (ps_for PassesOwn.never rfl (pi_list (pv 1)) (pg_name (i := 3) sc__law_deck.nd rfl (Or.inl rfl))
  (pss_one (ps_set (i := 2) sc__law_deck.nd rfl (Or.inl rfl) (pe_op op_mod (pe_callTy (call_int1) (by rfl) T.n_int (by decide +kernel) (by exact (pa_cons (pe_op op_add (pe_op op_add (pe_op op_mul (pv 2) pe_int) (pe_op op_mod (pe_callTy (call_int1) (by rfl) T.n_int (by decide +kernel) (by exact (pa_cons (pv 3) pa_nil))) pe_int)) pe_int) pa_nil))) pe_int))))
  (pss_one (ps_ret (pe_disp (pps_cons pe_str (pe_revL (pv 1)) (pps_cons pe_str (pv 2) (pps_cons pe_str pe_int pps_nil))) (by rfl) (by rfl) (fun z => by cases z) (by decide)))))), ?_⟩
    have e63 : cutV (ns.map V.int) none (some 63) = (ns.take 63).map V.int := DL.cut_take (k := 63)
    have e1 : cutV (ns.map V.int) none (some 1) = (ns.take 1).map V.int := DL.cut_take (k := 1)
    refine ⟨_, rfl, 63, rfl, a, _, rfl, ha, fun p np => ?_⟩
    rw [e63]
    refine ⟨p, _, rfl, .inl (SqL.of upd_same), fun l nl => ?_⟩
    have s1 := DL.same_new (o := .lst ((ns.take 63).map V.int)) (Same.refl H) np
    have s2 := DL.same_new (o := .lst ((ns.take 63).map V.int)) s1 nl
    refine ⟨_, rfl, 1, rfl, a, _, rfl, s2.seq ha, fun q nq => ?_⟩
    rw [e1]
    refine ⟨q, ns.take 1, rfl, SqL.of upd_same, ?_⟩
    refine .inl ⟨_, rfl, ?_⟩
    refine ⟨_, _, rfl, rfl, (by decide : (0 : Int) < 1000003), ?_⟩
    refine ⟨_, _, rfl, rfl, ?_⟩
    refine ⟨_, _, rfl, ?_⟩
    have s3 := DL.same_new (o := .lst ((ns.take 1).map V.int)) s2 nq
    have ll : upd (upd (upd H p (.lst ((ns.take 63).map V.int))) l (.lst ((ns.take 63).map V.int))) q (.lst ((ns.take 1).map V.int)) l = some (.lst ((ns.take 63).map V.int)) := by
      rw [upd_ne, upd_same]
      rintro rfl
      rw [upd_same] at nq
      cases nq
    generalize hH : upd (upd (upd H p (.lst ((ns.take 63).map V.int))) l (.lst ((ns.take 63).map V.int))) q (.lst ((ns.take 1).map V.int)) = H3 at *
    refine ⟨_, rfl, l, rfl, ⟨_, SqL.of ll⟩, ?_⟩
    refine for_it (walk_list (xs := (ns.take 63).map V.int)) (fun i σ H' => ∃ (m : Int) (v : Option V), σ = [some (.ref a), some (.ref l), some (.int m), v] ∧ H' = H3)
      ⟨_, none, rfl, rfl⟩ (fun i σ H' _ h => ?_) ?_ ?_
    · obtain ⟨m, v, _, rfl⟩ := h
      exact SqL.of ll
    · rintro i y σ H1 H2 hi ⟨m, v, rfl, rfl⟩ ⟨rfl, hy⟩
      rw [List.getElem?_map] at hy
      cases hc : (ns.take 63)[i]? with
      | none => rw [hc] at hy; cases hy
      | some c =>
        rw [hc] at hy
        obtain rfl : V.int c = y := Option.some.inj hy
        refine ⟨_, rfl, _, _, rfl, rfl, cmulR (by decide), ?_⟩
        refine ⟨_, rfl, .inl ⟨_, rfl, ?_⟩⟩
        refine ⟨_, _, rfl, rfl, (by decide : (0 : Int) < 2147483629), ?_⟩
        refine ⟨_, _, rfl, rfl, ?_⟩
        refine ⟨_, _, rfl, rfl, .inl ⟨_, rfl, ?_⟩⟩
        refine ⟨_, _, rfl, rfl, (by decide : (0 : Int) < 2147483587), ?_⟩
        exact ⟨_, _, rfl, rfl⟩
    · rintro σ H1 ⟨m, v, rfl, rfl⟩
      intro d nd
      have nel : l ≠ d := by rintro rfl; rw [ll] at nd; cases nd
      refine ⟨_, rfl, l, _, rfl, SqL.of (by rw [upd_ne nel]; exact ll), fun l2 nl2 => ?_⟩
      have ne2 : d ≠ l2 := by rintro rfl; rw [upd_same] at nl2; cases nl2
      refine ⟨_, rfl, ?_⟩
      refine ⟨by rw [upd_ne ne2]; exact upd_same, DKL l2 m 0, rfl, by show 3 ≤ 15; decide, ?_⟩
      refine kQ d ⟨l2, (ns.take 63).reverse, m, 0, ?_⟩ _ rfl ne2 upd_same ?_
      · rw [List.length_reverse, List.length_take]
        exact Nat.min_le_left _ _
      · show upd (upd _ l2 _) d _ l2 = _
        rw [upd_ne (Ne.symm ne2), upd_same, List.map_reverse]
end

end C03
set_option Elab.async false
set_option linter.all false
set_option maxRecDepth 100000
set_option maxHeartbeats 4000000
namespace C03
open PySem PySem.Spec L2 DL
open PySem.W (Frag)

def takes_BadCloth (c : String) : Option Bool := if c = "BadCloth" then some true else if c = "BadText" then some false else none
theorem Txt.yes_BadCloth {K : Frag} {cl : String → Addr} {mg : Str → Option Value} {A : Adr} (T : Txt K cl mg A) {dk : Addr} : ∀ c' b, takes_BadCloth c' = some b → PySem.W.exmOne (gg K cl dk).K (.ref ((gg K cl dk).cl c')) (.ref ((gg K cl dk).cl "BadCloth")) = some b := by
  intro c' b h
  unfold takes_BadCloth at h
  by_cases h_BadCloth : c' = "BadCloth"
  · subst h_BadCloth; simp at h; subst h; exact T.te_BadCloth_BadCloth
  by_cases h_BadText : c' = "BadText"
  · subst h_BadText; simp at h; subst h; exact T.te_BadText_BadCloth
  simp [h_BadCloth, h_BadText] at h
def takes_BadText (c : String) : Option Bool := if c = "BadCloth" then some false else if c = "BadText" then some true else none
theorem Txt.yes_BadText {K : Frag} {cl : String → Addr} {mg : Str → Option Value} {A : Adr} (T : Txt K cl mg A) {dk : Addr} : ∀ c' b, takes_BadText c' = some b → PySem.W.exmOne (gg K cl dk).K (.ref ((gg K cl dk).cl c')) (.ref ((gg K cl dk).cl "BadText")) = some b := by
  intro c' b h
  unfold takes_BadText at h
  by_cases h_BadCloth : c' = "BadCloth"
  · subst h_BadCloth; simp at h; subst h; exact T.te_BadCloth_BadText
  by_cases h_BadText : c' = "BadText"
  · subst h_BadText; simp at h; subst h; exact T.te_BadText_BadText
  simp [h_BadCloth, h_BadText] at h
def g_is_string_over : Ss :=
  (sRet (sAnd (sIsi "str" (sV 0)) (sApp (pureO allD) (lCons (sFrz (sComp (.name 2) [2] sYes (sOp inD (sV 2) (sV 1)) (iVal (sV 0)))) lNil))))
def s_is_string_over : Ss := g_is_string_over
def n_is_string_over : Fn := fnD 3 s_is_string_over
section
variable {P : Program} {w : World} {K : Frag} {cl : String → Addr} {dk : Addr} {mg : Str → Option Value} {base : Heap} {A : Adr}
theorem ok_is_string_over (T : Txt K cl mg A) : FnG P w K mg base 1 A.f_is_string_over A.fd_is_string_over ["thing", "signs"] (SpD (gg K cl dk) 2 n_is_string_over) := by
    refine fn_of_body (g := gg K cl dk) T.F_is_string_over sc_is_string_over rfl rfl fun cdv A0 outer sh H E hr hgd => ?_
    unfold s_is_string_over g_is_string_over
    exact (pds_one (pds_ret (pd_and rfl (pd_isi (T := "str") rfl T.own (by decide) (pe_bltn (v := .ty "str") (u := .type "str") (by rfl) T.n_str (by decide +kernel) rfl) (by rfl) T.n_isinstance (pd_var (pv 0))) (pd_one (pd_callB (callo_all rfl rfl) (by rfl) T.n_all (by decide +kernel) (by exact (pda_cons (pd_ofN (pdn_lc (own := [("sign", 2)]) (t := (.name 2)) rfl sc_is_string_over.nd (pdi_val rfl (pd_var (pv 0))) (blkOk_by (own := [("sign", 2)]) (N := ["thing", "signs", "sign"]) (sc := defScope st_is_string_over) (by decide +kernel)) (by decide) (fun _ _ _ _ _ => (pdg_name (i := 2) sc_is_string_over.nd rfl (Or.inl rfl))) (fun _ _ _ _ _ => pdts_nil) (fun _ _ _ _ _ => (pd_cmp (opd_in rfl) (pd_var (pv 2)) (pd_var (pv 1)) (by rfl))))) pda_nil)))))))
end
def g_first_uneven (p_is_string_over : Fn) : Ss :=
  (sSeq (sFor (.tup [(.name 2), (.name 3)]) (iEnumD (sV 0))
  (sIfS (sOrB (sNotB (sTru (sCall 2 p_is_string_over (lCons (sV 3) (lCons (sV 1) lNil))))) (sOrB (sB (sOp eqD (sV 3) (sC (.str "")))) (sB (sOp neD (sApp (pureO lenD) (lCons (sV 3) lNil)) (sApp (pureO lenD) (lCons (sIx (sV 0) (sC (.int 0))) lNil))))))
  (sRet (sV 2))
  sSkip))
  (sRet (sC .non)))
def s_first_uneven : Ss := g_first_uneven n_is_string_over
def n_first_uneven : Fn := fnD 4 s_first_uneven
section
variable {P : Program} {w : World} {K : Frag} {cl : String → Addr} {dk : Addr} {mg : Str → Option Value} {base : Heap} {A : Adr}
theorem ok_first_uneven (T : Txt K cl mg A) : FnG P w K mg base 2 A.f_first_uneven A.fd_first_uneven ["rows", "signs"] (SpD (gg K cl dk) 2 n_first_uneven) := by
    have G_is_string_over := ok_is_string_over (P := P) (w := w) (base := base) (dk := dk) T
    refine fn_of_body (g := gg K cl dk) T.F_first_uneven sc_first_uneven rfl rfl fun cdv A0 outer sh H E hr hgd => ?_
    unfold s_first_uneven g_first_uneven
    exact (pds_cons (pds_for (tt := (.tup [(.name 2), (.name 3)])) (passes_of rfl) rfl (pdi_enum rfl (by rfl) T.n_enumerate (pd_var (pv 0))) (pdg_tup rfl (by rfl) (pdgs_cons (pdg_name (i := 2) sc_first_uneven.nd rfl (Or.inl rfl)) (pdgs_cons (pdg_name (i := 3) sc_first_uneven.nd rfl (Or.inl rfl)) pdgs_nil)))
  (pds_one (pds_if (PDW.pt (pdw_or (pdt_not (pdt_truth rfl (pd_call G_is_string_over (hr.mono (by first | decide | omega)) hgd rfl T.m_is_string_over T.F_is_string_over.kp T.b_is_string_over (takes_of rfl rfl rfl rfl) (by exact (pda_cons (pd_var (pv 3)) (pda_cons (pd_var (pv 1)) pda_nil)))) (by intro _; rfl))) (pdw_or (pdt_cmp (opd_eq rfl hr.units) (pd_var (pv 3)) pd_str (nomark _)) (pdw_or1 (pdt_cmp (opd_ne rfl hr.units) (pd_callB (callo_len rfl) (by rfl) T.n_len (by decide +kernel) (by exact (pda_cons (pd_var (pv 3)) pda_nil))) (pd_callB (callo_len rfl) (by rfl) T.n_len (by decide +kernel) (by exact (pda_cons (pd_ix rfl (pd_var (pv 0)) pd_int) pda_nil))) (nomark _))))))
  (pds_one (pds_ret (pd_var (pv 2))))
  pds_nil)))
  (pds_one (pds_ret pd_non)))
end
def g_lines_of : Ss :=
  (sSeq (sIfS (sNotB (sTru (sIsi "str" (sV 0))))
  (sRaise "BadText" "line" (lCons (sC (.int 0)) lNil))
  sSkip)
  (sRet (sM1 splitD (sV 0) (sC (.str "\n")))))
def s_lines_of : Ss := g_lines_of
def n_lines_of : Fn := fnD 1 s_lines_of
section
variable {P : Program} {w : World} {K : Frag} {cl : String → Addr} {dk : Addr} {mg : Str → Option Value} {base : Heap} {A : Adr}
theorem ok_lines_of (T : Txt K cl mg A) : FnG P w K mg base 1 A.f_lines_of A.fd_lines_of ["text"] (SpD (gg K cl dk) 1 n_lines_of) := by
    refine fn_of_body (g := gg K cl dk) T.F_lines_of sc_lines_of rfl rfl fun cdv A0 outer sh H E hr hgd => ?_
    unfold s_lines_of g_lines_of
    exact (pds_cons (pds_if (pdt_not (pdt_truth rfl (pd_isi (T := "str") rfl T.own (by decide) (pe_bltn (v := .ty "str") (u := .type "str") (by rfl) T.n_str (by decide +kernel) rfl) (by rfl) T.n_isinstance (pd_var (pv 0))) (by intro _; rfl)))
  (pds_one (pds_raise (ps_raiseBadText rfl T.x_BadText hr (takes_of rfl rfl rfl rfl) (by exact (pda_cons pd_int pda_nil)))))
  pds_nil)
  (pds_one (pds_ret (pd_m1 PySem.F.slot_str_split PySem.F.type_str_split mto_split (pd_var (pv 0)) pd_str))))
end
def g_Cloth___init__ (p_first_uneven : Fn) : Ss :=
  (sSeq (sIfS (sOrB (sNotB (sTru (sIsi "tuple" (sV 1)))) (sB (sOp eqD (sV 1) (sTup lNil))))
  (sRaise "BadCloth" "part" (lCons (sC (.str "picks")) lNil))
  sSkip)
  (sSeq (sSet 2 (sCall 2 p_first_uneven (lCons (sV 1) (lCons (sC (.str "x-")) lNil))))
  (sSeq (sIfS (sB (sOp (isD fun b => !b) (sV 2) (sC .non)))
  (sRaise "BadCloth" "part" (lCons (sV 2) lNil))
  sSkip)
  (sSeq (sSetF 0 "Cloth" "picks" (sV 1))
  (sSetF 0 "Cloth" "ends" (sApp (pureO lenD) (lCons (sIx (sV 1) (sC (.int 0))) lNil)))))))
def s_Cloth___init__ : Ss := g_Cloth___init__ n_first_uneven
def n_Cloth___init__ : FnI := fnI "Cloth" 3 s_Cloth___init__
section
variable {P : Program} {w : World} {K : Frag} {cl : String → Addr} {dk : Addr} {mg : Str → Option Value} {base : Heap} {A : Adr}
theorem ok_Cloth___init__ (T : Txt K cl mg A) : FnG P w K mg base 3 A.f_Cloth___init__ A.fd_Cloth___init__ ["self", "picks"] (SpI (gg K cl dk) "Cloth" 1 n_Cloth___init__) := by
    have G_first_uneven := ok_first_uneven (P := P) (w := w) (base := base) (dk := dk) T
    refine init_of_body (g := gg K cl dk) T.F_Cloth___init__ sc_Cloth___init__ rfl rfl fun cdv A0 outer sh H E p hr hgd => ?_
    unfold s_Cloth___init__ g_Cloth___init__
    exact (pds_cons (pds_if (PDW.pt (pdw_or (pdt_not (pdt_truth rfl (pd_isi (T := "tuple") rfl T.own (by decide) (pe_bltn (v := .ty "tuple") (u := .type "tuple") (by rfl) T.n_tuple (by decide +kernel) rfl) (by rfl) T.n_isinstance (pd_var (pv 1))) (by intro _; rfl))) (pdw_or1 (pdt_cmp (opd_eq rfl hr.units) (pd_var (pv 1)) (pd_tup pda_nil) (nomark _)))))
  (pds_one (pds_raise (ps_raiseBadCloth rfl T.x_BadCloth hr (takes_of rfl rfl rfl rfl) (by exact (pda_cons pd_str pda_nil)))))
  pds_nil)
  (pds_cons (pds_set (i := 2) sc_Cloth___init__.nd rfl (Or.inl rfl) (pd_call G_first_uneven (hr.mono (by first | decide | omega)) hgd rfl T.m_first_uneven T.F_first_uneven.kp T.b_first_uneven (takes_of rfl rfl rfl rfl) (by exact (pda_cons (pd_var (pv 1)) (pda_cons (pd_globS rfl T.c_SIGNS) pda_nil)))))
  (pds_cons (pds_if (pdt_cmp opd_isNot (pd_var (pv 2)) pd_non (nomark _))
  (pds_one (pds_raise (ps_raiseBadCloth rfl T.x_BadCloth hr (takes_of rfl rfl rfl rfl) (by exact (pda_cons (pd_var (pv 2)) pda_nil)))))
  pds_nil)
  (pds_cons (pds_setF (i := 0) (c := "Cloth") rfl T.oc_Cloth.cl T.na_Cloth_picks (pv 0) (pd_var (pv 1)))
  (pds_one (pds_setF (i := 0) (c := "Cloth") rfl T.oc_Cloth.cl T.na_Cloth_ends (pv 0) (pd_callB (callo_len rfl) (by rfl) T.n_len (by decide +kernel) (by exact (pda_cons (pd_ix rfl (pd_var (pv 1)) pd_int) pda_nil)))))))))
end
def g_Cloth___len__ : Ss :=
  (sRet (sApp (pureO lenD) (lCons (sFld ["Cloth"] "picks" (sV 0)) lNil)))
def s_Cloth___len__ : Ss := g_Cloth___len__
def n_Cloth___len__ : Fn := fnD 1 s_Cloth___len__
section
variable {P : Program} {w : World} {K : Frag} {cl : String → Addr} {dk : Addr} {mg : Str → Option Value} {base : Heap} {A : Adr}
theorem ok_Cloth___len__ (T : Txt K cl mg A) : FnG P w K mg base 1 A.f_Cloth___len__ A.fd_Cloth___len__ ["self"] (SpD (gg K cl dk) 1 n_Cloth___len__) := by
    refine fn_of_body (g := gg K cl dk) T.F_Cloth___len__ sc_Cloth___len__ rfl rfl fun cdv A0 outer sh H E hr hgd => ?_
    unfold s_Cloth___len__ g_Cloth___len__
    exact (pds_one (pds_ret (pd_callB (callo_len rfl) (by rfl) T.n_len (by decide +kernel) (by exact (pda_cons (pd_fld (cs := ["Cloth"]) rfl T.own T.nas_Cloth_picks (pd_var (pv 0))) pda_nil)))))
end
def g_Cloth___eq__ : Ss :=
  (sRet (sAnd (sIsC "Cloth" (sV 1)) (sOp eqD (sFld ["Cloth"] "picks" (sV 0)) (sFld ["Cloth"] "picks" (sV 1)))))
def s_Cloth___eq__ : Ss := g_Cloth___eq__
def n_Cloth___eq__ : Fn := fnD 2 s_Cloth___eq__
section
variable {P : Program} {w : World} {K : Frag} {cl : String → Addr} {dk : Addr} {mg : Str → Option Value} {base : Heap} {A : Adr}
theorem ok_Cloth___eq__ (T : Txt K cl mg A) : FnG P w K mg base 1 A.f_Cloth___eq__ A.fd_Cloth___eq__ ["self", "other"] (SpD (gg K cl dk) 2 n_Cloth___eq__) := by
    refine fn_of_body (g := gg K cl dk) T.F_Cloth___eq__ sc_Cloth___eq__ rfl rfl fun cdv A0 outer sh H E hr hgd => ?_
    unfold s_Cloth___eq__ g_Cloth___eq__
    exact (pds_one (pds_ret (pd_and rfl (pd_isiC (cn := "Cloth") rfl T.own (show _ ∈ OWN by decide) T.sub_Cloth (pe_glob (v := .ref _) rfl T.g_Cloth rfl) (by rfl) T.n_isinstance (pd_var (pv 1))) (pd_one (pd_cmp (opd_eq rfl hr.units) (pd_fld (cs := ["Cloth"]) rfl T.own T.nas_Cloth_picks (pd_var (pv 0))) (pd_fld (cs := ["Cloth"]) rfl T.own T.nas_Cloth_picks (pd_var (pv 1))) (nomark _))))))
end
def g_Cloth___str__ : Ss :=
  (sRet (sM1 joinD (sC (.str "\n")) (sFld ["Cloth"] "picks" (sV 0))))
def s_Cloth___str__ : Ss := g_Cloth___str__
def n_Cloth___str__ : Fn := fnD 1 s_Cloth___str__
section
variable {P : Program} {w : World} {K : Frag} {cl : String → Addr} {dk : Addr} {mg : Str → Option Value} {base : Heap} {A : Adr}
theorem ok_Cloth___str__ (T : Txt K cl mg A) : FnG P w K mg base 1 A.f_Cloth___str__ A.fd_Cloth___str__ ["self"] (SpD (gg K cl dk) 1 n_Cloth___str__) := by
    refine fn_of_body (g := gg K cl dk) T.F_Cloth___str__ sc_Cloth___str__ rfl rfl fun cdv A0 outer sh H E hr hgd => ?_
    unfold s_Cloth___str__ g_Cloth___str__
    exact (pds_one (pds_ret (pd_m1 PySem.F.slot_str_join PySem.F.type_str_join (mto_join rfl) pd_str (pd_fld (cs := ["Cloth"]) rfl T.own T.nas_Cloth_picks (pd_var (pv 0))))))
end
def g_Cloth_read (p_lines_of : Fn) (p_first_uneven : Fn) (p_Cloth___init__ : FnI) : Ss :=
  (sSeq (sSet 2 (sCall 1 p_lines_of (lCons (sV 1) lNil)))
  (sSeq (sSet 3 (sCall 2 p_first_uneven (lCons (sV 2) (lCons (sC (.str "x-")) lNil))))
  (sSeq (sIfS (sB (sOp (isD fun b => !b) (sV 3) (sC .non)))
  (sRaise "BadText" "line" (lCons (sOp plusD (sV 3) (sC (.int 1))) lNil))
  sSkip)
  (sRet (sOfC "Cloth" (sV 0) (sMake "Cloth" 1 p_Cloth___init__ (lCons (sApp (pureO tupleD) (lCons (sV 2) lNil)) lNil)))))))
def s_Cloth_read : Ss := g_Cloth_read n_lines_of n_first_uneven n_Cloth___init__
def n_Cloth_read : Fn := fnD 4 s_Cloth_read
section
variable {P : Program} {w : World} {K : Frag} {cl : String → Addr} {dk : Addr} {mg : Str → Option Value} {base : Heap} {A : Adr}
theorem ok_Cloth_read (T : Txt K cl mg A) : FnG P w K mg base 5 A.f_Cloth_read A.fd_Cloth_read ["cls", "text"] (SpD (gg K cl dk) 2 n_Cloth_read) := by
    have G_Cloth___init__ := ok_Cloth___init__ (P := P) (w := w) (base := base) (dk := dk) T
    have G_first_uneven := ok_first_uneven (P := P) (w := w) (base := base) (dk := dk) T
    have G_lines_of := ok_lines_of (P := P) (w := w) (base := base) (dk := dk) T
    refine fn_of_body (g := gg K cl dk) T.F_Cloth_read sc_Cloth_read rfl rfl fun cdv A0 outer sh H E hr hgd => ?_
    unfold s_Cloth_read g_Cloth_read
    exact (pds_cons (pds_set (i := 2) sc_Cloth_read.nd rfl (Or.inl rfl) (pd_call G_lines_of (hr.mono (by first | decide | omega)) hgd rfl T.m_lines_of T.F_lines_of.kp T.b_lines_of (takes_of rfl rfl rfl rfl) (by exact (pda_cons (pd_var (pv 1)) pda_nil))))
  (pds_cons (pds_set (i := 3) sc_Cloth_read.nd rfl (Or.inl rfl) (pd_call G_first_uneven (hr.mono (by first | decide | omega)) hgd rfl T.m_first_uneven T.F_first_uneven.kp T.b_first_uneven (takes_of rfl rfl rfl rfl) (by exact (pda_cons (pd_var (pv 2)) (pda_cons (pd_globS rfl T.c_SIGNS) pda_nil)))))
  (pds_cons (pds_if (pdt_cmp opd_isNot (pd_var (pv 3)) pd_non (nomark _))
  (pds_one (pds_raise (ps_raiseBadText rfl T.x_BadText hr (takes_of rfl rfl rfl rfl) (by exact (pda_cons (pd_op (opd_plus rfl) (pd_var (pv 3)) pd_int) pda_nil)))))
  pds_nil)
  (pds_one (pds_ret (pd_make (cn := "Cloth") rfl T.own (show _ ∈ OWN by decide) T.mk_Cloth G_Cloth___init__ (hr.mono (by first | decide | omega)) hgd T.b_Cloth___init__ (takes_of rfl rfl rfl rfl) (pd_var (pv 0)) (by exact (pda_cons (pd_callTy (callo_tuple rfl) (by rfl) T.n_tuple (by decide +kernel) (by exact (pda_cons (pd_var (pv 2)) pda_nil))) pda_nil))))))))
end
end C03
set_option Elab.async false
set_option linter.all false
set_option maxRecDepth 100000
set_option maxHeartbeats 4000000
namespace C03
open PySem PySem.Spec L2 DL
open PySem.W (Frag)

def g__law_pick (p__law_draw : Fn) : Ss :=
  (sRet (sIx (sV 1) (sCall 2 p__law_draw (lCons (sV 0) (lCons (sApp (pureO lenD) (lCons (sV 1) lNil)) lNil)))))
def s__law_pick : Ss := g__law_pick n__law_draw
def n__law_pick : Fn := fnD 2 s__law_pick
section
variable {P : Program} {w : World} {K : Frag} {cl : String → Addr} {dk : Addr} {mg : Str → Option Value} {base : Heap} {A : Adr}
theorem ok__law_pick (T : Txt K cl mg A) : FnG P w K mg base 2 A.f__law_pick A.fd__law_pick ["_law_deck_here", "_law_some"] (SpD (gg K cl dk) 2 n__law_pick) := by
    have G__law_draw := ok__law_draw (P := P) (w := w) (base := base) (dk := dk) T
    refine fn_of_body (g := gg K cl dk) T.F__law_pick sc__law_pick rfl rfl fun cdv A0 outer sh H E hr hgd => ?_
    unfold s__law_pick g__law_pick
    exact (pds_one (pds_ret (pd_ix rfl (pd_var (pv 1)) (pd_call G__law_draw (hr.mono (by first | decide | omega)) hgd rfl T.m__law_draw T.F__law_draw.kp T.b__law_draw (takes_of rfl rfl rfl rfl) (by exact (pda_cons (pd_var (pv 0)) (pda_cons (pd_callB (callo_len rfl) (by rfl) T.n_len (by decide +kernel) (by exact (pda_cons (pd_var (pv 1)) pda_nil))) pda_nil)))))))
end
def g__law_cloth (p__law_pick : Fn) (p__law_draw : Fn) : Ss :=
  (sSeq (sPar [1, 2] (mD (sCall 2 p__law_pick (lCons (sV 0) (lCons (sLst (lCons (sC (.int 1)) (lCons (sC (.int 2)) (lCons (sC (.int 3)) (lCons (sC (.int 4)) (lCons (sC (.int 4)) (lCons (sC (.int 5)) (lCons (sC (.int 6)) (lCons (sC (.int 8)) (lCons (sC (.int 12)) lNil)))))))))) lNil))) (mD (sCall 2 p__law_pick (lCons (sV 0) (lCons (sLst (lCons (sC (.int 1)) (lCons (sC (.int 2)) (lCons (sC (.int 3)) (lCons (sC (.int 4)) (lCons (sC (.int 4)) (lCons (sC (.int 5)) (lCons (sC (.int 6)) (lCons (sC (.int 8)) (lCons (sC (.int 12)) lNil)))))))))) lNil))) mNil)))
  (sSeq (sPar [3, 4] (mD (sCall 2 p__law_draw (lCons (sV 0) (lCons (sC (.int 5)) lNil))) (mD (sFrz (sComp (.name 5) [5] sYes (sCall 2 p__law_draw (lCons (sV 0) (lCons (sC (.int 2)) lNil))) (iRange1 (sV 2)))) mNil)))
  (sSeq (sPar [6, 7, 8] (mN (sNew lNil) (mD (sM1 joinD (sC (.str "")) (sFrz (sComp (.name 5) [5] sYes (sCall 2 p__law_pick (lCons (sV 0) (lCons (sC (.str "x-")) lNil))) (iRange1 (sV 2))))) (mD (sC (.bl true)) mNil))))
  (sSeq (sFor (.name 9) (iRange1 (sV 1))
  (sSeq (sIfS (sAndB (sB (sOp gtD (sV 9) (sC (.int 0)))) (sB (sOp eqD (sCall 2 p__law_draw (lCons (sV 0) (lCons (sC (.int 2)) lNil))) (sC (.int 0)))))
  (sSet 7 (sM1 joinD (sC (.str "")) (sFrz (sComp (.name 10) [10] sYes (sIf (sB (sOp eqD (sV 10) (sC (.str "x")))) (sC (.str "-")) (sC (.str "x"))) (iVal (sV 7))))))
  (sIfS (sOrB (sB (sOp neD (sV 3) (sC (.int 4)))) (sB (sOp eqD (sCall 2 p__law_draw (lCons (sV 0) (lCons (sC (.int 4)) lNil))) (sC (.int 0)))))
  (sPar [7, 8] (mD (sM1 joinD (sC (.str "")) (sFrz (sComp (.name 5) [5] sYes (sCall 2 p__law_pick (lCons (sV 0) (lCons (sC (.str "x-")) lNil))) (iRange1 (sV 2))))) (mD (sOp eqD (sCall 2 p__law_draw (lCons (sV 0) (lCons (sC (.int 2)) lNil))) (sC (.int 0))) mNil)))
  sSkip))
  (sSeq (sSet 11 (sV 7))
  (sSeq (sIfS (sB (sOp inD (sV 3) (sTup (lCons (sC (.int 1)) (lCons (sC (.int 2)) lNil)))))
  (sSet 11 (sM1 joinD (sC (.str "")) (sFrz (sComp (.name 5) [5] sYes (sIf (sB (sOp eqD (sOp eqD (sIx (sV 4) (sV 5)) (sC (.int 1))) (sV 8))) (sIx (sV 7) (sV 5)) (sIx (sC (.str "-x")) (sIx (sV 4) (sV 5)))) (iRange1 (sV 2))))))
  sSkip)
  (sApnd 6 (sV 11))))))
  (sFrzS 6 (sRet (sApp (pureO tupleD) (lCons (sV 6) lNil))))))))
def s__law_cloth : Ss := g__law_cloth n__law_pick n__law_draw
def n__law_cloth : Fn := fnD 12 s__law_cloth
section
variable {P : Program} {w : World} {K : Frag} {cl : String → Addr} {dk : Addr} {mg : Str → Option Value} {base : Heap} {A : Adr}
theorem ok__law_cloth (T : Txt K cl mg A) : FnG P w K mg base 3 A.f__law_cloth A.fd__law_cloth ["_law_deck_here"] (SpD (gg K cl dk) 1 n__law_cloth) := by
    have G__law_draw := ok__law_draw (P := P) (w := w) (base := base) (dk := dk) T
    have G__law_pick := ok__law_pick (P := P) (w := w) (base := base) (dk := dk) T
    refine fn_of_body (g := gg K cl dk) T.F__law_cloth sc__law_cloth rfl rfl fun cdv A0 outer sh H E hr hgd => ?_
    unfold s__law_cloth g__law_cloth
    exact (pds_cons (pds_par (i := 1) (j := 2) rfl sc__law_cloth.nd rfl rfl (by decide) rfl rfl (by exact (pdm_d (pd_call G__law_pick (hr.mono (by first | decide | omega)) hgd rfl T.m__law_pick T.F__law_pick.kp T.b__law_pick (takes_of rfl rfl rfl rfl) (by exact (pda_cons (pd_var (pv 0)) (pda_cons (pd_lst (pda_cons pd_int (pda_cons pd_int (pda_cons pd_int (pda_cons pd_int (pda_cons pd_int (pda_cons pd_int (pda_cons pd_int (pda_cons pd_int (pda_cons pd_int pda_nil)))))))))) pda_nil)))) (pdm_d (pd_call G__law_pick (hr.mono (by first | decide | omega)) hgd rfl T.m__law_pick T.F__law_pick.kp T.b__law_pick (takes_of rfl rfl rfl rfl) (by exact (pda_cons (pd_var (pv 0)) (pda_cons (pd_lst (pda_cons pd_int (pda_cons pd_int (pda_cons pd_int (pda_cons pd_int (pda_cons pd_int (pda_cons pd_int (pda_cons pd_int (pda_cons pd_int (pda_cons pd_int pda_nil)))))))))) pda_nil)))) pdm_nil))) (by rfl))
  (pds_cons (pds_parT (is := [3, 4]) rfl rfl (by decide) (pdgs_cons (pdg_name (i := 3) sc__law_cloth.nd rfl (Or.inl rfl)) (pdgs_cons (pdg_name (i := 4) sc__law_cloth.nd rfl (Or.inr rfl)) pdgs_nil)) (by exact (pdm_d (pd_call G__law_draw (hr.mono (by first | decide | omega)) hgd rfl T.m__law_draw T.F__law_draw.kp T.b__law_draw (takes_of rfl rfl rfl rfl) (by exact (pda_cons (pd_var (pv 0)) (pda_cons pd_int pda_nil)))) (pdm_d (pd_ofN (pdn_lc (own := [("_law_k", 5)]) (t := (.name 5)) rfl sc__law_cloth.nd (pdi_range1 (by rfl) T.n_range (pd_var (pv 2))) (blkOk_by (own := [("_law_k", 5)]) (N := ["_law_deck_here", "_law_many", "_law_wide", "_law_way", "_law_top", "_law_k", "_law_rows", "_law_own", "_law_is_upper", "_law_go", "_law_sign", "_law_row"]) (sc := defScope st__law_cloth) (by decide +kernel)) (by decide) (fun _ _ _ _ _ => (pdg_name (i := 5) sc__law_cloth.nd rfl (Or.inl rfl))) (fun _ _ _ _ _ => pdts_nil) (fun _ _ _ _ _ => (pd_call G__law_draw (hr.mono (by first | decide | omega)) hgd rfl T.m__law_draw T.F__law_draw.kp T.b__law_draw takes0 (by exact (pda_cons (pd_var (pv 0)) (pda_cons pd_int pda_nil))))))) pdm_nil))))
  (pds_cons (pds_parT (is := [6, 7, 8]) rfl rfl (by decide) (pdgs_cons (pdg_name (i := 6) sc__law_cloth.nd rfl (Or.inl rfl)) (pdgs_cons (pdg_name (i := 7) sc__law_cloth.nd rfl (Or.inr rfl)) (pdgs_cons (pdg_name (i := 8) sc__law_cloth.nd rfl (Or.inr rfl)) pdgs_nil))) (by exact (pdm_n (pdn_lst pda_nil) (pdm_d (pd_m1 PySem.F.slot_str_join PySem.F.type_str_join (mto_join rfl) pd_str (pd_ofN (pdn_lc (own := [("_law_k", 5)]) (t := (.name 5)) rfl sc__law_cloth.nd (pdi_range1 (by rfl) T.n_range (pd_var (pv 2))) (blkOk_by (own := [("_law_k", 5)]) (N := ["_law_deck_here", "_law_many", "_law_wide", "_law_way", "_law_top", "_law_k", "_law_rows", "_law_own", "_law_is_upper", "_law_go", "_law_sign", "_law_row"]) (sc := defScope st__law_cloth) (by decide +kernel)) (by decide) (fun _ _ _ _ _ => (pdg_name (i := 5) sc__law_cloth.nd rfl (Or.inl rfl))) (fun _ _ _ _ _ => pdts_nil) (fun _ _ _ _ _ => (pd_call G__law_pick (hr.mono (by first | decide | omega)) hgd rfl T.m__law_pick T.F__law_pick.kp T.b__law_pick takes0 (by exact (pda_cons (pd_var (pv 0)) (pda_cons pd_str pda_nil)))))))) (pdm_d pd_bl pdm_nil)))))
  (pds_cons (pds_for (tt := (.name 9)) (passes_of rfl) rfl (pdi_range1 (by rfl) T.n_range (pd_var (pv 1))) (pdg_name (i := 9) sc__law_cloth.nd rfl (Or.inl rfl))
  (pds_cons (pds_if (PDW.pt (pdw_and (pdt_cmp opd_gt (pd_var (pv 9)) pd_int (nomark _)) (pdw_and1 (pdt_cmp (opd_eq rfl hr.units) (pd_call G__law_draw (hr.mono (by first | decide | omega)) hgd rfl T.m__law_draw T.F__law_draw.kp T.b__law_draw (takes_of rfl rfl rfl rfl) (by exact (pda_cons (pd_var (pv 0)) (pda_cons pd_int pda_nil)))) pd_int (nomark _)))))
  (pds_one (pds_set (i := 7) sc__law_cloth.nd rfl (Or.inr rfl) (pd_m1 PySem.F.slot_str_join PySem.F.type_str_join (mto_join rfl) pd_str (pd_ofN (pdn_lc (own := [("_law_sign", 10)]) (t := (.name 10)) rfl sc__law_cloth.nd (pdi_val rfl (pd_var (pv 7))) (blkOk_by (own := [("_law_sign", 10)]) (N := ["_law_deck_here", "_law_many", "_law_wide", "_law_way", "_law_top", "_law_k", "_law_rows", "_law_own", "_law_is_upper", "_law_go", "_law_sign", "_law_row"]) (sc := defScope st__law_cloth) (by decide +kernel)) (by decide) (fun _ _ _ _ _ => (pdg_name (i := 10) sc__law_cloth.nd rfl (Or.inl rfl))) (fun _ _ _ _ _ => pdts_nil) (fun _ _ _ _ _ => (pd_if (pdt_cmp (opd_eq rfl hr.units) (pd_var (pv 10)) pd_str (nomark _)) pd_str pd_str)))))))
  (pds_one (pds_if (PDW.pt (pdw_or (pdt_cmp (opd_ne rfl hr.units) (pd_var (pv 3)) pd_int (nomark _)) (pdw_or1 (pdt_cmp (opd_eq rfl hr.units) (pd_call G__law_draw (hr.mono (by first | decide | omega)) hgd rfl T.m__law_draw T.F__law_draw.kp T.b__law_draw (takes_of rfl rfl rfl rfl) (by exact (pda_cons (pd_var (pv 0)) (pda_cons pd_int pda_nil)))) pd_int (nomark _)))))
  (pds_one (pds_parT (is := [7, 8]) rfl rfl (by decide) (pdgs_cons (pdg_name (i := 7) sc__law_cloth.nd rfl (Or.inr rfl)) (pdgs_cons (pdg_name (i := 8) sc__law_cloth.nd rfl (Or.inr rfl)) pdgs_nil)) (by exact (pdm_d (pd_m1 PySem.F.slot_str_join PySem.F.type_str_join (mto_join rfl) pd_str (pd_ofN (pdn_lc (own := [("_law_k", 5)]) (t := (.name 5)) rfl sc__law_cloth.nd (pdi_range1 (by rfl) T.n_range (pd_var (pv 2))) (blkOk_by (own := [("_law_k", 5)]) (N := ["_law_deck_here", "_law_many", "_law_wide", "_law_way", "_law_top", "_law_k", "_law_rows", "_law_own", "_law_is_upper", "_law_go", "_law_sign", "_law_row"]) (sc := defScope st__law_cloth) (by decide +kernel)) (by decide) (fun _ _ _ _ _ => (pdg_name (i := 5) sc__law_cloth.nd rfl (Or.inl rfl))) (fun _ _ _ _ _ => pdts_nil) (fun _ _ _ _ _ => (pd_call G__law_pick (hr.mono (by first | decide | omega)) hgd rfl T.m__law_pick T.F__law_pick.kp T.b__law_pick takes0 (by exact (pda_cons (pd_var (pv 0)) (pda_cons pd_str pda_nil)))))))) (pdm_d (pd_cmp (opd_eq rfl hr.units) (pd_call G__law_draw (hr.mono (by first | decide | omega)) hgd rfl T.m__law_draw T.F__law_draw.kp T.b__law_draw (takes_of rfl rfl rfl rfl) (by exact (pda_cons (pd_var (pv 0)) (pda_cons pd_int pda_nil)))) pd_int (nomark _)) pdm_nil)))))
  pds_nil)))
  (pds_cons (pds_set (i := 11) sc__law_cloth.nd rfl (Or.inl rfl) (pd_var (pv 7)))
  (pds_cons (pds_if (pdt_cmp (opd_in rfl) (pd_var (pv 3)) (pd_tup (pda_cons pd_int (pda_cons pd_int pda_nil))) (by rfl))
  (pds_one (pds_set (i := 11) sc__law_cloth.nd rfl (Or.inl rfl) (pd_m1 PySem.F.slot_str_join PySem.F.type_str_join (mto_join rfl) pd_str (pd_ofN (pdn_lc (own := [("_law_k", 5)]) (t := (.name 5)) rfl sc__law_cloth.nd (pdi_range1 (by rfl) T.n_range (pd_var (pv 2))) (blkOk_by (own := [("_law_k", 5)]) (N := ["_law_deck_here", "_law_many", "_law_wide", "_law_way", "_law_top", "_law_k", "_law_rows", "_law_own", "_law_is_upper", "_law_go", "_law_sign", "_law_row"]) (sc := defScope st__law_cloth) (by decide +kernel)) (by decide) (fun _ _ _ _ _ => (pdg_name (i := 5) sc__law_cloth.nd rfl (Or.inl rfl))) (fun _ _ _ _ _ => pdts_nil) (fun _ _ _ _ _ => (pd_if (pdt_cmp (opd_eq rfl hr.units) (pd_cmp (opd_eq rfl hr.units) (pd_ix rfl (pd_var (pv 4)) (pd_var (pv 5))) pd_int (nomark _)) (pd_var (pv 8)) (nomark _)) (pd_ix rfl (pd_var (pv 7)) (pd_var (pv 5))) (pd_ix rfl pd_str (pd_ix rfl (pd_var (pv 4)) (pd_var (pv 5)))))))))))
  pds_nil)
  (pds_one (pds_append (i := 6) rfl (pv 6) (pd_var (pv 11))))))))
  (pds_one (pds_frz (i := 6) (pds_ret (pd_callTy (callo_tuple rfl) (by rfl) T.n_tuple (by decide +kernel) (by exact (pda_cons (pd_var (pv 6)) pda_nil))))))))))
end
def g__law_odd (p__law_pick : Fn) : Ss :=
  (sSeq (sSet 2 (sLst (lCons (sC .non) (lCons (sC (.bl true)) (lCons (sC (.bl false)) (lCons (sC (.int 0)) (lCons (sC (.int 1)) (lCons (sNeg (sC (.int 1))) (lCons (sC (.int 2)) (lCons (sC (.int 99)) (lCons (sC (.int 100)) (lCons (sOp powD (sC (.int 10)) (sC (.int 39))) (lCons (sC (.str "")) (lCons (sC (.str "x")) (lCons (sC (.str "-")) (lCons (sC (.str "ab")) (lCons (sC (.str "x-")) (lCons (sC (.str "A")) (lCons (sTup lNil) (lCons (sTup (lCons (sC (.int 0)) lNil)) (lCons (sTup (lCons (sC (.int 1)) (lCons (sC (.int 0)) lNil))) (lCons (sTup (lCons (sC (.int 0)) (lCons (sC (.int 0)) lNil))) lNil))))))))))))))))))))))
  (sSeq (sSet 2 (sOp plusD (sV 2) (sLst (lCons (sLst lNil) (lCons (sC (.dct [])) (lCons (sTup (lCons (sTup lNil) lNil)) (lCons (sTup (lCons (sC (.bl true)) lNil)) (lCons (sTup (lCons (sC (.str "a")) lNil)) (lCons (sTup (lCons (sC (.int 0)) (lCons (sC (.int 1)) lNil))) (lCons (sTup (lCons (sTup (lCons (sC (.int 0)) lNil)) (lCons (sTup (lCons (sC (.int 1)) lNil)) lNil))) lNil))))))))))
  (sSeq (sIfS (sTru (sIsi "tuple" (sV 1)))
  (sSet 2 (sOp plusD (sV 2) (sOp timesD (sLst (lCons (sFrz (iVal (sV 1))) (lCons (sSl (sV 1) (oSome (sC (.int 1))) oNone) (lCons (sSl (sV 1) oNone (oSome (sNeg (sC (.int 1))))) (lCons (sOp plusD (sV 1) (sSl (sV 1) (oSome (sNeg (sC (.int 1)))) oNone)) (lCons (sRev (sV 1)) (lCons (sTup (lCons (sV 1) lNil)) lNil))))))) (sC (.int 2)))))
  sSkip)
  (sSeq (sIfS (sTru (sIsi "int" (sV 1)))
  (sSet 2 (sOp plusD (sV 2) (sOp timesD (sLst (lCons (sOp plusD (sV 1) (sC (.int 1))) (lCons (sOp minusD (sV 1) (sC (.int 1))) (lCons (sOp eqD (sV 1) (sC (.int 1))) (lCons (sApp textD (lCons (sV 1) lNil)) lNil))))) (sC (.int 3)))))
  sSkip)
  (sSeq (sIfS (sTru (sIsi "str" (sV 1)))
  (sSet 2 (sOp plusD (sV 2) (sOp timesD (sLst (lCons (sOp plusD (sV 1) (sC (.str "x"))) (lCons (sSl (sV 1) (oSome (sC (.int 1))) oNone) (lCons (sRev (sV 1)) (lCons (sM0 upperD (sV 1)) (lCons (sFrz (iVal (sV 1))) (lCons (sOp plusD (sV 1) (sC (.str " "))) lNil))))))) (sC (.int 2)))))
  sSkip)
  (sRet (sCall 2 p__law_pick (lCons (sV 0) (lCons (sV 2) lNil)))))))))
def s__law_odd : Ss := g__law_odd n__law_pick
def n__law_odd : Fn := fnD 3 s__law_odd
section
variable {P : Program} {w : World} {K : Frag} {cl : String → Addr} {dk : Addr} {mg : Str → Option Value} {base : Heap} {A : Adr}
theorem ok__law_odd (T : Txt K cl mg A) : FnG P w K mg base 3 A.f__law_odd A.fd__law_odd ["_law_deck_here", "_law_it"] (SpD (gg K cl dk) 2 n__law_odd) := by
    have G__law_pick := ok__law_pick (P := P) (w := w) (base := base) (dk := dk) T
    refine fn_of_body (g := gg K cl dk) T.F__law_odd sc__law_odd rfl rfl fun cdv A0 outer sh H E hr hgd => ?_
    unfold s__law_odd g__law_odd
    exact (pds_cons (pds_set (i := 2) sc__law_odd.nd rfl (Or.inl rfl) (pd_lst (pda_cons pd_non (pda_cons pd_bl (pda_cons pd_bl (pda_cons pd_int (pda_cons pd_int (pda_cons (pd_neg' pd_int) (pda_cons pd_int (pda_cons pd_int (pda_cons pd_int (pda_cons (pd_op opd_pow pd_int pd_int) (pda_cons pd_str (pda_cons pd_str (pda_cons pd_str (pda_cons pd_str (pda_cons pd_str (pda_cons pd_str (pda_cons (pd_tup pda_nil) (pda_cons (pd_tup (pda_cons pd_int pda_nil)) (pda_cons (pd_tup (pda_cons pd_int (pda_cons pd_int pda_nil))) (pda_cons (pd_tup (pda_cons pd_int (pda_cons pd_int pda_nil))) pda_nil))))))))))))))))))))))
  (pds_cons (pds_set (i := 2) sc__law_odd.nd rfl (Or.inl rfl) (pd_op (opd_plus rfl) (pd_var (pv 2)) (pd_lst (pda_cons (pd_lst pda_nil) (pda_cons pd_dnew (pda_cons (pd_tup (pda_cons (pd_tup pda_nil) pda_nil)) (pda_cons (pd_tup (pda_cons pd_bl pda_nil)) (pda_cons (pd_tup (pda_cons pd_str pda_nil)) (pda_cons (pd_tup (pda_cons pd_int (pda_cons pd_int pda_nil))) (pda_cons (pd_tup (pda_cons (pd_tup (pda_cons pd_int pda_nil)) (pda_cons (pd_tup (pda_cons pd_int pda_nil)) pda_nil))) pda_nil))))))))))
  (pds_cons (pds_if (pdt_truth rfl (pd_isi (T := "tuple") rfl T.own (by decide) (pe_bltn (v := .ty "tuple") (u := .type "tuple") (by rfl) T.n_tuple (by decide +kernel) rfl) (by rfl) T.n_isinstance (pd_var (pv 1))) (by intro _; rfl))
  (pds_one (pds_set (i := 2) sc__law_odd.nd rfl (Or.inl rfl) (pd_op (opd_plus rfl) (pd_var (pv 2)) (pd_op (opd_times rfl) (pd_lst (pda_cons (pd_ofN (pdn_list rfl rfl (by rfl) T.n_list (by decide +kernel) (pd_var (pv 1)))) (pda_cons (pd_slice rfl (pd_var (pv 1)) (pdo_some pd_int) pdo_none) (pda_cons (pd_slice rfl (pd_var (pv 1)) pdo_none (pdo_some (pd_neg' pd_int))) (pda_cons (pd_op (opd_plus rfl) (pd_var (pv 1)) (pd_slice rfl (pd_var (pv 1)) (pdo_some (pd_neg' pd_int)) pdo_none)) (pda_cons (pd_rev rfl (pd_var (pv 1))) (pda_cons (pd_tup (pda_cons (pd_var (pv 1)) pda_nil)) pda_nil))))))) pd_int))))
  pds_nil)
  (pds_cons (pds_if (pdt_truth rfl (pd_isi (T := "int") rfl T.own (by decide) (pe_bltn (v := .ty "int") (u := .type "int") (by rfl) T.n_int (by decide +kernel) rfl) (by rfl) T.n_isinstance (pd_var (pv 1))) (by intro _; rfl))
  (pds_one (pds_set (i := 2) sc__law_odd.nd rfl (Or.inl rfl) (pd_op (opd_plus rfl) (pd_var (pv 2)) (pd_op (opd_times rfl) (pd_lst (pda_cons (pd_op (opd_plus rfl) (pd_var (pv 1)) pd_int) (pda_cons (pd_op opd_minus (pd_var (pv 1)) pd_int) (pda_cons (pd_cmp (opd_eq rfl hr.units) (pd_var (pv 1)) pd_int (nomark _)) (pda_cons (pd_callTy callo_text (by rfl) T.n_str (by decide +kernel) (by exact (pda_cons (pd_var (pv 1)) pda_nil))) pda_nil))))) pd_int))))
  pds_nil)
  (pds_cons (pds_if (pdt_truth rfl (pd_isi (T := "str") rfl T.own (by decide) (pe_bltn (v := .ty "str") (u := .type "str") (by rfl) T.n_str (by decide +kernel) rfl) (by rfl) T.n_isinstance (pd_var (pv 1))) (by intro _; rfl))
  (pds_one (pds_set (i := 2) sc__law_odd.nd rfl (Or.inl rfl) (pd_op (opd_plus rfl) (pd_var (pv 2)) (pd_op (opd_times rfl) (pd_lst (pda_cons (pd_op (opd_plus rfl) (pd_var (pv 1)) pd_str) (pda_cons (pd_slice rfl (pd_var (pv 1)) (pdo_some pd_int) pdo_none) (pda_cons (pd_rev rfl (pd_var (pv 1))) (pda_cons (pd_m0 PySem.F.slot_str_upper PySem.F.type_str_upper mto_upper (pd_var (pv 1))) (pda_cons (pd_ofN (pdn_list rfl rfl (by rfl) T.n_list (by decide +kernel) (pd_var (pv 1)))) (pda_cons (pd_op (opd_plus rfl) (pd_var (pv 1)) pd_str) pda_nil))))))) pd_int))))
  pds_nil)
  (pds_one (pds_ret (pd_call G__law_pick (hr.mono (by first | decide | omega)) hgd rfl T.m__law_pick T.F__law_pick.kp T.b__law_pick (takes_of rfl rfl rfl rfl) (by exact (pda_cons (pd_var (pv 0)) (pda_cons (pd_var (pv 2)) pda_nil)))))))))))
end
def g__law_bent (p__law_draw : Fn) (p__law_odd : Fn) (rec_ : Fn) : Ss :=
  (sSeq (sIfS (sOrB (sB (sOp eqD (sV 2) (sC (.int 0)))) (sOrB (sNotB (sTru (sIsi "tuple" (sV 1)))) (sOrB (sB (sOp eqD (sV 1) (sTup lNil))) (sB (sOp eqD (sCall 2 p__law_draw (lCons (sV 0) (lCons (sC (.int 5)) lNil))) (sC (.int 0)))))))
  (sRet (sCall 2 p__law_odd (lCons (sV 0) (lCons (sV 1) lNil))))
  sSkip)
  (sSeq (sSet 3 (sCall 2 p__law_draw (lCons (sV 0) (lCons (sApp (pureO lenD) (lCons (sV 1) lNil)) lNil))))
  (sRet (sOp plusD (sOp plusD (sSl (sV 1) oNone (oSome (sV 3))) (sTup (lCons (sCall 3 rec_ (lCons (sV 0) (lCons (sIx (sV 1) (sV 3)) (lCons (sOp minusD (sV 2) (sC (.int 1))) lNil)))) lNil))) (sSl (sV 1) (oSome (sOp plusD (sV 3) (sC (.int 1)))) oNone)))))
def s__law_bent (rec_ : Fn) : Ss := g__law_bent n__law_draw n__law_odd rec_
def n__law_bent : Nat → Fn
  | 0 => fun _ _ => .bad
  | r + 1 => fnD 4 (s__law_bent (n__law_bent r))
section
variable {P : Program} {w : World} {K : Frag} {cl : String → Addr} {dk : Addr} {mg : Str → Option Value} {base : Heap} {A : Adr}
theorem ok__law_bent (T : Txt K cl mg A) : ∀ r : Nat, FnG P w K mg base (4 + r) A.f__law_bent A.fd__law_bent ["_law_deck_here", "_law_it", "_law_deep"] (SpD (gg K cl dk) 3 (n__law_bent r))
  | 0 => fnG_never (by decide)
  | r + 1 => by
    have G__law_bent := ok__law_bent T r
    have G__law_draw := ok__law_draw (P := P) (w := w) (base := base) (dk := dk) T
    have G__law_odd := ok__law_odd (P := P) (w := w) (base := base) (dk := dk) T
    refine fn_of_body (g := gg K cl dk) (k := 4 + r) T.F__law_bent sc__law_bent rfl rfl fun cdv A0 outer sh H E hr hgd => ?_
    unfold s__law_bent g__law_bent
    exact (pds_cons (pds_if (PDW.pt (pdw_or (pdt_cmp (opd_eq rfl hr.units) (pd_var (pv 2)) pd_int (nomark _)) (pdw_or (pdt_not (pdt_truth rfl (pd_isi (T := "tuple") rfl T.own (by decide) (pe_bltn (v := .ty "tuple") (u := .type "tuple") (by rfl) T.n_tuple (by decide +kernel) rfl) (by rfl) T.n_isinstance (pd_var (pv 1))) (by intro _; rfl))) (pdw_or (pdt_cmp (opd_eq rfl hr.units) (pd_var (pv 1)) (pd_tup pda_nil) (nomark _)) (pdw_or1 (pdt_cmp (opd_eq rfl hr.units) (pd_call G__law_draw (hr.mono (by first | decide | omega)) hgd rfl T.m__law_draw T.F__law_draw.kp T.b__law_draw (takes_of rfl rfl rfl rfl) (by exact (pda_cons (pd_var (pv 0)) (pda_cons pd_int pda_nil)))) pd_int (nomark _)))))))
  (pds_one (pds_ret (pd_call G__law_odd (hr.mono (by first | decide | omega)) hgd rfl T.m__law_odd T.F__law_odd.kp T.b__law_odd (takes_of rfl rfl rfl rfl) (by exact (pda_cons (pd_var (pv 0)) (pda_cons (pd_var (pv 1)) pda_nil))))))
  pds_nil)
  (pds_cons (pds_set (i := 3) sc__law_bent.nd rfl (Or.inl rfl) (pd_call G__law_draw (hr.mono (by first | decide | omega)) hgd rfl T.m__law_draw T.F__law_draw.kp T.b__law_draw (takes_of rfl rfl rfl rfl) (by exact (pda_cons (pd_var (pv 0)) (pda_cons (pd_callB (callo_len rfl) (by rfl) T.n_len (by decide +kernel) (by exact (pda_cons (pd_var (pv 1)) pda_nil))) pda_nil)))))
  (pds_one (pds_ret (pd_op (opd_plus rfl) (pd_op (opd_plus rfl) (pd_slice rfl (pd_var (pv 1)) pdo_none (pdo_some (pd_var (pv 3)))) (pd_tup (pda_cons (pd_call G__law_bent (hr.mono (by first | decide | omega)) hgd rfl T.m__law_bent T.F__law_bent.kp T.b__law_bent (takes_of rfl rfl rfl rfl) (by exact (pda_cons (pd_var (pv 0)) (pda_cons (pd_ix rfl (pd_var (pv 1)) (pd_var (pv 3))) (pda_cons (pd_op opd_minus (pd_var (pv 2)) pd_int) pda_nil))))) pda_nil))) (pd_slice rfl (pd_var (pv 1)) (pdo_some (pd_op (opd_plus rfl) (pd_var (pv 3)) pd_int)) pdo_none))))))
end
def g__law_page_bent (p__law_draw : Fn) (p__law_pick : Fn) : Ss :=
  (sSeq (sPar [3, 4] (mD (sCall 2 p__law_draw (lCons (sV 0) (lCons (sC (.int 9)) lNil))) (mD (sCall 2 p__law_draw (lCons (sV 0) (lCons (sOp plusD (sApp (pureO lenD) (lCons (sV 1) lNil)) (sC (.int 1))) lNil))) mNil)))
  (sSeq (sIfS (sB (sOp ltD (sV 3) (sC (.int 3))))
  (sSeq (sSet 5 (sCall 2 p__law_pick (lCons (sV 0) (lCons (sLst (lCons (sC (.str "0")) (lCons (sC (.str "1")) (lCons (sC (.str "9")) (lCons (sC (.str "a")) (lCons (sC (.str "x")) (lCons (sC (.str "-")) (lCons (sC (.str " ")) (lCons (sC (.str "\n")) (lCons (sC (.str "")) (lCons (sC (.str "A")) (lCons (sC (.str "+")) (lCons (sC (.str "00")) lNil))))))))))))) lNil))))
  (sRet (sOp plusD (sOp plusD (sSl (sV 1) oNone (oSome (sV 4))) (sV 5)) (sSl (sV 1) (oSome (sOp plusD (sV 4) (sV 3))) oNone))))
  sSkip)
  (sSeq (sSet 6 (sM1 splitD (sV 1) (sC (.str "\n"))))
  (sSeq (sSet 7 (sCall 2 p__law_draw (lCons (sV 0) (lCons (sApp (pureO lenD) (lCons (sV 6) lNil)) lNil))))
  (sSeq (sIfS (sB (sOp eqD (sV 3) (sC (.int 3))))
  (sRet (sM1 joinD (sC (.str "\n")) (sOp plusD (sSl (sV 6) oNone (oSome (sV 7))) (sSl (sV 6) (oSome (sOp plusD (sV 7) (sC (.int 1)))) oNone))))
  sSkip)
  (sSeq (sIfS (sB (sOp eqD (sV 3) (sC (.int 4))))
  (sRet (sM1 joinD (sC (.str "\n")) (sOp plusD (sSl (sV 6) oNone (oSome (sOp plusD (sV 7) (sC (.int 1))))) (sSl (sV 6) (oSome (sV 7)) oNone))))
  sSkip)
  (sSeq (sIfS (sB (sOp eqD (sV 3) (sC (.int 5))))
  (sRet (sM1 joinD (sC (.str "\n")) (sOp plusD (sOp plusD (sSl (sV 6) oNone (oSome (sV 7))) (sRev (sSl (sV 6) (oSome (sV 7)) (oSome (sOp plusD (sV 7) (sC (.int 2))))))) (sSl (sV 6) (oSome (sOp plusD (sV 7) (sC (.int 2)))) oNone))))
  sSkip)
  (sSeq (sSet 8 (sM1 splitD (sIx (sV 6) (sV 7)) (sC (.str " "))))
  (sSeq (sSet 9 (sCall 2 p__law_draw (lCons (sV 0) (lCons (sApp (pureO lenD) (lCons (sV 8) lNil)) lNil))))
  (sSeq (sSet 8 (sOp plusD (sOp plusD (sSl (sV 8) oNone (oSome (sV 9))) (sLst (lCons (sCall 2 p__law_pick (lCons (sV 0) (lCons (sV 2) lNil))) lNil))) (sSl (sV 8) (oSome (sOp minusD (sOp plusD (sV 9) (sV 3)) (sC (.int 6)))) oNone)))
  (sRet (sM1 joinD (sC (.str "\n")) (sOp plusD (sOp plusD (sSl (sV 6) oNone (oSome (sV 7))) (sLst (lCons (sM1 joinD (sC (.str " ")) (sV 8)) lNil))) (sSl (sV 6) (oSome (sOp plusD (sV 7) (sC (.int 1)))) oNone))))))))))))))
def s__law_page_bent : Ss := g__law_page_bent n__law_draw n__law_pick
def n__law_page_bent : Fn := fnD 10 s__law_page_bent
section
variable {P : Program} {w : World} {K : Frag} {cl : String → Addr} {dk : Addr} {mg : Str → Option Value} {base : Heap} {A : Adr}
theorem ok__law_page_bent (T : Txt K cl mg A) : FnG P w K mg base 3 A.f__law_page_bent A.fd__law_page_bent ["_law_deck_here", "_law_page", "_law_some"] (SpD (gg K cl dk) 3 n__law_page_bent) := by
    have G__law_draw := ok__law_draw (P := P) (w := w) (base := base) (dk := dk) T
    have G__law_pick := ok__law_pick (P := P) (w := w) (base := base) (dk := dk) T
    refine fn_of_body (g := gg K cl dk) T.F__law_page_bent sc__law_page_bent rfl rfl fun cdv A0 outer sh H E hr hgd => ?_
    unfold s__law_page_bent g__law_page_bent
    exact (pds_cons (pds_par (i := 3) (j := 4) rfl sc__law_page_bent.nd rfl rfl (by decide) rfl rfl (by exact (pdm_d (pd_call G__law_draw (hr.mono (by first | decide | omega)) hgd rfl T.m__law_draw T.F__law_draw.kp T.b__law_draw (takes_of rfl rfl rfl rfl) (by exact (pda_cons (pd_var (pv 0)) (pda_cons pd_int pda_nil)))) (pdm_d (pd_call G__law_draw (hr.mono (by first | decide | omega)) hgd rfl T.m__law_draw T.F__law_draw.kp T.b__law_draw (takes_of rfl rfl rfl rfl) (by exact (pda_cons (pd_var (pv 0)) (pda_cons (pd_op (opd_plus rfl) (pd_callB (callo_len rfl) (by rfl) T.n_len (by decide +kernel) (by exact (pda_cons (pd_var (pv 1)) pda_nil))) pd_int) pda_nil)))) pdm_nil))) (by rfl))
  (pds_cons (pds_if (pdt_cmp opd_lt (pd_var (pv 3)) pd_int (nomark _))
  (pds_cons (pds_set (i := 5) sc__law_page_bent.nd rfl (Or.inl rfl) (pd_call G__law_pick (hr.mono (by first | decide | omega)) hgd rfl T.m__law_pick T.F__law_pick.kp T.b__law_pick (takes_of rfl rfl rfl rfl) (by exact (pda_cons (pd_var (pv 0)) (pda_cons (pd_lst (pda_cons pd_str (pda_cons pd_str (pda_cons pd_str (pda_cons pd_str (pda_cons pd_str (pda_cons pd_str (pda_cons pd_str (pda_cons pd_str (pda_cons pd_str (pda_cons pd_str (pda_cons pd_str (pda_cons pd_str pda_nil))))))))))))) pda_nil)))))
  (pds_one (pds_ret (pd_op (opd_plus rfl) (pd_op (opd_plus rfl) (pd_slice rfl (pd_var (pv 1)) pdo_none (pdo_some (pd_var (pv 4)))) (pd_var (pv 5))) (pd_slice rfl (pd_var (pv 1)) (pdo_some (pd_op (opd_plus rfl) (pd_var (pv 4)) (pd_var (pv 3)))) pdo_none)))))
  pds_nil)
  (pds_cons (pds_set (i := 6) sc__law_page_bent.nd rfl (Or.inl rfl) (pd_m1 PySem.F.slot_str_split PySem.F.type_str_split mto_split (pd_var (pv 1)) pd_str))
  (pds_cons (pds_set (i := 7) sc__law_page_bent.nd rfl (Or.inl rfl) (pd_call G__law_draw (hr.mono (by first | decide | omega)) hgd rfl T.m__law_draw T.F__law_draw.kp T.b__law_draw (takes_of rfl rfl rfl rfl) (by exact (pda_cons (pd_var (pv 0)) (pda_cons (pd_callB (callo_len rfl) (by rfl) T.n_len (by decide +kernel) (by exact (pda_cons (pd_var (pv 6)) pda_nil))) pda_nil)))))
  (pds_cons (pds_if (pdt_cmp (opd_eq rfl hr.units) (pd_var (pv 3)) pd_int (nomark _))
  (pds_one (pds_ret (pd_m1 PySem.F.slot_str_join PySem.F.type_str_join (mto_join rfl) pd_str (pd_op (opd_plus rfl) (pd_slice rfl (pd_var (pv 6)) pdo_none (pdo_some (pd_var (pv 7)))) (pd_slice rfl (pd_var (pv 6)) (pdo_some (pd_op (opd_plus rfl) (pd_var (pv 7)) pd_int)) pdo_none)))))
  pds_nil)
  (pds_cons (pds_if (pdt_cmp (opd_eq rfl hr.units) (pd_var (pv 3)) pd_int (nomark _))
  (pds_one (pds_ret (pd_m1 PySem.F.slot_str_join PySem.F.type_str_join (mto_join rfl) pd_str (pd_op (opd_plus rfl) (pd_slice rfl (pd_var (pv 6)) pdo_none (pdo_some (pd_op (opd_plus rfl) (pd_var (pv 7)) pd_int))) (pd_slice rfl (pd_var (pv 6)) (pdo_some (pd_var (pv 7))) pdo_none)))))
  pds_nil)
  (pds_cons (pds_if (pdt_cmp (opd_eq rfl hr.units) (pd_var (pv 3)) pd_int (nomark _))
  (pds_one (pds_ret (pd_m1 PySem.F.slot_str_join PySem.F.type_str_join (mto_join rfl) pd_str (pd_op (opd_plus rfl) (pd_op (opd_plus rfl) (pd_slice rfl (pd_var (pv 6)) pdo_none (pdo_some (pd_var (pv 7)))) (pd_rev rfl (pd_slice rfl (pd_var (pv 6)) (pdo_some (pd_var (pv 7))) (pdo_some (pd_op (opd_plus rfl) (pd_var (pv 7)) pd_int))))) (pd_slice rfl (pd_var (pv 6)) (pdo_some (pd_op (opd_plus rfl) (pd_var (pv 7)) pd_int)) pdo_none)))))
  pds_nil)
  (pds_cons (pds_set (i := 8) sc__law_page_bent.nd rfl (Or.inl rfl) (pd_m1 PySem.F.slot_str_split PySem.F.type_str_split mto_split (pd_ix rfl (pd_var (pv 6)) (pd_var (pv 7))) pd_str))
  (pds_cons (pds_set (i := 9) sc__law_page_bent.nd rfl (Or.inl rfl) (pd_call G__law_draw (hr.mono (by first | decide | omega)) hgd rfl T.m__law_draw T.F__law_draw.kp T.b__law_draw (takes_of rfl rfl rfl rfl) (by exact (pda_cons (pd_var (pv 0)) (pda_cons (pd_callB (callo_len rfl) (by rfl) T.n_len (by decide +kernel) (by exact (pda_cons (pd_var (pv 8)) pda_nil))) pda_nil)))))
  (pds_cons (pds_set (i := 8) sc__law_page_bent.nd rfl (Or.inl rfl) (pd_op (opd_plus rfl) (pd_op (opd_plus rfl) (pd_slice rfl (pd_var (pv 8)) pdo_none (pdo_some (pd_var (pv 9)))) (pd_lst (pda_cons (pd_call G__law_pick (hr.mono (by first | decide | omega)) hgd rfl T.m__law_pick T.F__law_pick.kp T.b__law_pick (takes_of rfl rfl rfl rfl) (by exact (pda_cons (pd_var (pv 0)) (pda_cons (pd_var (pv 2)) pda_nil)))) pda_nil))) (pd_slice rfl (pd_var (pv 8)) (pdo_some (pd_op opd_minus (pd_op (opd_plus rfl) (pd_var (pv 9)) (pd_var (pv 3))) pd_int)) pdo_none)))
  (pds_one (pds_ret (pd_m1 PySem.F.slot_str_join PySem.F.type_str_join (mto_join rfl) pd_str (pd_op (opd_plus rfl) (pd_op (opd_plus rfl) (pd_slice rfl (pd_var (pv 6)) pdo_none (pdo_some (pd_var (pv 7)))) (pd_lst (pda_cons (pd_m1 PySem.F.slot_str_join PySem.F.type_str_join (mto_join rfl) pd_str (pd_var (pv 8))) pda_nil))) (pd_slice rfl (pd_var (pv 6)) (pdo_some (pd_op (opd_plus rfl) (pd_var (pv 7)) pd_int)) pdo_none)))))))))))))))
end
end C03
set_option Elab.async false
set_option linter.all false
set_option maxRecDepth 100000
set_option maxHeartbeats 4000000
namespace C03
open PySem PySem.Spec L2 DL
open PySem.W (Frag)

def g__law_is_row : Ss :=
  (sRet (sAnd (sIsi "str" (sV 0)) (sAnd (sOp neD (sV 0) (sC (.str ""))) (sOp eqD (sFrz (sComp (.name 1) [1] (sB (sOp notInD (sV 1) (sC (.str "x-")))) (sV 1) (iVal (sV 0)))) (sLst lNil)))))
def s__law_is_row : Ss := g__law_is_row
def n__law_is_row : Fn := fnD 2 s__law_is_row
section
variable {P : Program} {w : World} {K : Frag} {cl : String → Addr} {dk : Addr} {mg : Str → Option Value} {base : Heap} {A : Adr}
theorem ok__law_is_row (T : Txt K cl mg A) : FnG P w K mg base 1 A.f__law_is_row A.fd__law_is_row ["_law_it"] (SpD (gg K cl dk) 1 n__law_is_row) := by
    refine fn_of_body (g := gg K cl dk) T.F__law_is_row sc__law_is_row rfl rfl fun cdv A0 outer sh H E hr hgd => ?_
    unfold s__law_is_row g__law_is_row
    exact (pds_one (pds_ret (pd_and rfl (pd_isi (T := "str") rfl T.own (by decide) (pe_bltn (v := .ty "str") (u := .type "str") (by rfl) T.n_str (by decide +kernel) rfl) (by rfl) T.n_isinstance (pd_var (pv 0))) (pd_and rfl (pd_cmp (opd_ne rfl hr.units) (pd_var (pv 0)) pd_str (nomark _)) (pd_one (pd_cmp (opd_eq rfl hr.units) (pd_ofN (pdn_lc (own := [("_law_sign", 1)]) (t := (.name 1)) rfl sc__law_is_row.nd (pdi_val rfl (pd_var (pv 0))) (blkOk_by (own := [("_law_sign", 1)]) (N := ["_law_it", "_law_sign"]) (sc := defScope st__law_is_row) (by decide +kernel)) (by decide) (fun _ _ _ _ _ => (pdg_name (i := 1) sc__law_is_row.nd rfl (Or.inl rfl))) (fun _ _ _ _ _ => (pdts_one (pdt_cmp (opd_notIn rfl) (pd_var (pv 1)) pd_str (by rfl)))) (fun _ _ _ _ _ => (pd_var (pv 1))))) (pd_lst pda_nil) (nomark _)))))))
end
def g__law_bad (p__law_is_row : Fn) : Ss :=
  (sSeq (sIfS (sOrB (sNotB (sTru (sIsi "tuple" (sV 0)))) (sB (sOp eqD (sV 0) (sTup lNil))))
  (sRet (sC (.str "picks")))
  sSkip)
  (sSeq (sIfS (sNotB (sTru (sCall 1 p__law_is_row (lCons (sIx (sV 0) (sC (.int 0))) lNil))))
  (sRet (sC (.int 0)))
  sSkip)
  (sSeq (sSet 1 (sFrz (sComp (.tup [(.name 2), (.name 3)]) [2, 3] (sOrB (sNotB (sTru (sCall 1 p__law_is_row (lCons (sV 3) lNil)))) (sB (sOp neD (sApp (pureO lenD) (lCons (sV 3) lNil)) (sApp (pureO lenD) (lCons (sIx (sV 0) (sC (.int 0))) lNil))))) (sV 2) (iEnumD (sV 0)))))
  (sRet (sIf (sB (sOp neD (sV 1) (sLst lNil))) (sIx (sV 1) (sC (.int 0))) (sC .non))))))
def s__law_bad : Ss := g__law_bad n__law_is_row
def n__law_bad : Fn := fnD 4 s__law_bad
section
variable {P : Program} {w : World} {K : Frag} {cl : String → Addr} {dk : Addr} {mg : Str → Option Value} {base : Heap} {A : Adr}
theorem ok__law_bad (T : Txt K cl mg A) : FnG P w K mg base 2 A.f__law_bad A.fd__law_bad ["_law_it"] (SpD (gg K cl dk) 1 n__law_bad) := by
    have G__law_is_row := ok__law_is_row (P := P) (w := w) (base := base) (dk := dk) T
    refine fn_of_body (g := gg K cl dk) T.F__law_bad sc__law_bad rfl rfl fun cdv A0 outer sh H E hr hgd => ?_
    unfold s__law_bad g__law_bad
    exact (pds_cons (pds_if (PDW.pt (pdw_or (pdt_not (pdt_truth rfl (pd_isi (T := "tuple") rfl T.own (by decide) (pe_bltn (v := .ty "tuple") (u := .type "tuple") (by rfl) T.n_tuple (by decide +kernel) rfl) (by rfl) T.n_isinstance (pd_var (pv 0))) (by intro _; rfl))) (pdw_or1 (pdt_cmp (opd_eq rfl hr.units) (pd_var (pv 0)) (pd_tup pda_nil) (nomark _)))))
  (pds_one (pds_ret pd_str))
  pds_nil)
  (pds_cons (pds_if (pdt_not (pdt_truth rfl (pd_call G__law_is_row (hr.mono (by first | decide | omega)) hgd rfl T.m__law_is_row T.F__law_is_row.kp T.b__law_is_row (takes_of rfl rfl rfl rfl) (by exact (pda_cons (pd_ix rfl (pd_var (pv 0)) pd_int) pda_nil))) (by intro _; rfl)))
  (pds_one (pds_ret pd_int))
  pds_nil)
  (pds_cons (pds_setD (pds_setLc (i := 1) (own := [("_law_k", 2), ("_law_row", 3)]) (tt := (.tup [(.name 2), (.name 3)])) rfl sc__law_bad.nd rfl rfl (sw_true rfl rfl rfl (by decide +kernel)) (pdi_enum rfl (by rfl) T.n_enumerate (pd_var (pv 0))) (blkOk_by (own := [("_law_k", 2), ("_law_row", 3)]) (N := ["_law_it", "_law_odd_here", "_law_k", "_law_row"]) (sc := defScope st__law_bad) (by decide +kernel)) (by decide) (fun _ _ _ _ _ => (pdg_tup rfl (by rfl) (pdgs_cons (pdg_name (i := 2) sc__law_bad.nd rfl (Or.inl rfl)) (pdgs_cons (pdg_name (i := 3) sc__law_bad.nd rfl (Or.inl rfl)) pdgs_nil)))) (fun _ _ _ _ _ => (pdts_one (PDW.pt (pdw_or (pdt_not (pdt_truth rfl (pd_call G__law_is_row (hr.mono (by first | decide | omega)) hgd rfl T.m__law_is_row T.F__law_is_row.kp T.b__law_is_row takes0 (by exact (pda_cons (pd_var (pv 3)) pda_nil))) (by intro _; rfl))) (pdw_or1 (pdt_cmp (opd_ne rfl hr.units) (pd_callB (callo_len rfl) (by rfl) T.n_len (by decide +kernel) (by exact (pda_cons (pd_var (pv 3)) pda_nil))) (pd_callB (callo_len rfl) (by rfl) T.n_len (by decide +kernel) (by exact (pda_cons (pd_ix rfl (pd_var (pv 0)) pd_int) pda_nil))) (nomark _))))))) (fun _ _ _ _ _ => (pd_var (pv 2)))))
  (pds_one (pds_ret (pd_if (pdt_cmp (opd_ne rfl hr.units) (pd_var (pv 1)) (pd_lst pda_nil) (nomark _)) (pd_ix rfl (pd_var (pv 1)) pd_int) pd_non))))))
end
def g__law_built (p_Cloth___init__ : FnI) (p_Cloth___len__ : Fn) (p_Cloth___str__ : Fn) : Ss :=
  (sSeq (sSet 2 (sC .non))
  (sSeq (sTry takes_BadCloth 4
  (sSeq (sSet 3 (sIf (sTru (sV 1)) (sOfC "Cloth" (sC (.cls "Cloth")) (sMake "Cloth" 1 p_Cloth___init__ (sOrdK 1 [0] (lCons (sV 0) lNil)))) (sOfC "Cloth" (sC (.cls "Cloth")) (sMake "Cloth" 1 p_Cloth___init__ (lCons (sV 0) lNil)))))
  (sSet 2 (sLst (lCons (sC (.str "cloth")) (lCons (sFld ["Cloth"] "picks" (sV 3)) (lCons (sFld ["Cloth"] "ends" (sV 3)) (lCons (sApp (orO (pureO lenD) (ownO "Cloth" p_Cloth___len__ lenC)) (lCons (sV 3) lNil)) (lCons (sApp (orO textD (ownO "Cloth" p_Cloth___str__ strC)) (lCons (sV 3) lNil)) lNil))))))))
  (sSet 2 (sLst (lCons (sC (.str "bad")) (lCons (sXf "BadCloth" "part" 4) (lCons (sXi "BadCloth" true 4) lNil))))))
  (sRet (sV 2))))
def s__law_built : Ss := g__law_built n_Cloth___init__ n_Cloth___len__ n_Cloth___str__
def n__law_built : Fn := fnD 5 s__law_built
section
variable {P : Program} {w : World} {K : Frag} {cl : String → Addr} {dk : Addr} {mg : Str → Option Value} {base : Heap} {A : Adr}
theorem ok__law_built (T : Txt K cl mg A) : FnG P w K mg base 5 A.f__law_built A.fd__law_built ["_law_it", "_law_is_named"] (SpD (gg K cl dk) 2 n__law_built) := by
    have G_Cloth___init__ := ok_Cloth___init__ (P := P) (w := w) (base := base) (dk := dk) T
    have G_Cloth___len__ := ok_Cloth___len__ (P := P) (w := w) (base := base) (dk := dk) T
    have G_Cloth___str__ := ok_Cloth___str__ (P := P) (w := w) (base := base) (dk := dk) T
    refine fn_of_body (g := gg K cl dk) T.F__law_built sc__law_built rfl rfl fun cdv A0 outer sh H E hr hgd => ?_
    unfold s__law_built g__law_built
    exact (pds_cons (pds_set (i := 2) sc__law_built.nd rfl (Or.inl rfl) pd_non)
  (pds_cons (pds_try (i := 4) (yes := takes_BadCloth) rfl rfl rfl sc__law_built.nd rfl rfl ⟨rfl, by decide, .inl T.g_BadCloth⟩ (takes_of rfl rfl rfl rfl) T.yes_BadCloth (fun W pn xe tk ps_ => (pds_cons (pds_set (i := 3) sc__law_built.nd rfl (Or.inl rfl) (pd_if (pdt_truth rfl (pd_var (pv 1)) (by intro _; rfl)) (pd_makeK0 (ix := [0]) (cn := "Cloth") rfl T.own (show _ ∈ OWN by decide) T.mk_Cloth G_Cloth___init__ (hr.mono (by first | decide | omega)) hgd T.kbo_Cloth___init___picks tk (pd_globC (pe_glob (v := .ref _) rfl T.g_Cloth rfl)) (pdk_cons (pd_var (pv 0)) pdk_nil)) (pd_make (cn := "Cloth") rfl T.own (show _ ∈ OWN by decide) T.mk_Cloth G_Cloth___init__ (hr.mono (by first | decide | omega)) hgd T.b_Cloth___init__ tk (pd_globC (pe_glob (v := .ref _) rfl T.g_Cloth rfl)) (by exact (pda_cons (pd_var (pv 0)) pda_nil)))))
  (pds_one (pds_set (i := 2) sc__law_built.nd rfl (Or.inl rfl) (pd_lst (pda_cons pd_str (pda_cons (pd_fld (cs := ["Cloth"]) rfl T.own T.nas_Cloth_picks (pd_var (pv 3))) (pda_cons (pd_fld (cs := ["Cloth"]) rfl T.own T.nas_Cloth_ends (pd_var (pv 3))) (pda_cons (pd_callB (CallO.or (callo_len rfl) (callo_lenOwn (cn := "Cloth") rfl G_Cloth___len__ (hr.mono (by first | decide | omega)) hgd T.b_Cloth___len__ T.s_Cloth___len__ T.fn_Cloth___len__)) (by rfl) T.n_len (by decide +kernel) (by exact (pda_cons (pd_var (pv 3)) pda_nil))) (pda_cons (pd_callTy (CallO.or callo_text (callo_strOwn (cn := "Cloth") rfl G_Cloth___str__ (hr.mono (by first | decide | omega)) hgd T.b_Cloth___str__ T.s_Cloth___str__ T.fn_Cloth___str__)) (by rfl) T.n_str (by decide +kernel) (by exact (pda_cons (pd_var (pv 3)) pda_nil))) pda_nil))))))))))
  (fun a oe cls d pn hz hf => (pds_one (pds_set (i := 2) sc__law_built.nd rfl (Or.inl rfl) (pd_lst (pda_cons pd_str (pda_cons (pd_xf (xfc_BadCloth T.x_BadCloth) T.x_BadCloth.noN hz hf (pv 4)) (pda_cons (pd_xi (b := true) T.e_BadCloth T.ki_BadCloth hz hf (pv 4) (pe_glob (v := .ref _) rfl T.g_LoomError rfl) (by rfl) T.n_isinstance) pda_nil))))))))
  (pds_one (pds_ret (pd_var (pv 2))))))
end
def g__law_right (p__law_bad : Fn) (p__law_built : Fn) : Ss :=
  (sSeq (sPar [1, 2] (mD (sCall 1 p__law_bad (lCons (sV 0) lNil)) (mD (sApp (pureO reprD) (lCons (sV 0) lNil)) mNil)))
  (sSeq (sSet 3 (sIf (sB (sOp (isD fun b => !b) (sV 1) (sC .non))) (sLst (lCons (sC (.str "bad")) (lCons (sV 1) (lCons (sC (.bl true)) lNil)))) (sLst (lCons (sC (.str "cloth")) (lCons (sV 0) (lCons (sApp (pureO lenD) (lCons (sIx (sV 0) (sC (.int 0))) lNil)) (lCons (sApp (pureO lenD) (lCons (sV 0) lNil)) (lCons (sM1 joinD (sC (.str "\n")) (sV 0)) lNil))))))))
  (sRet (sAnd (sOp eqD (sApp (pureO reprD) (lCons (sLst (lCons (sCall 2 p__law_built (lCons (sV 0) (lCons (sC (.bl false)) lNil))) (lCons (sCall 2 p__law_built (lCons (sV 0) (lCons (sC (.bl true)) lNil))) lNil))) lNil)) (sApp (pureO reprD) (lCons (sLst (lCons (sV 3) (lCons (sV 3) lNil))) lNil))) (sOp eqD (sApp (pureO reprD) (lCons (sV 0) lNil)) (sV 2))))))
def s__law_right : Ss := g__law_right n__law_bad n__law_built
def n__law_right : Fn := fnD 4 s__law_right
section
variable {P : Program} {w : World} {K : Frag} {cl : String → Addr} {dk : Addr} {mg : Str → Option Value} {base : Heap} {A : Adr}
theorem ok__law_right (T : Txt K cl mg A) : FnG P w K mg base 6 A.f__law_right A.fd__law_right ["_law_it"] (SpD (gg K cl dk) 1 n__law_right) := by
    have G__law_bad := ok__law_bad (P := P) (w := w) (base := base) (dk := dk) T
    have G__law_built := ok__law_built (P := P) (w := w) (base := base) (dk := dk) T
    refine fn_of_body (g := gg K cl dk) T.F__law_right sc__law_right rfl rfl fun cdv A0 outer sh H E hr hgd => ?_
    unfold s__law_right g__law_right
    exact (pds_cons (pds_par (i := 1) (j := 2) rfl sc__law_right.nd rfl rfl (by decide) rfl rfl (by exact (pdm_d (pd_call G__law_bad (hr.mono (by first | decide | omega)) hgd rfl T.m__law_bad T.F__law_bad.kp T.b__law_bad (takes_of rfl rfl rfl rfl) (by exact (pda_cons (pd_var (pv 0)) pda_nil))) (pdm_d (pd_callB (callo_repr rfl hgd hr.units) (by rfl) T.n_repr (by decide +kernel) (by exact (pda_cons (pd_var (pv 0)) pda_nil))) pdm_nil))) (by rfl))
  (pds_cons (pds_set (i := 3) sc__law_right.nd rfl (Or.inl rfl) (pd_if (pdt_cmp opd_isNot (pd_var (pv 1)) pd_non (nomark _)) (pd_lst (pda_cons pd_str (pda_cons (pd_var (pv 1)) (pda_cons pd_bl pda_nil)))) (pd_lst (pda_cons pd_str (pda_cons (pd_var (pv 0)) (pda_cons (pd_callB (callo_len rfl) (by rfl) T.n_len (by decide +kernel) (by exact (pda_cons (pd_ix rfl (pd_var (pv 0)) pd_int) pda_nil))) (pda_cons (pd_callB (callo_len rfl) (by rfl) T.n_len (by decide +kernel) (by exact (pda_cons (pd_var (pv 0)) pda_nil))) (pda_cons (pd_m1 PySem.F.slot_str_join PySem.F.type_str_join (mto_join rfl) pd_str (pd_var (pv 0))) pda_nil))))))))
  (pds_one (pds_ret (pd_and rfl (pd_cmp (opd_eq rfl hr.units) (pd_callB (callo_repr rfl hgd hr.units) (by rfl) T.n_repr (by decide +kernel) (by exact (pda_cons (pd_lst (pda_cons (pd_call G__law_built (hr.mono (by first | decide | omega)) hgd rfl T.m__law_built T.F__law_built.kp T.b__law_built (takes_of rfl rfl rfl rfl) (by exact (pda_cons (pd_var (pv 0)) (pda_cons pd_bl pda_nil)))) (pda_cons (pd_call G__law_built (hr.mono (by first | decide | omega)) hgd rfl T.m__law_built T.F__law_built.kp T.b__law_built (takes_of rfl rfl rfl rfl) (by exact (pda_cons (pd_var (pv 0)) (pda_cons pd_bl pda_nil)))) pda_nil))) pda_nil))) (pd_callB (callo_repr rfl hgd hr.units) (by rfl) T.n_repr (by decide +kernel) (by exact (pda_cons (pd_lst (pda_cons (pd_var (pv 3)) (pda_cons (pd_var (pv 3)) pda_nil))) pda_nil))) (nomark _)) (pd_one (pd_cmp (opd_eq rfl hr.units) (pd_callB (callo_repr rfl hgd hr.units) (by rfl) T.n_repr (by decide +kernel) (by exact (pda_cons (pd_var (pv 0)) pda_nil))) (pd_var (pv 2)) (nomark _))))))))
end
def g__law_heard (p_Cloth_read : Fn) : Ss :=
  (sSeq (sSet 2 (sC .non))
  (sSeq (sTry takes_BadText 3
  (sSet 2 (sFld ["Cloth"] "picks" (sIf (sTru (sV 1)) (sCM "Cloth" 2 p_Cloth_read (sC (.cls "Cloth")) (sOrdK 1 [0] (lCons (sV 0) lNil))) (sCM "Cloth" 2 p_Cloth_read (sC (.cls "Cloth")) (lCons (sV 0) lNil)))))
  (sSet 2 (sLst (lCons (sXf "BadText" "line" 3) (lCons (sXi "BadText" true 3) lNil)))))
  (sRet (sV 2))))
def s__law_heard : Ss := g__law_heard n_Cloth_read
def n__law_heard : Fn := fnD 4 s__law_heard
section
variable {P : Program} {w : World} {K : Frag} {cl : String → Addr} {dk : Addr} {mg : Str → Option Value} {base : Heap} {A : Adr}
theorem ok__law_heard (T : Txt K cl mg A) : FnG P w K mg base 6 A.f__law_heard A.fd__law_heard ["_law_it", "_law_is_named"] (SpD (gg K cl dk) 2 n__law_heard) := by
    have G_Cloth_read := ok_Cloth_read (P := P) (w := w) (base := base) (dk := dk) T
    refine fn_of_body (g := gg K cl dk) T.F__law_heard sc__law_heard rfl rfl fun cdv A0 outer sh H E hr hgd => ?_
    unfold s__law_heard g__law_heard
    exact (pds_cons (pds_set (i := 2) sc__law_heard.nd rfl (Or.inl rfl) pd_non)
  (pds_cons (pds_try (i := 3) (yes := takes_BadText) rfl rfl rfl sc__law_heard.nd rfl rfl ⟨rfl, by decide, .inl T.g_BadText⟩ (takes_of rfl rfl rfl rfl) T.yes_BadText (fun W pn xe tk ps_ => (pds_one (pds_set (i := 2) sc__law_heard.nd rfl (Or.inl rfl) (pd_fld (cs := ["Cloth"]) rfl T.own T.nas_Cloth_picks (pd_if (pdt_truth rfl (pd_var (pv 1)) (by intro _; rfl)) (pd_cmethK0 (ix := [0]) rfl T.cr_Cloth T.cm_Cloth_read G_Cloth_read (hr.mono (by first | decide | omega)) hgd T.kbo_Cloth_read_text tk (pd_globC (pe_glob (v := .ref _) rfl T.g_Cloth rfl)) (pdk_cons (pd_var (pv 0)) pdk_nil)) (pd_cmeth rfl T.cr_Cloth T.cm_Cloth_read G_Cloth_read (hr.mono (by first | decide | omega)) hgd T.b_Cloth_read tk (pd_globC (pe_glob (v := .ref _) rfl T.g_Cloth rfl)) (by exact (pda_cons (pd_var (pv 0)) pda_nil))))))))
  (fun a oe cls d pn hz hf => (pds_one (pds_set (i := 2) sc__law_heard.nd rfl (Or.inl rfl) (pd_lst (pda_cons (pd_xf (xfc_BadText T.x_BadText) T.x_BadText.noN hz hf (pv 3)) (pda_cons (pd_xi (b := true) T.e_BadText T.ki_BadText hz hf (pv 3) (pe_glob (v := .ref _) rfl T.g_LoomError rfl) (by rfl) T.n_isinstance) pda_nil)))))))
  (pds_one (pds_ret (pd_var (pv 2))))))
end
def g__law_page_right (p__law_is_row : Fn) (p__law_heard : Fn) : Ss :=
  (sSeq (sPar [1, 2] (mD (sApp (pureO reprD) (lCons (sV 0) lNil)) (mD (sLst (lCons (sC (.int 0)) (lCons (sC (.bl true)) lNil))) mNil)))
  (sSeq (sIfS (sTru (sIsi "str" (sV 0)))
  (sSeq (sSet 3 (sM1 splitD (sV 0) (sC (.str "\n"))))
  (sSeq (sSet 4 (sFrz (sComp (.tup [(.name 5), (.name 6)]) [5, 6] (sOrB (sNotB (sTru (sCall 1 p__law_is_row (lCons (sV 6) lNil)))) (sB (sOp neD (sApp (pureO lenD) (lCons (sV 6) lNil)) (sApp (pureO lenD) (lCons (sIx (sV 3) (sC (.int 0))) lNil))))) (sV 5) (iEnumD (sV 3)))))
  (sSet 2 (sIf (sB (sOp neD (sV 4) (sLst lNil))) (sLst (lCons (sOp plusD (sIx (sV 4) (sC (.int 0))) (sC (.int 1))) (lCons (sC (.bl true)) lNil))) (sApp (pureO tupleD) (lCons (sV 3) lNil))))))
  sSkip)
  (sRet (sAnd (sOp eqD (sApp (pureO reprD) (lCons (sLst (lCons (sCall 2 p__law_heard (lCons (sV 0) (lCons (sC (.bl false)) lNil))) (lCons (sCall 2 p__law_heard (lCons (sV 0) (lCons (sC (.bl true)) lNil))) lNil))) lNil)) (sApp (pureO reprD) (lCons (sLst (lCons (sV 2) (lCons (sV 2) lNil))) lNil))) (sOp eqD (sApp (pureO reprD) (lCons (sV 0) lNil)) (sV 1))))))
def s__law_page_right : Ss := g__law_page_right n__law_is_row n__law_heard
def n__law_page_right : Fn := fnD 7 s__law_page_right
section
variable {P : Program} {w : World} {K : Frag} {cl : String → Addr} {dk : Addr} {mg : Str → Option Value} {base : Heap} {A : Adr}
theorem ok__law_page_right (T : Txt K cl mg A) : FnG P w K mg base 7 A.f__law_page_right A.fd__law_page_right ["_law_it"] (SpD (gg K cl dk) 1 n__law_page_right) := by
    have G__law_heard := ok__law_heard (P := P) (w := w) (base := base) (dk := dk) T
    have G__law_is_row := ok__law_is_row (P := P) (w := w) (base := base) (dk := dk) T
    refine fn_of_body (g := gg K cl dk) T.F__law_page_right sc__law_page_right rfl rfl fun cdv A0 outer sh H E hr hgd => ?_
    unfold s__law_page_right g__law_page_right
    exact (pds_cons (pds_par (i := 1) (j := 2) rfl sc__law_page_right.nd rfl rfl (by decide) rfl rfl (by exact (pdm_d (pd_callB (callo_repr rfl hgd hr.units) (by rfl) T.n_repr (by decide +kernel) (by exact (pda_cons (pd_var (pv 0)) pda_nil))) (pdm_d (pd_lst (pda_cons pd_int (pda_cons pd_bl pda_nil))) pdm_nil))) (by rfl))
  (pds_cons (pds_if (pdt_truth rfl (pd_isi (T := "str") rfl T.own (by decide) (pe_bltn (v := .ty "str") (u := .type "str") (by rfl) T.n_str (by decide +kernel) rfl) (by rfl) T.n_isinstance (pd_var (pv 0))) (by intro _; rfl))
  (pds_cons (pds_set (i := 3) sc__law_page_right.nd rfl (Or.inr rfl) (pd_m1 PySem.F.slot_str_split PySem.F.type_str_split mto_split (pd_var (pv 0)) pd_str))
  (pds_cons (pds_setD (pds_setLc (i := 4) (own := [("_law_k", 5), ("_law_row", 6)]) (tt := (.tup [(.name 5), (.name 6)])) rfl sc__law_page_right.nd rfl rfl (sw_true rfl rfl rfl (by decide +kernel)) (pdi_enum rfl (by rfl) T.n_enumerate (pd_var (pv 3))) (blkOk_by (own := [("_law_k", 5), ("_law_row", 6)]) (N := ["_law_it", "_law_was", "_law_due", "_law_lines", "_law_odd_here", "_law_k", "_law_row"]) (sc := defScope st__law_page_right) (by decide +kernel)) (by decide) (fun _ _ _ _ _ => (pdg_tup rfl (by rfl) (pdgs_cons (pdg_name (i := 5) sc__law_page_right.nd rfl (Or.inl rfl)) (pdgs_cons (pdg_name (i := 6) sc__law_page_right.nd rfl (Or.inl rfl)) pdgs_nil)))) (fun _ _ _ _ _ => (pdts_one (PDW.pt (pdw_or (pdt_not (pdt_truth rfl (pd_call G__law_is_row (hr.mono (by first | decide | omega)) hgd rfl T.m__law_is_row T.F__law_is_row.kp T.b__law_is_row takes0 (by exact (pda_cons (pd_var (pv 6)) pda_nil))) (by intro _; rfl))) (pdw_or1 (pdt_cmp (opd_ne rfl hr.units) (pd_callB (callo_len rfl) (by rfl) T.n_len (by decide +kernel) (by exact (pda_cons (pd_var (pv 6)) pda_nil))) (pd_callB (callo_len rfl) (by rfl) T.n_len (by decide +kernel) (by exact (pda_cons (pd_ix rfl (pd_var (pv 3)) pd_int) pda_nil))) (nomark _))))))) (fun _ _ _ _ _ => (pd_var (pv 5)))))
  (pds_one (pds_set (i := 2) sc__law_page_right.nd rfl (Or.inl rfl) (pd_if (pdt_cmp (opd_ne rfl hr.units) (pd_var (pv 4)) (pd_lst pda_nil) (nomark _)) (pd_lst (pda_cons (pd_op (opd_plus rfl) (pd_ix rfl (pd_var (pv 4)) pd_int) pd_int) (pda_cons pd_bl pda_nil))) (pd_callTy (callo_tuple rfl) (by rfl) T.n_tuple (by decide +kernel) (by exact (pda_cons (pd_var (pv 3)) pda_nil))))))))
  pds_nil)
  (pds_one (pds_ret (pd_and rfl (pd_cmp (opd_eq rfl hr.units) (pd_callB (callo_repr rfl hgd hr.units) (by rfl) T.n_repr (by decide +kernel) (by exact (pda_cons (pd_lst (pda_cons (pd_call G__law_heard (hr.mono (by first | decide | omega)) hgd rfl T.m__law_heard T.F__law_heard.kp T.b__law_heard (takes_of rfl rfl rfl rfl) (by exact (pda_cons (pd_var (pv 0)) (pda_cons pd_bl pda_nil)))) (pda_cons (pd_call G__law_heard (hr.mono (by first | decide | omega)) hgd rfl T.m__law_heard T.F__law_heard.kp T.b__law_heard (takes_of rfl rfl rfl rfl) (by exact (pda_cons (pd_var (pv 0)) (pda_cons pd_bl pda_nil)))) pda_nil))) pda_nil))) (pd_callB (callo_repr rfl hgd hr.units) (by rfl) T.n_repr (by decide +kernel) (by exact (pda_cons (pd_lst (pda_cons (pd_var (pv 2)) (pda_cons (pd_var (pv 2)) pda_nil))) pda_nil))) (nomark _)) (pd_one (pd_cmp (opd_eq rfl hr.units) (pd_callB (callo_repr rfl hgd hr.units) (by rfl) T.n_repr (by decide +kernel) (by exact (pda_cons (pd_var (pv 0)) pda_nil))) (pd_var (pv 1)) (nomark _))))))))
end
def g__law_equals_right (p_Cloth___init__ : FnI) (p__law_cloth : Fn) (p__law_draw : Fn) (p_Cloth___eq__ : Fn) : Ss :=
  (sSeq (sPar [2, 3] (mD (sOfC "Cloth" (sC (.cls "Cloth")) (sMake "Cloth" 1 p_Cloth___init__ (lCons (sV 1) lNil))) (mD (sCall 1 p__law_cloth (lCons (sV 0) lNil)) mNil)))
  (sSeq (sPar [4, 5] (mD (sCall 2 p__law_draw (lCons (sV 0) (lCons (sApp (pureO lenD) (lCons (sV 1) lNil)) lNil))) (mD (sCall 2 p__law_draw (lCons (sV 0) (lCons (sApp (pureO lenD) (lCons (sIx (sV 1) (sC (.int 0))) lNil)) lNil))) mNil)))
  (sSeq (sSet 6 (sOp plusD (sOp plusD (sSl (sIx (sV 1) (sV 4)) oNone (oSome (sV 5))) (sIf (sB (sOp eqD (sIx (sIx (sV 1) (sV 4)) (sV 5)) (sC (.str "x")))) (sC (.str "-")) (sC (.str "x")))) (sSl (sIx (sV 1) (sV 4)) (oSome (sOp plusD (sV 5) (sC (.int 1)))) oNone)))
  (sSeq (sIfS (sOrB (sNotB (sB (sOpO (orOp (pureOp eqD) (ownEq "Cloth" p_Cloth___eq__ (fun b => b))) (sV 2) (sOfC "Cloth" (sC (.cls "Cloth")) (sMake "Cloth" 1 p_Cloth___init__ (lCons (sV 1) lNil)))))) (sOrB (sB (sOpO (orOp (pureOp neD) (ownEq "Cloth" p_Cloth___eq__ (fun b => !b))) (sV 2) (sOfC "Cloth" (sC (.cls "Cloth")) (sMake "Cloth" 1 p_Cloth___init__ (lCons (sV 1) lNil))))) (sB (sOpO (orOp (pureOp eqD) (ownEq "Cloth" p_Cloth___eq__ (fun b => b))) (sV 2) (sOfC "Cloth" (sC (.cls "Cloth")) (sMake "Cloth" 1 p_Cloth___init__ (lCons (sOp plusD (sOp plusD (sSl (sV 1) oNone (oSome (sV 4))) (sTup (lCons (sV 6) lNil))) (sSl (sV 1) (oSome (sOp plusD (sV 4) (sC (.int 1)))) oNone)) lNil)))))))
  (sRet (sC (.bl false)))
  sSkip)
  (sSeq (sIfS (sOrB (sB (sOp neD (sOpO (orOp (pureOp eqD) (ownEq "Cloth" p_Cloth___eq__ (fun b => b))) (sV 2) (sOfC "Cloth" (sC (.cls "Cloth")) (sMake "Cloth" 1 p_Cloth___init__ (lCons (sV 3) lNil)))) (sOp eqD (sV 1) (sV 3)))) (sB (sOp neD (sOpO (orOp (pureOp neD) (ownEq "Cloth" p_Cloth___eq__ (fun b => !b))) (sV 2) (sOfC "Cloth" (sC (.cls "Cloth")) (sMake "Cloth" 1 p_Cloth___init__ (lCons (sV 3) lNil)))) (sOp neD (sV 1) (sV 3)))))
  (sRet (sC (.bl false)))
  sSkip)
  (sRet (sOp eqD (sFrz (sComp (.name 7) [7] (sB (sOpO (orOp (pureOp eqD) (ownEq "Cloth" p_Cloth___eq__ (fun b => b))) (sV 2) (sV 7))) (sV 7) (iVal (sLst (lCons (sC .non) (lCons (sC (.int 0)) (lCons (sC (.str "")) (lCons (sV 1) (lCons (sFrz (iVal (sV 1))) (lCons (sLst (lCons (sV 2) lNil)) (lCons (sM1 joinD (sC (.str "\n")) (sV 1)) lNil))))))))))) (sLst lNil))))))))
def s__law_equals_right : Ss := g__law_equals_right n_Cloth___init__ n__law_cloth n__law_draw n_Cloth___eq__
def n__law_equals_right : Fn := fnD 8 s__law_equals_right
section
variable {P : Program} {w : World} {K : Frag} {cl : String → Addr} {dk : Addr} {mg : Str → Option Value} {base : Heap} {A : Adr}
theorem ok__law_equals_right (T : Txt K cl mg A) : FnG P w K mg base 5 A.f__law_equals_right A.fd__law_equals_right ["_law_deck_here", "_law_some"] (SpD (gg K cl dk) 2 n__law_equals_right) := by
    have G_Cloth___eq__ := ok_Cloth___eq__ (P := P) (w := w) (base := base) (dk := dk) T
    have G_Cloth___init__ := ok_Cloth___init__ (P := P) (w := w) (base := base) (dk := dk) T
    have G__law_cloth := ok__law_cloth (P := P) (w := w) (base := base) (dk := dk) T
    have G__law_draw := ok__law_draw (P := P) (w := w) (base := base) (dk := dk) T
    refine fn_of_body (g := gg K cl dk) T.F__law_equals_right sc__law_equals_right rfl rfl fun cdv A0 outer sh H E hr hgd => ?_
    unfold s__law_equals_right g__law_equals_right
    exact (pds_cons (pds_parT (is := [2, 3]) rfl rfl (by decide) (pdgs_cons (pdg_name (i := 2) sc__law_equals_right.nd rfl (Or.inr rfl)) (pdgs_cons (pdg_name (i := 3) sc__law_equals_right.nd rfl (Or.inl rfl)) pdgs_nil)) (by exact (pdm_d (pd_make (cn := "Cloth") rfl T.own (show _ ∈ OWN by decide) T.mk_Cloth G_Cloth___init__ (hr.mono (by first | decide | omega)) hgd T.b_Cloth___init__ (takes_of rfl rfl rfl rfl) (pd_globC (pe_glob (v := .ref _) rfl T.g_Cloth rfl)) (by exact (pda_cons (pd_var (pv 1)) pda_nil))) (pdm_d (pd_call G__law_cloth (hr.mono (by first | decide | omega)) hgd rfl T.m__law_cloth T.F__law_cloth.kp T.b__law_cloth (takes_of rfl rfl rfl rfl) (by exact (pda_cons (pd_var (pv 0)) pda_nil))) pdm_nil))))
  (pds_cons (pds_par (i := 4) (j := 5) rfl sc__law_equals_right.nd rfl rfl (by decide) rfl rfl (by exact (pdm_d (pd_call G__law_draw (hr.mono (by first | decide | omega)) hgd rfl T.m__law_draw T.F__law_draw.kp T.b__law_draw (takes_of rfl rfl rfl rfl) (by exact (pda_cons (pd_var (pv 0)) (pda_cons (pd_callB (callo_len rfl) (by rfl) T.n_len (by decide +kernel) (by exact (pda_cons (pd_var (pv 1)) pda_nil))) pda_nil)))) (pdm_d (pd_call G__law_draw (hr.mono (by first | decide | omega)) hgd rfl T.m__law_draw T.F__law_draw.kp T.b__law_draw (takes_of rfl rfl rfl rfl) (by exact (pda_cons (pd_var (pv 0)) (pda_cons (pd_callB (callo_len rfl) (by rfl) T.n_len (by decide +kernel) (by exact (pda_cons (pd_ix rfl (pd_var (pv 1)) pd_int) pda_nil))) pda_nil)))) pdm_nil))) (by rfl))
  (pds_cons (pds_set (i := 6) sc__law_equals_right.nd rfl (Or.inl rfl) (pd_op (opd_plus rfl) (pd_op (opd_plus rfl) (pd_slice rfl (pd_ix rfl (pd_var (pv 1)) (pd_var (pv 4))) pdo_none (pdo_some (pd_var (pv 5)))) (pd_if (pdt_cmp (opd_eq rfl hr.units) (pd_ix rfl (pd_ix rfl (pd_var (pv 1)) (pd_var (pv 4))) (pd_var (pv 5))) pd_str (nomark _)) pd_str pd_str)) (pd_slice rfl (pd_ix rfl (pd_var (pv 1)) (pd_var (pv 4))) (pdo_some (pd_op (opd_plus rfl) (pd_var (pv 5)) pd_int)) pdo_none)))
  (pds_cons (pds_if (PDW.pt (pdw_or (pdt_not (pdt_cmpO (OpO.or (OpD.toO (opd_eq rfl hr.units)) (opo_eqOwn rfl T.own (show _ ∈ OWN by decide) T.sub_Cloth G_Cloth___eq__ (hr.mono (by first | decide | omega)) hgd T.b_Cloth___eq__ T.s_Cloth___eq__ T.fn_Cloth___eq__)) (pd_var (pv 2)) (pd_make (cn := "Cloth") rfl T.own (show _ ∈ OWN by decide) T.mk_Cloth G_Cloth___init__ (hr.mono (by first | decide | omega)) hgd T.b_Cloth___init__ (takes_of rfl rfl rfl rfl) (pd_globC (pe_glob (v := .ref _) rfl T.g_Cloth rfl)) (by exact (pda_cons (pd_var (pv 1)) pda_nil))) (nomark _))) (pdw_or (pdt_cmpO (OpO.or (OpD.toO (opd_ne rfl hr.units)) (opo_neOwn rfl T.own (show _ ∈ OWN by decide) T.sub_Cloth G_Cloth___eq__ (hr.mono (by first | decide | omega)) hgd T.b_Cloth___eq__ T.ne_Cloth T.s_Cloth___eq__ T.fn_Cloth___eq__ T.so_Cloth)) (pd_var (pv 2)) (pd_make (cn := "Cloth") rfl T.own (show _ ∈ OWN by decide) T.mk_Cloth G_Cloth___init__ (hr.mono (by first | decide | omega)) hgd T.b_Cloth___init__ (takes_of rfl rfl rfl rfl) (pd_globC (pe_glob (v := .ref _) rfl T.g_Cloth rfl)) (by exact (pda_cons (pd_var (pv 1)) pda_nil))) (nomark _)) (pdw_or1 (pdt_cmpO (OpO.or (OpD.toO (opd_eq rfl hr.units)) (opo_eqOwn rfl T.own (show _ ∈ OWN by decide) T.sub_Cloth G_Cloth___eq__ (hr.mono (by first | decide | omega)) hgd T.b_Cloth___eq__ T.s_Cloth___eq__ T.fn_Cloth___eq__)) (pd_var (pv 2)) (pd_make (cn := "Cloth") rfl T.own (show _ ∈ OWN by decide) T.mk_Cloth G_Cloth___init__ (hr.mono (by first | decide | omega)) hgd T.b_Cloth___init__ (takes_of rfl rfl rfl rfl) (pd_globC (pe_glob (v := .ref _) rfl T.g_Cloth rfl)) (by exact (pda_cons (pd_op (opd_plus rfl) (pd_op (opd_plus rfl) (pd_slice rfl (pd_var (pv 1)) pdo_none (pdo_some (pd_var (pv 4)))) (pd_tup (pda_cons (pd_var (pv 6)) pda_nil))) (pd_slice rfl (pd_var (pv 1)) (pdo_some (pd_op (opd_plus rfl) (pd_var (pv 4)) pd_int)) pdo_none)) pda_nil))) (nomark _))))))
  (pds_one (pds_ret pd_bl))
  pds_nil)
  (pds_cons (pds_if (PDW.pt (pdw_or (pdt_cmp (opd_ne rfl hr.units) (pd_cmpO (OpO.or (OpD.toO (opd_eq rfl hr.units)) (opo_eqOwn rfl T.own (show _ ∈ OWN by decide) T.sub_Cloth G_Cloth___eq__ (hr.mono (by first | decide | omega)) hgd T.b_Cloth___eq__ T.s_Cloth___eq__ T.fn_Cloth___eq__)) (pd_var (pv 2)) (pd_make (cn := "Cloth") rfl T.own (show _ ∈ OWN by decide) T.mk_Cloth G_Cloth___init__ (hr.mono (by first | decide | omega)) hgd T.b_Cloth___init__ (takes_of rfl rfl rfl rfl) (pd_globC (pe_glob (v := .ref _) rfl T.g_Cloth rfl)) (by exact (pda_cons (pd_var (pv 3)) pda_nil))) (nomark _)) (pd_cmp (opd_eq rfl hr.units) (pd_var (pv 1)) (pd_var (pv 3)) (nomark _)) (nomark _)) (pdw_or1 (pdt_cmp (opd_ne rfl hr.units) (pd_cmpO (OpO.or (OpD.toO (opd_ne rfl hr.units)) (opo_neOwn rfl T.own (show _ ∈ OWN by decide) T.sub_Cloth G_Cloth___eq__ (hr.mono (by first | decide | omega)) hgd T.b_Cloth___eq__ T.ne_Cloth T.s_Cloth___eq__ T.fn_Cloth___eq__ T.so_Cloth)) (pd_var (pv 2)) (pd_make (cn := "Cloth") rfl T.own (show _ ∈ OWN by decide) T.mk_Cloth G_Cloth___init__ (hr.mono (by first | decide | omega)) hgd T.b_Cloth___init__ (takes_of rfl rfl rfl rfl) (pd_globC (pe_glob (v := .ref _) rfl T.g_Cloth rfl)) (by exact (pda_cons (pd_var (pv 3)) pda_nil))) (nomark _)) (pd_cmp (opd_ne rfl hr.units) (pd_var (pv 1)) (pd_var (pv 3)) (nomark _)) (nomark _)))))
  (pds_one (pds_ret pd_bl))
  pds_nil)
  (pds_one (pds_ret (pd_cmp (opd_eq rfl hr.units) (pd_ofN (pdn_lc (own := [("_law_it", 7)]) (t := (.name 7)) rfl sc__law_equals_right.nd (pdi_val rfl (pd_lst (pda_cons pd_non (pda_cons pd_int (pda_cons pd_str (pda_cons (pd_var (pv 1)) (pda_cons (pd_ofN (pdn_list rfl rfl (by rfl) T.n_list (by decide +kernel) (pd_var (pv 1)))) (pda_cons (pd_lst (pda_cons (pd_var (pv 2)) pda_nil)) (pda_cons (pd_m1 PySem.F.slot_str_join PySem.F.type_str_join (mto_join rfl) pd_str (pd_var (pv 1))) pda_nil))))))))) (blkOk_by (own := [("_law_it", 7)]) (N := ["_law_deck_here", "_law_some", "_law_near", "_law_other", "_law_at", "_law_k", "_law_row", "_law_it"]) (sc := defScope st__law_equals_right) (by decide +kernel)) (by decide) (fun _ _ _ _ _ => (pdg_name (i := 7) sc__law_equals_right.nd rfl (Or.inl rfl))) (fun _ _ _ _ _ => (pdts_one (pdt_cmpO (OpO.or (OpD.toO (opd_eq rfl hr.units)) (opo_eqOwn rfl T.own (show _ ∈ OWN by decide) T.sub_Cloth G_Cloth___eq__ (hr.mono (by first | decide | omega)) hgd T.b_Cloth___eq__ T.s_Cloth___eq__ T.fn_Cloth___eq__)) (pd_var (pv 2)) (pd_var (pv 7)) (nomark _)))) (fun _ _ _ _ _ => (pd_var (pv 7))))) (pd_lst pda_nil) (nomark _)))))))))
end
end C03
set_option Elab.async false
set_option linter.all false
set_option maxRecDepth 100000
set_option maxHeartbeats 4000000
namespace C03
open PySem PySem.Spec L2 DL
abbrev cp (x : Str) : List Nat := x.cps.toList
def memS (c : Nat) (x : Str) : Bool := decide (c ∈ x.cps.toList)
def isOver (d : D) (sg : Str) : Bool := match d with
  | .str z => (cp z).all fun c => memS c sg
  | _ => false
theorem in_sign {c : Nat} {x : Str} : inD (.str ⟨#[c]⟩) (.str x) = some (.bl (memS c x)) := by
  unfold inD orD inSign; rfl
theorem notIn_sign {c : Nat} {x : Str} : notInD (.str ⟨#[c]⟩) (.str x) = some (.bl (!memS c x)) := by
  unfold notInD orD inSign; rfl
/-- a row: a text within bounds -/
def okS (d : D) : Prop := plain d = true ∧ ∀ z, d = .str z → SOk z
theorem is_over {d : D} {sg : Str} (h : okS d) {k : DkO} : n_is_string_over [d, .str sg] k = .ok (.bl (isOver d sg)) k := by
  obtain ⟨hd, hs⟩ := h
  show endD (s_is_string_over [.d d, .d (.str sg), .no] k) = _
  unfold s_is_string_over g_is_string_over
  cases d with
  | str z =>
    have hz := hs z rfl
    have hl : (cp z).length ≤ sizeLine := by rw [← len_list]; exact hz.1
    have e : compM (.name 2) sYes (sOp inD (sV 2) (sV 1)) (wipeE [.d (.str z), .d (.str sg), .no] [2]) (signsD z) [] k = .ok ([] ++ ((cp z).filter fun _ => true).map fun c => .bl (memS c sg)) k := by
      refine compM_map (mk := fun c => .str ⟨#[c]⟩) (pp := fun _ => true) (cp z) [] (by simpa using hl) (fun c hc => ⟨_, rfl, fun k => ⟨rfl, fun _ => ?_⟩⟩) k
      simp [wipeE, in_sign]
    simp [isTy, isTyN, tyN, truD, itemsOf, e, all_map, isOver]
  | _ => first | (cases hd; done) | (simp [isTy, isTyN, tyN, truD, isOver]; done)
theorem eq_nilT {xs : List D} : eqD (.tup xs) (.tup []) = some (.bl xs.isEmpty) := by
  unfold eqD orD nilT; rfl
def lenOf : D → Nat
  | .str z => z.length
  | _ => 0
def fstLen (ds : List D) : Nat := lenOf (ds.headD .non)
/-- a row that is otherwise -/
def badRow (sg : Str) (n : Nat) (d : D) : Bool := !isOver d sg || lenOf d == 0 || lenOf d != n
def uneven (sg : Str) (ds : List D) : Option Nat := ds.findIdx? (badRow sg (fstLen ds))
theorem over_str {d : D} {sg : Str} (h : isOver d sg = true) : ∃ z, d = .str z := by
  cases d <;> first | exact ⟨_, rfl⟩ | cases h
theorem str_empty {z : Str} : (z == ("" : Str)) = (z.length == 0) := by
  rw [Bool.eq_iff_iff]
  simp only [beq_iff_eq]
  constructor
  · rintro rfl; rfl
  · intro h
    obtain ⟨c⟩ := z
    have : c = #[] := Array.eq_empty_of_size_eq_zero h
    subst this; rfl
def enumI (i : Nat) (ds : List D) : List D := (ds.zipIdx i).map fun p => .tup [.int (0 + (p.2 : Nat)), p.1]
theorem enumI_nil {i : Nat} : enumI i [] = [] := rfl
theorem enumI_cons {i : Nat} {d : D} {ds : List D} : enumI i (d :: ds) = .tup [.int (i : Nat), d] :: enumI (i + 1) ds := by
  unfold enumI
  rw [List.zipIdx_cons, List.map_cons, Int.zero_add]
theorem enumD_I {ds : List D} : enumD 0 ds = enumI 0 ds := rfl
abbrev bodyU : Ss := (sIfS (sOrB (sNotB (sTru (sCall 2 n_is_string_over (lCons (sV 3) (lCons (sV 1) lNil))))) (sOrB (sB (sOp eqD (sV 3) (sC (.str "")))) (sB (sOp neD (sApp (pureO lenD) (lCons (sV 3) lNil)) (sApp (pureO lenD) (lCons (sIx (sV 0) (sC (.int 0))) lNil))))))
  (sRet (sV 2))
  sSkip)
theorem bodyU_eq {rows d d0 : D} {sg : Str} {i : Int} {k : DkO} (h : okS d) (h0 : isOver d sg = true → ixD rows (.int 0) = some d0 ∧ ∃ z, d0 = .str z) :
    bodyU [.d rows, .d (.str sg), .d (.int i), .d d] k = if badRow sg (lenOf d0) d = true then .rt (.int i) k else .nx [.d rows, .d (.str sg), .d (.int i), .d d] k := by
  by_cases ho : isOver d sg = true
  · obtain ⟨z, rfl⟩ := over_str ho
    obtain ⟨h1, z0, rfl⟩ := h0 ho
    by_cases hz : (z.length == 0) = true
    · simp [is_over h, truD, ho, eq_str, str_empty, hz, badRow, lenOf]
    · by_cases hn : (z.length == z0.length) = true
      · have e : (z.length : Int) = (z0.length : Int) := by rw [eq_of_beq hn]
        have hz' : ¬ z0.length = 0 := fun z => hz (by rw [eq_of_beq hn, z]; rfl)
        simp [is_over h, truD, ho, eq_str, str_empty, badRow, lenOf, lenD, h1, ne_int, e, eq_of_beq hn, hz']
      · have e : ¬ (z.length : Int) = (z0.length : Int) := fun e => hn (by simpa using (by exact_mod_cast e : z.length = z0.length))
        have e2 : ¬ z.length = z0.length := fun e => hn (by simpa using e)
        have e3 : ¬ z.length = 0 := fun e => hz (by simpa using e)
        simp [is_over h, truD, ho, eq_str, str_empty, badRow, lenOf, lenD, h1, ne_int, e, e2, e3]
  · simp [is_over h, truD, ho, badRow]
theorem loopU {rows : D} {sg : Str} {d0 : D} {k : DkO} : ∀ (ds : List D) (i : Nat) (a b : En), (∀ d ∈ ds, okS d) → (∀ d ∈ ds, isOver d sg = true → ixD rows (.int 0) = some d0 ∧ ∃ z, d0 = .str z) →
    (∃ i', ds.findIdx? (badRow sg (lenOf d0)) = some i' ∧ DL.forM (.tup [.name 2, .name 3]) bodyU (enumI i ds) [.d rows, .d (.str sg), a, b] k = .rt (.int ((i + i' : Nat))) k) ∨
    (ds.findIdx? (badRow sg (lenOf d0)) = none ∧ ∃ a' b', DL.forM (.tup [.name 2, .name 3]) bodyU (enumI i ds) [.d rows, .d (.str sg), a, b] k = .nx [.d rows, .d (.str sg), a', b'] k)
  | [], i, a, b, _, _ => .inr ⟨rfl, a, b, rfl⟩
  | d :: ds, i, a, b, h, h0 => by
    have hb := bodyU_eq (rows := rows) (d0 := d0) (i := (i : Nat)) (k := k) (h d List.mem_cons_self) (h0 d List.mem_cons_self)
    rw [enumI_cons]
    unfold DL.forM
    simp only [Tgt.set, Tgt.setAll, List.set_cons_succ, List.set_cons_zero]
    rw [hb]
    by_cases hr : badRow sg (lenOf d0) d = true
    · rw [if_pos hr]
      refine .inl ⟨0, ?_, by simp⟩
      rw [List.findIdx?_cons, if_pos hr]
    · rw [if_neg hr]
      simp only
      rcases loopU ds (i + 1) (.d (.int (i : Nat))) (.d d) (fun d hd => h d (List.mem_cons_of_mem _ hd)) (fun d hd => h0 d (List.mem_cons_of_mem _ hd)) with ⟨i', e1, e2⟩ | ⟨e1, a', b', e2⟩
      · refine .inl ⟨i' + 1, ?_, ?_⟩
        · rw [List.findIdx?_cons, if_neg hr, e1]; rfl
        · rw [e2]; congr 2; omega
      · refine .inr ⟨?_, a', b', e2⟩
        rw [List.findIdx?_cons, if_neg hr, e1]; rfl
def unD (o : Option Nat) : D := match o with
  | some i => .int (i : Nat)
  | none => .non

theorem uneven_run {rows : D} {sg : Str} {ds : List D} {k : DkO} (hr : rows = .tup ds ∨ rows = .lst ds) (h : ∀ d ∈ ds, okS d) : n_first_uneven [rows, .str sg] k = .ok (unD (uneven sg ds)) k := by
  show endD (s_first_uneven [.d rows, .d (.str sg), .no, .no] k) = _
  unfold s_first_uneven g_first_uneven
  have hi : itemsOf rows = some ds := by rcases hr with rfl | rfl <;> rfl
  have main : ∀ d0, (∀ d ∈ ds, isOver d sg = true → ixD rows (.int 0) = some d0 ∧ ∃ z, d0 = .str z) → lenOf d0 = fstLen ds → endD (match DL.forM (.tup [.name 2, .name 3]) bodyU (enumI 0 ds) [.d rows, .d (.str sg), .no, .no] k with | .nx env' k' => .rt .non k' | o => o) = .ok (unD (uneven sg ds)) k := by
    intro d0 h0 hl
    rcases loopU (k := k) ds 0 .no .no h h0 with ⟨i', e1, e2⟩ | ⟨e1, a', b', e2⟩
    · rw [e2]
      unfold uneven
      rw [← hl, e1]
      simp [unD]
    · rw [e2]
      unfold uneven
      rw [← hl, e1]
      rfl
  have fin : endD (match DL.forM (.tup [.name 2, .name 3]) bodyU (enumI 0 ds) [.d rows, .d (.str sg), .no, .no] k with | .nx env' k' => .rt .non k' | o => o) = .ok (unD (uneven sg ds)) k := by
    cases ds with
    | nil => rfl
    | cons d0 ds =>
      by_cases hs : ∃ z, d0 = .str z
      · refine main d0 (fun d _ _ => ⟨?_, hs⟩) rfl
        have e : atI (d0 :: ds) 0 = some d0 := L2.atI_nat (j := 0) rfl
        rcases hr with rfl | rfl <;> exact e
      · have ho : isOver d0 sg = false := by
          cases d0 <;> first | rfl | exact absurd ⟨_, rfl⟩ hs
        have hb := bodyU_eq (rows := rows) (d := d0) (d0 := d0) (i := (0 : Nat)) (k := k) (h d0 List.mem_cons_self) fun z => by rw [ho] at z; cases z
        have hbad : badRow sg (lenOf d0) d0 = true := by unfold badRow; rw [ho]; rfl
        rw [enumI_cons]
        unfold DL.forM
        simp only [Tgt.set, Tgt.setAll, List.set_cons_succ, List.set_cons_zero]
        rw [hb, if_pos hbad]
        unfold uneven
        rw [List.findIdx?_cons, if_pos (show badRow sg (fstLen (d0 :: ds)) d0 = true from hbad)]
        rfl
  rw [← fin]
  simp only [sSeq_eq, sFor_eq, iEnumD_eq, sV_eq, List.getElem?_cons_zero, bind_ok, hi, Option.map_some, of_some, outS_ok, enumD_I]
  rfl
/-- what is wrong with the value of a cloth -/
def badOf (it : D) : D := match it with
  | .tup ds => if ds = [] then .str "picks" else unD (uneven "x-" ds)
  | _ => .str "picks"
theorem unD_non {o : Option Nat} : (unD o).isNon = o.isNone := by cases o <;> rfl
def tupL : D → List D
  | .tup ds => ds
  | _ => []
theorem init_run {it : D} {k : DkO} (h : plain it = true) (hi : ∀ ds, it = .tup ds → ∀ d ∈ ds, okS d) :
    n_Cloth___init__ [it] k = if (badOf it).isNon = true then .ok [("picks", it), ("ends", .int (fstLen (tupL it)))] k else .err "BadCloth" [("part", badOf it)] k := by
  show endI "Cloth" (s_Cloth___init__ [.ownO "Cloth" [], .d it, .no] k) = _
  unfold s_Cloth___init__ g_Cloth___init__
  cases it with
  | tup ds =>
    have hds := hi ds rfl
    by_cases hn : ds = []
    · subst hn
      simp [isTy, isTyN, tyN, truD, eq_nilT, badOf, D.isNon, endI]
    · have hu := uneven_run (rows := .tup ds) (sg := "x-") (k := k) (.inl rfl) hds
      have he : ds.isEmpty = false := by simpa using hn
      cases hb : uneven "x-" ds with
      | some i =>
        simp [isTy, isTyN, tyN, truD, eq_nilT, he, hu, hb, badOf, hn, unD, D.isNon, endI, isD_non]
      | none =>
        have hf : ∃ z, ds[0]? = some (.str z) ∧ fstLen ds = z.length := by
          cases ds with
          | nil => exact absurd rfl hn
          | cons d0 ds =>
            have := List.findIdx?_eq_none_iff.mp hb d0 List.mem_cons_self
            unfold badRow at this
            simp only [Bool.or_eq_false_iff, Bool.not_eq_false'] at this
            obtain ⟨z, rfl⟩ := over_str this.1.1
            exact ⟨z, rfl, rfl⟩
        obtain ⟨z, hz, hl⟩ := hf
        have e9 : ¬ (("picks" : Str) = ("ends" : Str)) := by decide
        have e : atI ds 0 = some (.str z) := L2.atI_nat (j := 0) hz
        simp [isTy, isTyN, tyN, truD, eq_nilT, he, hu, hb, badOf, hn, unD, D.isNon, endI, selfE, isD_non, ixD, e, lenD, putD, hl, e9, tupL]
  | _ => first | (cases h; done) | (simp [isTy, isTyN, tyN, truD, badOf, D.isNon, endI]; done)
theorem len_run {it : D} {n : Int} {k : DkO} {ds : List D} (h : it = .tup ds) : n_Cloth___len__ [.obj "Cloth" [("picks", it), ("ends", .int n)]] k = .ok (.int ds.length) k := by
  subst h
  unfold n_Cloth___len__ fnD entryE s_Cloth___len__ g_Cloth___len__
  simp [List.lookup, lenD]
def strsD (xs : List Str) : List D := xs.map .str
theorem strsOf_map (xs : List Str) : strsOf (strsD xs) = some xs := by
  induction xs with
  | nil => rfl
  | cons x xs ih => show (strsOf (strsD xs)).map (x :: ·) = _; rw [ih]; rfl
theorem joinD_tup {a : Str} {xs : List Str} (h : (xs.map (·.length)).sum + xs.length * a.length ≤ 16777216) : joinD a [.tup (strsD xs)] = some (.str (Txt.join a xs)) := by
  unfold joinD
  simp [seqOf, strsOf_map, h]
theorem joinD_lst {a : Str} {xs : List Str} (h : (xs.map (·.length)).sum + xs.length * a.length ≤ 16777216) : joinD a [.lst (strsD xs)] = some (.str (Txt.join a xs)) := by
  unfold joinD
  simp [seqOf, strsOf_map, h]
theorem str_run {xs : List Str} {n : Int} {k : DkO} (h : (xs.map (·.length)).sum + xs.length * 1 ≤ 16777216) : n_Cloth___str__ [.obj "Cloth" [("picks", .tup (strsD xs)), ("ends", .int n)]] k = .ok (.str (Txt.join "\n" xs)) k := by
  unfold n_Cloth___str__ fnD entryE s_Cloth___str__ g_Cloth___str__
  have e := joinD_tup (a := "\n") h
  simp [List.lookup, e]
theorem eq_run {it jt : D} {n m : Int} {k : DkO} {e : D} (h : eqD it jt = some e) : n_Cloth___eq__ [.obj "Cloth" [("picks", it), ("ends", .int n)], .obj "Cloth" [("picks", jt), ("ends", .int m)]] k = .ok e k := by
  unfold n_Cloth___eq__ fnD entryE s_Cloth___eq__ g_Cloth___eq__
  simp [List.lookup, isCl, truD, h]
theorem eq_other {o d : D} {k : DkO} (h : plain d = true) (ho : d.isObj = false) : n_Cloth___eq__ [o, d] k = .ok (.bl false) k := by
  unfold n_Cloth___eq__ fnD entryE s_Cloth___eq__ g_Cloth___eq__
  cases d <;> first | (cases h; done) | (cases ho; done) | simp [isCl, truD]
end C03
set_option Elab.async false
set_option linter.all false
set_option maxRecDepth 100000
set_option maxHeartbeats 4000000
namespace C03
open PySem PySem.Spec L2 DL
theorem gd_okS {n h m : Nat} {d : D} (a : Gd n h m d) (hn : n ≤ 10000000) : okS d := by
  refine ⟨a.plain, fun z e => ?_⟩
  subst e
  obtain ⟨h1, h2⟩ := a.asc
  exact ⟨by have := sizeLine_eq; omega, strOk_all.mpr fun c hc => Nat.lt_trans (h1 c hc) (by decide)⟩
def splitL (x : Str) : List Str := Txt.split x "\n"
theorem splitD_eq {x : Str} (h : x.length ≤ 10000000) : splitD x [.str "\n"] = some (.lst (strsD (splitL x))) := by
  unfold splitD
  have := sizeLine_eq
  have e : ((("\n" : Str).length == 0) = false ∧ x.length + 2 ≤ sizeLine) := ⟨by decide, by omega⟩
  show (if ((("\n" : Str).length == 0) = false ∧ x.length + 2 ≤ sizeLine) then _ else _) = _
  rw [if_pos e]
  rfl
theorem lines_run {d : D} {k : DkO} (h : plain d = true) (hl : ∀ x, d = .str x → x.length ≤ 10000000) : n_lines_of [d] k = match d with | .str x => .ok (.lst (strsD (splitL x))) k | _ => .err "BadText" [("line", .int 0)] k := by
  unfold n_lines_of fnD entryE s_lines_of g_lines_of
  cases d with
  | str x =>
    have e := splitD_eq (hl x rfl)
    simp [isTy, isTyN, tyN, truD, e]
  | _ => first | (cases h; done) | (simp [isTy, isTyN, tyN, truD]; done)
theorem split_ne (x y : Str) : 0 < (Txt.split x y).length := by
  unfold Txt.split
  split
  · exact Nat.zero_lt_one
  · split
    · exact Nat.zero_lt_one
    · rw [length_partsBetween]; exact Nat.succ_pos _
theorem split_mem {x t : Str} (h : t ∈ splitL x) : t.length ≤ x.length ∧ ∀ c ∈ cp t, c ∈ cp x := by
  unfold splitL at h
  have e := PySem.StrLaws.join_split x "\n"
  constructor
  · have := join_mem_le "\n" (Txt.split x "\n") t h
    rwa [e] at this
  · intro c hc
    have := (PyProof.Rows.mem_join "\n" c (Txt.split x "\n")).mpr (.inl ⟨t, h, hc⟩)
    rwa [e] at this
theorem split_sum (x : Str) : ((splitL x).map (·.length)).sum + (splitL x).length = x.length + 1 := by
  have e := PySem.StrLaws.join_split x "\n"
  have key : ∀ ys : List Str, ys ≠ [] → (Str.join "\n" ys).length + 1 = (ys.map (·.length)).sum + ys.length := by
    intro ys
    induction ys with
    | nil => intro h; exact absurd rfl h
    | cons y ys ih =>
      intro _
      cases ys with
      | nil => show y.length + 1 = _; simp
      | cons z ys =>
        have := ih (by simp)
        show (y ++ "\n" ++ Str.join "\n" (z :: ys)).length + 1 = _
        rw [Str.length_append, Str.length_append]
        have e2 : (("\n" : String) : Str).length = 1 := rfl
        rw [e2]
        simp only [List.map_cons, List.sum_cons, List.length_cons] at this ⊢
        omega
  have h0 : splitL x ≠ [] := fun z => by have := split_ne x "\n"; unfold splitL at z; rw [z] at this; cases this
  have := key _ h0
  unfold splitL at *
  rw [e] at this
  omega
theorem okS_split {x : Str} (hx : ∀ c ∈ cp x, c < 128) (hl : x.length ≤ 10000000) : ∀ d ∈ strsD (splitL x), okS d := by
  intro d hd
  obtain ⟨t, ht, rfl⟩ := List.mem_map.mp hd
  obtain ⟨h1, h2⟩ := split_mem ht
  refine ⟨rfl, fun z e => ?_⟩
  cases e
  exact ⟨by have := sizeLine_eq; omega, strOk_all.mpr fun c hc => Nat.lt_trans (hx c (h2 c hc)) (by decide)⟩
theorem strsD_ne {x : Str} : strsD (splitL x) ≠ [] := fun z => by
  have := split_ne x "\n"
  have h2 : (strsD (splitL x)).length = (splitL x).length := List.length_map ..
  rw [z] at h2
  unfold splitL at h2
  rw [← h2] at this
  cases this
theorem read_run {d : D} {k : DkO} (h : plain d = true) (hl : ∀ x, d = .str x → x.length ≤ 10000000 ∧ ∀ c ∈ cp x, c < 128) :
    n_Cloth_read [.cls "Cloth", d] k = match d with
      | .str x => (match uneven "x-" (strsD (splitL x)) with
        | some i => .err "BadText" [("line", .int ((i : Nat) + 1))] k
        | none => .ok (.obj "Cloth" [("picks", .tup (strsD (splitL x))), ("ends", .int (fstLen (strsD (splitL x))))]) k)
      | _ => .err "BadText" [("line", .int 0)] k := by
  unfold n_Cloth_read fnD entryE s_Cloth_read g_Cloth_read
  have e1 := lines_run (k := k) h fun x e => (hl x e).1
  cases d with
  | str x =>
    obtain ⟨h1, h2⟩ := hl x rfl
    have hs := okS_split h2 h1
    have e2 := uneven_run (rows := .lst (strsD (splitL x))) (sg := "x-") (k := k) (.inr rfl) hs
    simp only at e1
    cases hu : uneven "x-" (strsD (splitL x)) with
    | some i =>
      rw [hu] at e2
      simp [e1, e2, unD, isD_non, D.isNon, plusD, orD, catD, hu]
    | none =>
      rw [hu] at e2
      have e3 := init_run (it := .tup (strsD (splitL x))) (k := k) rfl fun ds e => by cases e; exact hs
      have e4 : badOf (.tup (strsD (splitL x))) = .non := by
        unfold badOf
        simp only
        rw [if_neg strsD_ne, hu]; rfl
      rw [e4] at e3
      simp [e1, e2, unD, isD_non, D.isNon, tupleD, e3, hu, tupL]
  | _ => first | (cases h; done) | (simp at e1; simp [e1]; done)

/-! ### the law's own look -/
def isRow (d : D) : Bool := match d with
  | .str z => !(z.length == 0) && (cp z).all fun c => memS c "x-"
  | _ => false
theorem py_strs {l : List Nat} : D.pyAll (l.map fun c => D.str ⟨#[c]⟩) = some (l.map fun c => PyData.str ⟨#[c]⟩) := by
  induction l with
  | nil => rfl
  | cons c l ih => rw [List.map_cons]; simp only [D.pyAll, D.py, ih]; rfl
theorem flat_strs {α : Type} {f : α → Str} (l : List α) : PyData.hasDictAll (l.map fun c => PyData.str (f c)) = false ∧ PyData.depthAll (l.map fun c => PyData.str (f c)) = 0 := by
  induction l with
  | nil => exact ⟨rfl, rfl⟩
  | cons c l ih => simp only [List.map_cons, PyData.hasDictAll, PyData.depthAll, PyData.hasDict, PyData.depth]; simp [ih.1, ih.2]
theorem eqv_nil {ps : List PyData} : PyData.eqv (.list ps) (.list []) = ps.isEmpty := by cases ps <;> rfl
theorem eq_lst {ds : List D} {ps : List PyData} (h : D.pyAll ds = some ps) (h1 : PyData.hasDictAll ps = false) (h2 : PyData.depthAll ps ≤ 60) : eqD (.lst ds) (.lst []) = some (.bl ps.isEmpty) ∧ neD (.lst ds) (.lst []) = some (.bl (!ps.isEmpty)) := by
  have hf : flatPy (.list ps) = true := by
    unfold flatPy
    rw [Bool.and_eq_true]
    exact ⟨by simp [PyData.hasDict, h1], decide_eq_true (by simp only [PyData.depth]; omega)⟩
  have hn : flatPy (.list []) = true := by decide
  unfold eqD neD orD nilT eqvD
  simp [D.py, D.pyAll, h, hf, hn, eqv_nil]
theorem isRow_run {d : D} {k : DkO} (h : okS d) : n__law_is_row [d] k = .ok (.bl (isRow d)) k := by
  obtain ⟨hd, hs⟩ := h
  unfold n__law_is_row fnD entryE s__law_is_row g__law_is_row
  cases d with
  | str z =>
    have hz := hs z rfl
    have hl : (cp z).length ≤ sizeLine := by rw [← len_list]; exact hz.1
    have e : compM (.name 1) (sB (sOp notInD (sV 1) (sC (.str "x-")))) (sV 1) (wipeE [.d (.str z), .no] [1]) (signsD z) [] k = .ok ([] ++ ((cp z).filter fun c => !memS c "x-").map fun c => .str ⟨#[c]⟩) k := by
      refine compM_map (mk := fun c => .str ⟨#[c]⟩) (pp := fun c => !memS c "x-") (cp z) [] (by simpa using hl) (fun c hc => ⟨_, rfl, fun k => ⟨?_, fun _ => rfl⟩⟩) k
      simp [wipeE, notIn_sign]
    have hall : ((cp z).filter fun c => !memS c "x-").isEmpty = ((cp z).all fun c => memS c "x-") := by
      rw [Bool.eq_iff_iff, List.isEmpty_iff, List.filter_eq_nil_iff, List.all_eq_true]
      constructor
      · intro h a ha; simpa using h a ha
      · intro h a ha; simpa using h a ha
    obtain ⟨f1, f2⟩ := flat_strs (f := fun c => (⟨#[c]⟩ : Str)) ((cp z).filter fun c => !memS c "x-")
    have e2 := (eq_lst (py_strs (l := (cp z).filter fun c => !memS c "x-")) f1 (by rw [f2]; decide)).1
    rw [List.isEmpty_map, hall] at e2
    by_cases h0 : z.length = 0
    · simp [isTy, isTyN, tyN, truD, ne_str, str_empty, h0, isRow]
    · have h1 : (z.length == 0) = false := by simpa using h0
      simp [isTy, isTyN, tyN, truD, ne_str, str_empty, h1, isRow, itemsOf, e, e2]
  | _ => first | (cases hd; done) | (simp [isTy, isTyN, tyN, truD, isRow]; done)

theorem int_beq (a b : Nat) : ((a : Int) == (b : Int)) = (a == b) := by rw [Bool.eq_iff_iff]; simp only [beq_iff_eq]; exact Int.ofNat_inj
/-! ### what the law looks for -/
def offRow (n : Nat) (d : D) : Bool := !isRow d || !(lenOf d == n)
theorem off_bad {n : Nat} {d : D} : badRow "x-" n d = offRow n d := by
  unfold badRow offRow isRow isOver
  cases d with
  | str z => simp only [lenOf, bne]; cases (z.length == 0) <;> cases ((cp z).all fun c => memS c "x-") <;> rfl
  | _ => rfl
theorem zip_first {α : Type} {q : α → Bool} : ∀ (l : List α) (i : Nat), (((l.zipIdx i).filter fun p => q p.1).map fun p => p.2) = [] ∧ l.findIdx? q = none ∨ ∃ j rest, (((l.zipIdx i).filter fun p => q p.1).map fun p => p.2) = (i + j) :: rest ∧ l.findIdx? q = some j
  | [], i => .inl ⟨rfl, rfl⟩
  | a :: l, i => by
    rw [List.zipIdx_cons, List.findIdx?_cons]
    by_cases h : q a = true
    · refine .inr ⟨0, ((l.zipIdx (i + 1)).filter fun p => q p.1).map (fun p => p.2), ?_, by rw [if_pos h]⟩
      rw [List.filter_cons_of_pos (by simpa using h)]; rfl
    · rw [List.filter_cons_of_neg (by simpa using h), if_neg h]
      rcases zip_first (q := q) l (i + 1) with ⟨e1, e2⟩ | ⟨j, rest, e1, e2⟩
      · exact .inl ⟨e1, by rw [e2]; rfl⟩
      · exact .inr ⟨j + 1, rest, by rw [e1]; congr 1; omega, by rw [e2]; rfl⟩
theorem py_ints {α : Type} {f : α → Int} (l : List α) : D.pyAll (l.map fun c => D.int (f c)) = some (l.map fun c => PyData.int (f c)) := by
  induction l with
  | nil => rfl
  | cons c l ih => rw [List.map_cons]; simp only [D.pyAll, D.py, ih]; rfl
theorem flat_ints {α : Type} {f : α → Int} (l : List α) : PyData.hasDictAll (l.map fun c => PyData.int (f c)) = false ∧ PyData.depthAll (l.map fun c => PyData.int (f c)) = 0 := by
  induction l with
  | nil => exact ⟨rfl, rfl⟩
  | cons c l ih => simp only [List.map_cons, PyData.hasDictAll, PyData.depthAll, PyData.hasDict, PyData.depth]; simp [ih.1, ih.2]
/-- the first item that is otherwise, as the law finds it -/
theorem firsts {env0 : List En} {i : Nat} {p : Sm Bool} {t : Tgt} {ds : List D} {k : DkO} {q : D → Bool} (hl : ds.length ≤ sizeLine)
    (h : ∀ (m : Nat) (d : D), d ∈ ds → ∃ env1, t.set (.tup [.int (m : Nat), d]) env0 = some env1 ∧ ∀ k, p env1 k = .ok (q d) k ∧ sV i env1 k = .ok (.int (m : Nat)) k) :
    ∃ ns : List Nat, compM t p (sV i) env0 (enumD 0 ds) [] k = .ok (ns.map fun n => .int (n : Nat)) k ∧ ns.head? = ds.findIdx? q := by
  have e0 : enumD 0 ds = ds.zipIdx.map fun p => .tup [.int (p.2 : Nat), p.1] := by unfold enumD; simp
  have e : compM t p (sV i) env0 (enumD 0 ds) [] k = .ok ([] ++ ((ds.zipIdx.filter fun p => q p.1).map fun p => D.int (p.2 : Nat))) k := by
    rw [e0]
    refine compM_map (mk := fun p : D × Nat => .tup [.int (p.2 : Nat), p.1]) (pp := fun p => q p.1) (ff := fun p => .int (p.2 : Nat)) ds.zipIdx [] (by simpa using hl) (fun b hb => ?_) k
    obtain ⟨env1, h1, h2⟩ := h b.2 b.1 (List.fst_mem_of_mem_zipIdx hb)
    exact ⟨env1, h1, fun k => ⟨(h2 k).1, fun _ => (h2 k).2⟩⟩
  refine ⟨(ds.zipIdx.filter fun p => q p.1).map fun p => p.2, ?_, ?_⟩
  · rw [e, List.nil_append, List.map_map]; rfl
  · rcases zip_first (q := q) ds 0 with ⟨e1, e2⟩ | ⟨j, rest, e1, e2⟩
    · rw [e1, e2]; rfl
    · rw [e1, e2]; simp
theorem ne_firsts {ns : List Nat} : neD (.lst (ns.map fun n => .int (n : Nat))) (.lst []) = some (.bl (!ns.isEmpty)) := by
  obtain ⟨f1, f2⟩ := flat_ints (f := fun n : Nat => ((n : Nat) : Int)) ns
  rw [(eq_lst (py_ints (f := fun n : Nat => ((n : Nat) : Int)) ns) f1 (by rw [f2]; decide)).2, List.isEmpty_map]
theorem ne_nn : neD (.lst []) (.lst []) = some (.bl false) := ne_firsts (ns := [])
theorem bad_run {it : D} {k : DkO} (h : plain it = true) (hi : ∀ ds, it = .tup ds → ds.length ≤ sizeLine ∧ ∀ d ∈ ds, okS d) : n__law_bad [it] k = .ok (badOf it) k := by
  unfold n__law_bad fnD entryE s__law_bad g__law_bad
  cases it with
  | tup ds =>
    obtain ⟨hl, hs⟩ := hi ds rfl
    cases ds with
    | nil => simp [isTy, isTyN, tyN, truD, eq_nilT, badOf]
    | cons d0 ds =>
      have e0 : atI (d0 :: ds) 0 = some d0 := L2.atI_nat (j := 0) rfl
      have r0 := isRow_run (k := k) (hs d0 List.mem_cons_self)
      by_cases hr : isRow d0 = true
      · have hz : ∃ z, d0 = .str z := by cases d0 <;> first | exact ⟨_, rfl⟩ | cases hr
        obtain ⟨z0, rfl⟩ := hz
        have hb : badOf (.tup (.str z0 :: ds)) = unD ((D.str z0 :: ds).findIdx? (offRow z0.length)) := by
          unfold badOf
          simp only
          rw [if_neg (by simp)]
          unfold uneven
          congr 2
          funext d
          exact off_bad
        have hf : ∀ (m : Nat) (d : D), d ∈ (D.str z0 :: ds) → ∃ env1, (Tgt.tup [.name 2, .name 3]).set (.tup [.int (m : Nat), d]) (wipeE [.d (.tup (.str z0 :: ds)), .no, .no, .no] [2, 3]) = some env1 ∧ ∀ k,
            (sOrB (sNotB (sTru (sCall 1 n__law_is_row (lCons (sV 3) lNil)))) (sB (sOp neD (sApp (pureO lenD) (lCons (sV 3) lNil)) (sApp (pureO lenD) (lCons (sIx (sV 0) (sC (.int 0))) lNil))))) env1 k = .ok (offRow z0.length d) k ∧ sV 2 env1 k = .ok (.int (m : Nat)) k := by
          refine fun m d hd => ⟨[.d (.tup (.str z0 :: ds)), .no, .d (.int (m : Nat)), .d d], rfl, fun k => ⟨?_, rfl⟩⟩
          have r1 := isRow_run (k := k) (hs d hd)
          by_cases hd1 : isRow d = true
          · have hz : ∃ z, d = .str z := by cases d <;> first | exact ⟨_, rfl⟩ | cases hd1
            obtain ⟨z, rfl⟩ := hz
            simp [r1, truD, hd1, lenD, ixD, e0, ne_int, offRow, lenOf, int_beq]
          · simp [r1, truD, hd1, offRow]
        obtain ⟨ns, e1, e2⟩ := firsts (k := k) hl hf
        rw [hb, ← e2]
        cases ns with
        | nil => simp [isTy, isTyN, tyN, truD, eq_nilT, ixD, e0, r0, hr, itemsOf, e1, ne_nn, unD]
        | cons n ns =>
          have e3 : atI (D.int (n : Nat) :: ns.map fun n => D.int (n : Nat)) 0 = some (.int (n : Nat)) := L2.atI_nat (j := 0) rfl
          have e4 := ne_firsts (ns := n :: ns)
          simp only [List.map_cons, List.isEmpty_cons] at e1 e4
          simp [isTy, isTyN, tyN, truD, eq_nilT, ixD, e0, r0, hr, itemsOf, e1, e4, unD, e3]
      · have hb : badOf (.tup (d0 :: ds)) = .int 0 := by
          unfold badOf
          simp only
          rw [if_neg (by simp)]
          unfold uneven
          rw [List.findIdx?_cons, if_pos (by rw [off_bad]; unfold offRow; simp [hr])]
          rfl
        simp [isTy, isTyN, tyN, truD, eq_nilT, ixD, e0, r0, hr, hb]
  | _ => first | (cases h; done) | (simp [isTy, isTyN, tyN, truD, badOf]; done)

/-! ### what is built, and what is due -/
def strsOf' (d : D) : List Str := match strsOf (tupL d) with
  | some xs => xs
  | none => []
def dueOf (it : D) : D := if (badOf it).isNon = true then .lst [.str "cloth", it, .int (fstLen (tupL it)), .int ((tupL it).length), .str (Txt.join "\n" (strsOf' it))] else .lst [.str "bad", badOf it, .bl true]
/-- a cloth's value: texts -/
theorem good_strs {it : D} (h : (badOf it).isNon = true) : ∃ xs : List Str, it = .tup (strsD xs) ∧ xs ≠ [] ∧ (∀ x ∈ xs, isRow (.str x) = true ∧ x.length = fstLen (strsD xs)) := by
  unfold badOf at h
  cases it with
  | tup ds =>
    simp only at h
    by_cases hn : ds = []
    · rw [if_pos hn] at h; cases h
    · rw [if_neg hn, unD_non] at h
      have hu : uneven "x-" ds = none := by simpa using h
      unfold uneven at hu
      have hall := List.findIdx?_eq_none_iff.mp hu
      have key : ∀ (es : List D), (∀ d ∈ es, badRow "x-" (fstLen ds) d = false) → ∃ xs : List Str, es = strsD xs ∧ ∀ x ∈ xs, isRow (.str x) = true ∧ x.length = fstLen ds := by
        intro es
        induction es with
        | nil => intro _; exact ⟨[], rfl, fun _ z => nomatch z⟩
        | cons e es ih =>
          intro hh
          obtain ⟨xs, h1, h2⟩ := ih fun d hd => hh d (List.mem_cons_of_mem _ hd)
          have he := hh e List.mem_cons_self
          rw [off_bad] at he
          unfold offRow at he
          simp only [Bool.or_eq_false_iff, Bool.not_eq_false'] at he
          have hz : ∃ z, e = .str z := by
            have := he.1
            cases e <;> first | exact ⟨_, rfl⟩ | cases this
          obtain ⟨z, rfl⟩ := hz
          refine ⟨z :: xs, by rw [h1]; rfl, fun x hx => ?_⟩
          rcases List.mem_cons.mp hx with rfl | hx
          · exact ⟨he.1, eq_of_beq he.2⟩
          · exact h2 x hx
      obtain ⟨xs, h1, h2⟩ := key ds hall
      refine ⟨xs, by rw [h1], fun z => hn (by rw [h1, z]; rfl), fun x hx => ?_⟩
      have := h2 x hx
      rw [h1] at this
      exact this
  | _ => cases h
theorem sum_wt : ∀ xs : List Str, (xs.map (·.length)).sum + xs.length * 1 ≤ wtAll (strsD xs)
  | [] => by simp
  | x :: xs => by
    have := sum_wt xs
    simp only [strsD, List.map_cons, wtAll, wt, List.sum_cons, List.length_cons] at *
    omega
end C03
set_option Elab.async false
set_option linter.all false
set_option maxRecDepth 100000
set_option maxHeartbeats 4000000
namespace C03
open PySem PySem.Spec L2 DL
theorem own_len {it : D} {n : Int} {k : DkO} {ds : List D} (h : it = .tup ds) (hl : ds.length < 4611686018427387904) : orO (pureO lenD) (ownO "Cloth" n_Cloth___len__ lenC) [.obj "Cloth" [("picks", it), ("ends", .int n)]] k = .ok (.int ds.length) k := by
  have e := len_run (n := n) (k := k) h
  have hc : lenC (.int (ds.length : Nat)) = true := by
    simp only [lenC, Bool.and_eq_true, decide_eq_true_eq]
    omega
  rw [orO_bad rfl]
  exact ownO_ok e hc
theorem own_str {xs : List Str} {n : Int} {k : DkO} (h : (xs.map (·.length)).sum + xs.length * 1 ≤ 16777216) : orO textD (ownO "Cloth" n_Cloth___str__ strC) [.obj "Cloth" [("picks", .tup (strsD xs)), ("ends", .int n)]] k = .ok (.str (Txt.join "\n" xs)) k := by
  rw [orO_bad rfl]
  exact ownO_ok (str_run h) rfl
def builtG (FI : FnI) (FL FS : List D → DkO → Out D) : Ss :=
  (sSeq (sSet 2 (sC .non))
  (sSeq (sTry takes_BadCloth 4
  (sSeq (sSet 3 (sIf (sTru (sV 1)) (sOfC "Cloth" (sC (.cls "Cloth")) (sMake "Cloth" 1 FI (sOrdK 1 [0] (lCons (sV 0) lNil)))) (sOfC "Cloth" (sC (.cls "Cloth")) (sMake "Cloth" 1 FI (lCons (sV 0) lNil)))))
  (sSet 2 (sLst (lCons (sC (.str "cloth")) (lCons (sFld ["Cloth"] "picks" (sV 3)) (lCons (sFld ["Cloth"] "ends" (sV 3)) (lCons (sApp FL (lCons (sV 3) lNil)) (lCons (sApp FS (lCons (sV 3) lNil)) lNil))))))))
  (sSet 2 (sLst (lCons (sC (.str "bad")) (lCons (sXf "BadCloth" "part" 4) (lCons (sXi "BadCloth" true 4) lNil))))))
  (sRet (sV 2))))
theorem builtG_ok {FI : FnI} {FL FS : List D → DkO → Out D} {a : D} {m n : Int} {x : Str} {b : Bool} {k : DkO} (e : FI [a] k = .ok [("picks", a), ("ends", .int m)] k) (e2 : FL [.obj "Cloth" [("picks", a), ("ends", .int m)]] k = .ok (.int n) k) (e3 : FS [.obj "Cloth" [("picks", a), ("ends", .int m)]] k = .ok (.str x) k) :
    endD (builtG FI FL FS [.d a, .d (.bl b), .no, .no, .no] k) = .ok (.lst [.str "cloth", a, .int m, .int n, .str x]) k := by
  have e9 : (("ends" : Str) == ("picks" : Str)) = false := by decide
  unfold builtG
  cases b with
  | true => simp [ordK, e, List.lookup, e9, e2, e3, truD]
  | false => simp [ordK, e, List.lookup, e9, e2, e3, truD]
theorem builtG_bad {FI : FnI} {FL FS : List D → DkO → Out D} {a d : D} {b : Bool} {k : DkO} (e : FI [a] k = .err "BadCloth" [("part", d)] k) :
    endD (builtG FI FL FS [.d a, .d (.bl b), .no, .no, .no] k) = .ok (.lst [.str "bad", d, .bl true]) k := by
  unfold builtG
  cases b with
  | true => simp [ordK, e, truD, takes_BadCloth, noExc, En.isExc]
  | false => simp [ordK, e, truD, takes_BadCloth, noExc, En.isExc]
theorem built_run {it : D} {b : Bool} {k : DkO} {n h m : Nat} (a : Gd n h m it) (hn : n ≤ 10000000) : n__law_built [it, .bl b] k = .ok (dueOf it) k := by
  have hok : ∀ ds, it = .tup ds → ∀ d ∈ ds, okS d := fun ds e d hd => by subst e; exact gd_okS (a.ofTup.mem hd) (by omega)
  have e1 := init_run (k := k) a.plain hok
  show endD (builtG n_Cloth___init__ (orO (pureO lenD) (ownO "Cloth" n_Cloth___len__ lenC)) (orO textD (ownO "Cloth" n_Cloth___str__ strC)) [.d it, .d (.bl b), .no, .no, .no] k) = _
  by_cases hb : (badOf it).isNon = true
  · obtain ⟨xs, rfl, hx, _⟩ := good_strs hb
    have hw := sum_wt xs
    have hw2 := a.w
    simp only [wt] at hw2
    have hs : (xs.map (·.length)).sum + xs.length * 1 ≤ 16777216 := by omega
    have hl : (strsD xs).length < 4611686018427387904 := by
      have := wtAll_len (strsD xs)
      omega
    rw [hb, if_pos rfl] at e1
    simp only [tupL] at e1
    have e4 : dueOf (.tup (strsD xs)) = .lst [.str "cloth", .tup (strsD xs), .int (fstLen (strsD xs)), .int ((strsD xs).length), .str (Txt.join "\n" xs)] := by
      unfold dueOf
      rw [if_pos hb]
      simp only [tupL, strsOf', strsOf_map]
    rw [e4]
    exact builtG_ok e1 (own_len rfl hl) (own_str hs)
  · rw [if_neg hb] at e1
    have e4 : dueOf it = .lst [.str "bad", badOf it, .bl true] := by
      unfold dueOf
      rw [if_neg hb]
    rw [e4]
    exact builtG_bad e1
end C03
set_option Elab.async false
set_option linter.all false
set_option maxRecDepth 100000
set_option maxHeartbeats 4000000
namespace C03
open PySem PySem.Spec L2 DL
theorem int_ok {n : Nat} (h : n ≤ 10000000) : okD (.int (n : Nat)) = true := by
  refine decide_eq_true (log_small ?_)
  show Int.natAbs (n : Int) ≤ 10 ^ 60
  rw [Int.natAbs_natCast]
  exact Nat.le_trans h (by decide)
theorem okD_list {ds : List D} (h : ∀ d ∈ ds, okD d = true) : okD (.lst ds) = true := okAll_of h
theorem join_len {xs : List Str} : (Txt.join "\n" xs).length ≤ (xs.map (·.length)).sum + xs.length * 1 := by
  rw [join_is]
  exact PySem.StrLaws.join_length_le "\n" xs
theorem join_sok {xs : List Str} (h : ∀ x ∈ xs, SOk x) (hl : (xs.map (·.length)).sum + xs.length * 1 ≤ 16777216) : SOk (Txt.join "\n" xs) := join_ok ⟨by decide +kernel, by decide +kernel⟩ h hl
theorem unD_ok {o : Option Nat} (h : ∀ i, o = some i → i ≤ 10000000) : okD (unD o) = true ∧ wt (unD o) ≤ 2000 ∧ ht (unD o) = 0 := by
  cases o with
  | none => exact ⟨rfl, by decide, rfl⟩
  | some i => exact ⟨int_ok (h i rfl), by simp [unD, wt], rfl⟩
theorem un_len {sg : Str} {ds : List D} {i : Nat} (h : uneven sg ds = some i) : i < ds.length := by
  unfold uneven at h
  rw [List.findIdx?_eq_some_iff_getElem] at h
  exact h.1
theorem bad_ok {it : D} {n h m : Nat} (a : Gd n h m it) (hn : n ≤ 1000000) : okD (badOf it) = true ∧ wt (badOf it) ≤ 2000 ∧ ht (badOf it) = 0 := by
  have hp : okD (.str "picks") = true ∧ wt (.str "picks") ≤ 2000 ∧ ht (.str "picks") = 0 := by decide +kernel
  unfold badOf
  cases it with
  | tup ds =>
    simp only
    by_cases hd : ds = []
    · rw [if_pos hd]; exact hp
    · rw [if_neg hd]
      refine unD_ok fun i hi => ?_
      have := un_len hi
      have := a.ofTup.len
      omega
  | _ => exact hp
theorem strs_sok {xs : List Str} {n h m : Nat} (a : Gd n h m (.tup (strsD xs))) (hn : n ≤ 1000000) : ∀ x ∈ xs, SOk x := fun x hx =>
  (gd_okS (a.ofTup.mem (List.mem_map_of_mem hx)) (by omega)).2 x rfl
theorem due_ok {it : D} {n h m : Nat} (a : Gd n h m it) (hn : n ≤ 100000) (hm : m ≤ 10 ^ 60) : okD (dueOf it) = true ∧ wt (dueOf it) ≤ 2000000 ∧ ht (dueOf it) ≤ h + 1 := by
  obtain ⟨b1, b2, b3⟩ := bad_ok a (by omega)
  unfold dueOf
  by_cases hb : (badOf it).isNon = true
  · rw [if_pos hb]
    obtain ⟨xs, rfl, hx, _⟩ := good_strs hb
    have hw := sum_wt xs
    have hw2 := a.w
    simp only [wt] at hw2
    have hs : (xs.map (·.length)).sum + xs.length * 1 ≤ 16777216 := by omega
    have hj := @join_len xs
    have hf : fstLen (strsD xs) ≤ 1000000 := by
      cases xs with
      | nil => exact absurd rfl hx
      | cons x xs =>
        show x.length ≤ _
        simp only [List.map_cons, List.sum_cons] at hw
        omega
    have hl : (strsD xs).length ≤ 1000000 := by have := wtAll_len (strsD xs); omega
    simp only [tupL, strsOf', strsOf_map]
    refine ⟨okD_list fun d hd => ?_, ?_, ?_⟩
    · simp only [List.mem_cons, List.mem_nil_iff, or_false] at hd
      rcases hd with rfl | rfl | rfl | rfl | rfl
      · decide +kernel
      · exact a.ok (by omega) hm
      · exact int_ok (by omega)
      · exact int_ok (by omega)
      · obtain ⟨s1, s2⟩ := join_sok (strs_sok a (by omega)) hs
        simp only [okD, Bool.and_eq_true, decide_eq_true_eq]
        exact ⟨s1, s2⟩
    · have e : wt (.str "cloth") = 60 := by decide +kernel
      simp only [wt, wtAll] at e ⊢
      omega
    · have := a.h
      simp only [ht, htAll] at this ⊢
      omega
  · rw [if_neg hb]
    refine ⟨okD_list fun d hd => ?_, ?_, ?_⟩
    · simp only [List.mem_cons, List.mem_nil_iff, or_false] at hd
      rcases hd with rfl | rfl | rfl
      · decide +kernel
      · exact b1
      · rfl
    · have e : wt (.str "bad") = 40 := by decide +kernel
      simp only [wt, wtAll] at e b2 ⊢
      omega
    · simp only [ht, htAll, b3]; omega
theorem right_run {it : D} {k : DkO} {n h m : Nat} (a : Gd n h m it) (hn : n ≤ 100000) (hh : h ≤ 40) (hm : m ≤ 10 ^ 60) : n__law_right [it] k = .ok (.bl true) k := by
  have hi : ∀ ds, it = .tup ds → ds.length ≤ sizeLine ∧ ∀ d ∈ ds, okS d := fun ds e => by
    subst e
    refine ⟨?_, fun d hd => gd_okS (a.ofTup.mem hd) (by omega)⟩
    have := a.ofTup.len
    have := sizeLine_eq
    omega
  have e1 := bad_run (k := k) a.plain hi
  have e2 := fun b => built_run (b := b) (k := k) a (by omega)
  obtain ⟨d1, d2, d3⟩ := due_ok a hn hm
  have sz := sizeLine_eq
  obtain ⟨p, r1, _⟩ := repr_of (a.ok (by omega) hm) (by have := a.w; omega) (by have := a.h; omega)
  obtain ⟨p2, r2, _⟩ := repr_of (d := .lst [dueOf it, dueOf it]) (okD_list fun d hd => by
    simp only [List.mem_cons, List.mem_nil_iff, or_false] at hd
    rcases hd with rfl | rfl <;> exact d1) (by simp only [wt, wtAll]; omega) (by simp only [ht, htAll]; omega)
  unfold n__law_right fnD entryE s__law_right g__law_right
  generalize n__law_bad = FB at e1 ⊢
  generalize n__law_built = FT at e2 ⊢
  generalize hd : dueOf it = du at e2 r2 d1 d2 d3
  unfold dueOf at hd
  by_cases hb : (badOf it).isNon = true
  · obtain ⟨xs, rfl, hx, _⟩ := good_strs hb
    rw [if_pos hb] at hd
    simp only [tupL, strsOf', strsOf_map] at hd
    have hw := sum_wt xs
    have hw2 := a.w
    simp only [wt] at hw2
    have hs : (xs.map (·.length)).sum + xs.length * 1 ≤ 16777216 := by omega
    have ej := joinD_tup (a := "\n") hs
    obtain ⟨x0, hx0, hf⟩ : ∃ x0, (strsD xs)[0]? = some (.str x0) ∧ fstLen (strsD xs) = x0.length := by
      cases xs with
      | nil => exact absurd rfl hx
      | cons x xs => exact ⟨x, rfl, rfl⟩
    have e0 : atI (strsD xs) 0 = some (.str x0) := L2.atI_nat (j := 0) hx0
    rw [hf] at hd
    generalize badOf (.tup (strsD xs)) = bd at e1 hb
    simp [setsE, e1, r1, isD_non, hb, ixD, e0, lenD, ej, hd, e2, r2, eq_shw, truD]
  · rw [if_neg hb] at hd
    have hb' : (badOf it).isNon = false := by simpa using hb
    simp [setsE, e1, r1, isD_non, hb', hd, e2, r2, eq_shw, truD]

/-! ### texts -/
def readOf (it : D) : D := match it with
  | .str x => (match uneven "x-" (strsD (splitL x)) with
    | some i => .lst [.int ((i : Nat) + 1), .bl true]
    | none => .tup (strsD (splitL x)))
  | _ => .lst [.int 0, .bl true]
def heardG (FR : Fn) : Ss :=
  (sSeq (sSet 2 (sC .non))
  (sSeq (sTry takes_BadText 3
  (sSet 2 (sFld ["Cloth"] "picks" (sIf (sTru (sV 1)) (sCM "Cloth" 2 FR (sC (.cls "Cloth")) (sOrdK 1 [0] (lCons (sV 0) lNil))) (sCM "Cloth" 2 FR (sC (.cls "Cloth")) (lCons (sV 0) lNil)))))
  (sSet 2 (sLst (lCons (sXf "BadText" "line" 3) (lCons (sXi "BadText" true 3) lNil)))))
  (sRet (sV 2))))
theorem heardG_ok {FR : Fn} {a d : D} {b : Bool} {i : Int} {k : DkO} (e : FR [.cls "Cloth", a] k = .ok (.obj "Cloth" [("picks", d), ("ends", .int i)]) k) : endD (heardG FR [.d a, .d (.bl b), .no, .no] k) = .ok d k := by
  unfold heardG
  cases b with
  | true => simp [ordK, e, truD, List.lookup]
  | false => simp [ordK, e, truD, List.lookup]
theorem heardG_bad {FR : Fn} {a d : D} {b : Bool} {k : DkO} (e : FR [.cls "Cloth", a] k = .err "BadText" [("line", d)] k) : endD (heardG FR [.d a, .d (.bl b), .no, .no] k) = .ok (.lst [d, .bl true]) k := by
  unfold heardG
  cases b with
  | true => simp [ordK, e, truD, takes_BadText, noExc, En.isExc]
  | false => simp [ordK, e, truD, takes_BadText, noExc, En.isExc]
theorem heard_run {it : D} {b : Bool} {k : DkO} {n h m : Nat} (a : Gd n h m it) (hn : n ≤ 1000000) : n__law_heard [it, .bl b] k = .ok (readOf it) k := by
  have hl : ∀ x, it = .str x → x.length ≤ 10000000 ∧ ∀ c ∈ cp x, c < 128 := fun x e => by
    subst e
    obtain ⟨h1, h2⟩ := a.asc
    exact ⟨by omega, h1⟩
  have e := read_run (k := k) a.plain hl
  show endD (heardG n_Cloth_read [.d it, .d (.bl b), .no, .no] k) = _
  cases it with
  | str x =>
    simp only at e
    unfold readOf
    cases hu : uneven "x-" (strsD (splitL x)) with
    | some i => rw [hu] at e; simp only [hu]; exact heardG_bad e
    | none => rw [hu] at e; simp only [hu]; exact heardG_ok e
  | _ => exact heardG_bad e
theorem read_ok {it : D} {n h m : Nat} (a : Gd n h m it) (hn : n ≤ 100000) (hm : m ≤ 10 ^ 60) : okD (readOf it) = true ∧ wt (readOf it) ≤ 2000000 ∧ ht (readOf it) ≤ 1 := by
  have h0 : okD (.lst [.int 0, .bl true]) = true ∧ wt (.lst [.int 0, .bl true]) ≤ 2000000 ∧ ht (.lst [.int 0, .bl true]) ≤ 1 := by decide +kernel
  unfold readOf
  cases it with
  | str x =>
    obtain ⟨h1, h2⟩ := a.asc
    have hs := split_sum x
    have hw : ∀ xs : List Str, wtAll (strsD xs) = 10 * (xs.map (·.length)).sum + 12 * xs.length ∧ htAll (strsD xs) = 0 := by
      intro xs
      induction xs with
      | nil => exact ⟨rfl, rfl⟩
      | cons x xs ih =>
        simp only [strsD, List.map_cons, wtAll, htAll, wt, ht, List.sum_cons, List.length_cons] at ih ⊢
        omega
    have hl : (strsD (splitL x)).length = (splitL x).length := List.length_map ..
    simp only
    cases hu : uneven "x-" (strsD (splitL x)) with
    | some i =>
      have := un_len hu
      simp only
      refine ⟨okD_list fun d hd => ?_, ?_, ?_⟩
      · simp only [List.mem_cons, List.mem_nil_iff, or_false] at hd
        rcases hd with rfl | rfl
        · exact int_ok (n := i + 1) (by omega)
        · rfl
      · simp only [wt, wtAll]; omega
      · simp only [ht, htAll]; omega
    | none =>
      simp only
      obtain ⟨w1, w2⟩ := hw (splitL x)
      refine ⟨okAll_of fun d hd => ?_, ?_, ?_⟩
      · obtain ⟨t, ht, rfl⟩ := List.mem_map.mp hd
        obtain ⟨s1, s2⟩ := (okS_split h1 (by omega) _ hd).2 t rfl
        simp only [okD, Bool.and_eq_true, decide_eq_true_eq]
        exact ⟨s1, s2⟩
      · simp only [wt, w1]; omega
      · simp only [ht, w2]; omega
  | _ => exact h0
end C03
set_option Elab.async false
set_option linter.all false
set_option maxRecDepth 100000
set_option maxHeartbeats 4000000
namespace C03
open PySem PySem.Spec L2 DL
def pageDue (ls : List D) : Option Nat → D
  | some n => .lst [.int ((n : Nat) + 1), .bl true]
  | none => .tup ls
theorem page_run {it : D} {k : DkO} {n h m : Nat} (a : Gd n h m it) (hn : n ≤ 100000) (hh : h ≤ 40) (hm : m ≤ 10 ^ 60) : n__law_page_right [it] k = .ok (.bl true) k := by
  have e2 := fun b => heard_run (b := b) (k := k) a (by omega)
  obtain ⟨d1, d2, d3⟩ := read_ok a hn hm
  have sz := sizeLine_eq
  obtain ⟨p, r1, _⟩ := repr_of (a.ok (by omega) hm) (by have := a.w; omega) (by have := a.h; omega)
  obtain ⟨p2, r2, _⟩ := repr_of (d := .lst [readOf it, readOf it]) (okD_list fun d hd => by
    simp only [List.mem_cons, List.mem_nil_iff, or_false] at hd
    rcases hd with rfl | rfl <;> exact d1) (by simp only [wt, wtAll]; omega) (by simp only [ht, htAll]; omega)
  unfold n__law_page_right fnD entryE s__law_page_right g__law_page_right
  generalize n__law_heard = FT at e2 ⊢
  cases it with
  | str x =>
    obtain ⟨h1, h2⟩ := a.asc
    have hs := okS_split h1 (by omega)
    have e3 := splitD_eq (x := x) (by omega)
    have hl : (strsD (splitL x)).length ≤ sizeLine := by
      have := split_sum x
      have : (strsD (splitL x)).length = (splitL x).length := List.length_map ..
      omega
    obtain ⟨x0, ys, hx0⟩ : ∃ x0 ys, splitL x = x0 :: ys := by
      have := split_ne x "\n"
      cases hq : splitL x with
      | nil => unfold splitL at hq; rw [hq] at this; cases this
      | cons x0 ys => exact ⟨x0, ys, rfl⟩
    have e0 : atI (strsD (splitL x)) 0 = some (.str x0) := by rw [hx0]; exact L2.atI_nat (j := 0) rfl
    have hfst : fstLen (strsD (splitL x)) = x0.length := by rw [hx0]; rfl
    have hu : uneven "x-" (strsD (splitL x)) = (strsD (splitL x)).findIdx? (offRow x0.length) := by
      unfold uneven
      rw [hfst]
      congr 1
      funext d
      exact off_bad
    obtain ⟨ls, hls⟩ : ∃ ls, ls = strsD (splitL x) := ⟨_, rfl⟩
    have hf : ∀ (m : Nat) (d : D), d ∈ ls → ∃ env1, (Tgt.tup [.name 5, .name 6]).set (.tup [.int (m : Nat), d]) (wipeE [.d (.str x), .d (.shw p), .d (.lst [.int 0, .bl true]), .d (.lst ls), .no, .no, .no] [5, 6]) = some env1 ∧ ∀ k,
        (sOrB (sNotB (sTru (sCall 1 n__law_is_row (lCons (sV 6) lNil)))) (sB (sOp neD (sApp (pureO lenD) (lCons (sV 6) lNil)) (sApp (pureO lenD) (lCons (sIx (sV 3) (sC (.int 0))) lNil))))) env1 k = .ok (offRow x0.length d) k ∧ sV 5 env1 k = .ok (.int (m : Nat)) k := by
      refine fun m d hd => ⟨[.d (.str x), .d (.shw p), .d (.lst [.int 0, .bl true]), .d (.lst ls), .no, .d (.int (m : Nat)), .d d], rfl, fun k => ⟨?_, rfl⟩⟩
      rw [hls] at hd
      have r1 := isRow_run (k := k) (hs d hd)
      rw [← hls] at e0
      by_cases hd1 : isRow d = true
      · have hz : ∃ z, d = .str z := by cases d <;> first | exact ⟨_, rfl⟩ | cases hd1
        obtain ⟨z, rfl⟩ := hz
        simp [r1, truD, hd1, lenD, ixD, e0, ne_int, offRow, lenOf, int_beq]
      · simp [r1, truD, hd1, offRow]
    rw [← hls] at hl e3 hu
    obtain ⟨ns, e1, e4⟩ := firsts (k := k) hl hf
    have e5 : readOf (.str x) = pageDue ls ns.head? := by
      unfold readOf
      simp only [← hls]
      rw [hu, ← e4]
      cases ns <;> rfl
    generalize readOf (.str x) = rd at e2 r2 e5
    generalize n__law_is_row = FR at e1 ⊢
    cases ns with
    | nil =>
      simp only [List.head?_nil, pageDue] at e5
      subst e5
      simp [setsE, r1, isTy, isTyN, tyN, truD, e3, itemsOf, e1, ne_nn, tupleD, e2, r2, eq_shw]
    | cons n ns =>
      have e6 : atI (D.int (n : Nat) :: ns.map fun n => D.int (n : Nat)) 0 = some (.int (n : Nat)) := L2.atI_nat (j := 0) rfl
      have e7 := ne_firsts (ns := n :: ns)
      simp only [List.map_cons, List.isEmpty_cons, List.head?_cons, pageDue] at e1 e7 e5
      subst e5
      simp [setsE, r1, isTy, isTyN, tyN, truD, e3, itemsOf, e1, e7, ixD, e6, plusD, orD, catD, e2, r2, eq_shw]
  | dk => cases a.plain
  | cls _ => cases a.plain
  | shw _ => cases a.plain
  | _ => simp only [readOf] at e2 r2; simp [setsE, r1, isTy, isTyN, tyN, truD, e2, r2, eq_shw]
end C03
set_option Elab.async false
set_option linter.all false
set_option maxRecDepth 100000
set_option maxHeartbeats 4000000
namespace C03
open PySem PySem.Spec L2 DL
/-- a row of w signs x, - -/
def Row (w : Nat) (z : Str) : Prop := z.length = w ∧ ∀ c ∈ cp z, c = 120 ∨ c = 45
def signsOf (cs : List Nat) : List Str := cs.map fun c => ⟨#[c]⟩
theorem join_signs (cs : List Nat) : Txt.join "" (signsOf cs) = ⟨cs.toArray⟩ := by
  rw [join_is]
  induction cs with
  | nil => rfl
  | cons c cs ih =>
    cases cs with
    | nil => rfl
    | cons d cs =>
      show (⟨#[c]⟩ : Str) ++ "" ++ Str.join "" (signsOf (d :: cs)) = _
      rw [ih]
      show (⟨#[c] ++ #[] ++ (d :: cs).toArray⟩ : Str) = _
      simp
theorem signs_of {ys : List D} {P : Nat → Prop} (h : ∀ y ∈ ys, ∃ c, y = .str ⟨#[c]⟩ ∧ P c) : ∃ cs : List Nat, ys = strsD (signsOf cs) ∧ cs.length = ys.length ∧ ∀ c ∈ cs, P c := by
  induction ys with
  | nil => exact ⟨[], rfl, rfl, fun _ z => nomatch z⟩
  | cons y ys ih =>
    obtain ⟨cs, h1, h2, h3⟩ := ih fun z hz => h z (List.mem_cons_of_mem _ hz)
    obtain ⟨c, rfl, hc⟩ := h y List.mem_cons_self
    refine ⟨c :: cs, by rw [h1]; rfl, by rw [List.length_cons, List.length_cons, h2], fun d hd => ?_⟩
    rcases List.mem_cons.mp hd with rfl | hd
    · exact hc
    · exact h3 d hd
theorem join_row {cs : List Nat} (hl : cs.length ≤ 1000) : joinD "" [.lst (strsD (signsOf cs))] = some (.str ⟨cs.toArray⟩) := by
  have hs : ∀ cs : List Nat, ((signsOf cs).map (·.length)).sum + (signsOf cs).length * ("" : Str).length = cs.length := by
    intro cs
    have e : ("" : Str).length = 0 := rfl
    rw [e, Nat.mul_zero, Nat.add_zero]
    induction cs with
    | nil => rfl
    | cons c cs ih =>
      simp only [signsOf, List.map_cons, List.sum_cons, List.length_cons] at ih ⊢
      rw [ih]
      show 1 + cs.length = _
      omega
  rw [joinD_lst (by rw [hs]; omega), join_signs]
theorem row_of {cs : List Nat} {w : Nat} (hl : cs.length = w) (h : ∀ c ∈ cs, c = 120 ∨ c = 45) : Row w ⟨cs.toArray⟩ := by
  refine ⟨?_, fun c hc => h c (by simpa using hc)⟩
  show cs.toArray.size = w
  simpa using hl
section
variable {FP FD : Fn}
theorem pick_two (hP : PickOk FP) {k : Dk} {n : Nat} (hb : Bud k (n + 1)) : ∃ c k', FP [.dk, .str "x-"] (some k) = .ok (.str ⟨#[c]⟩) (some k') ∧ (c = 120 ∨ c = 45) ∧ Bud k' n := by
  obtain ⟨c, k', e, hc, hb'⟩ := hP.str "x-" k n (by decide) (by show 2 < 1073741824; omega) hb
  refine ⟨c, k', e, ?_, hb'⟩
  have : c ∈ [120, 45] := hc
  simpa using this
/-- ''.join([pick(deck, 'x-') for k in range(wide)]) -/
theorem pick_row (hP : PickOk FP) {e1 e3 e4 e5 e6 e7 e8 e9 e10 e11 : En} {w : Nat} {k : Dk} {n : Nat} (hw : w ≤ 12) (hb : Bud k (n + 1 * w)) :
    ∃ z k', sM1 joinD (sC (.str "")) (sFrz (sComp (.name 5) [5] sYes (sCall 2 FP (lCons (sV 0) (lCons (sC (.str "x-")) lNil))) (iRange1 (sV 2)))) [.d .dk, e1, .d (.int (w : Nat)), e3, e4, e5, e6, e7, e8, e9, e10, e11] (some k) = .ok (.str z) (some k') ∧ Row w z ∧ Bud k' n := by
  obtain ⟨ys, k', e, hl, hy, hb'⟩ := compM_run (t := .name 5) (f := sCall 2 FP (lCons (sV 0) (lCons (sC (.str "x-")) lNil))) (env0 := wipeE [.d .dk, e1, .d (.int (w : Nat)), e3, e4, e5, e6, e7, e8, e9, e10, e11] [5])
    (mk := fun (i : Nat) => .int (i : Nat)) (P := fun _ y => ∃ c, y = .str ⟨#[c]⟩ ∧ (c = 120 ∨ c = 45)) (c := 1) (List.range w) [] k n (by rw [List.length_range]; have := sizeLine_eq; show 0 + w ≤ _; omega) (by rw [List.length_range]; exact hb)
    (fun b _ => ⟨_, rfl, fun k n hb => by
      obtain ⟨c, k', e, hc, hb'⟩ := pick_two hP hb
      refine ⟨_, k', ?_, ⟨c, rfl, hc⟩, hb'⟩
      simp only [sCall_eq, lCons_eq, lNil_eq, sC_eq, sV_eq, wipeE, bind_ok]
      exact e⟩)
  obtain ⟨cs, h1, h2, h3⟩ := signs_of (P := fun c => c = 120 ∨ c = 45) fun y hy' => (hy y hy').elim fun _ z => z.2
  rw [List.length_range] at hl
  refine ⟨⟨cs.toArray⟩, k', ?_, row_of (h2.trans hl) h3, hb'⟩
  rw [h1, List.nil_append] at e
  exact m1_run rfl (comp_run (range1_run rfl (by omega)) e) (join_row (cs := cs) (by omega))
end
end C03
set_option Elab.async false
set_option linter.all false
set_option maxRecDepth 100000
set_option maxHeartbeats 4000000
namespace C03
open PySem PySem.Spec L2 DL
theorem filter_yes {α : Type} {l : List α} : (l.filter fun _ => true) = l := List.filter_eq_self.mpr fun _ _ => rfl
theorem join_of {cs : List Nat} {w : Nat} (hl : cs.length = w) (hw : w ≤ 1000) : joinD "" [.lst (strsD (signsOf cs))] = some (.str ⟨cs.toArray⟩) := join_row (by omega)
theorem sgn_map {α : Type} {f : α → Nat} {l : List α} : (l.map fun a => D.str ⟨#[f a]⟩) = strsD (signsOf (l.map f)) := by
  unfold strsD signsOf; rw [List.map_map, List.map_map]; rfl
/-- '-' for 'x', 'x' for '-' -/
def flip (c : Nat) : Nat := if (⟨#[c]⟩ : Str) == "x" then 45 else 120
abbrev flipS : Sm D := sM1 joinD (sC (.str "")) (sFrz (sComp (.name 10) [10] sYes (sIf (sB (sOp eqD (sV 10) (sC (.str "x")))) (sC (.str "-")) (sC (.str "x"))) (iVal (sV 7))))
theorem flip_run {e0 e1 e2 e3 e4 e5 e6 e8 e9 e10 e11 : En} {own : Str} {w : Nat} {k : DkO} (hr : Row w own) (hw : w ≤ 12) : ∃ z, flipS [e0, e1, e2, e3, e4, e5, e6, .d (.str own), e8, e9, e10, e11] k = .ok (.str z) k ∧ Row w z := by
  have hl : (cp own).length = w := by rw [← len_list]; exact hr.1
  have hl' : ((cp own).map flip).length = w := by rw [List.length_map, hl]
  refine ⟨⟨((cp own).map flip).toArray⟩, m1_run rfl (comp_run (iVal_run (v_run rfl) rfl) (compM_map (mk := fun c => .str ⟨#[c]⟩) (pp := fun _ => true) (ff := fun c => .str ⟨#[flip c]⟩) (cp own) [] (by have := small1000 (show w ≤ 1000 by omega); show 0 + (cp own).length ≤ _; omega) (fun c hc => ⟨_, rfl, fun k => ⟨rfl, fun _ => ?_⟩⟩) k)) ?_, row_of hl' fun c hc => ?_⟩
  · rw [sif_run (b_run (op_run (v_run rfl) rfl eq_str))]
    unfold flip
    split <;> rfl
  · rw [List.nil_append, filter_yes, sgn_map]
    exact join_of hl' (by omega)
  · obtain ⟨a, _, rfl⟩ := List.mem_map.mp hc
    unfold flip
    split
    · exact .inr rfl
    · exact .inl rfl
abbrev topS : Sm D := sM1 joinD (sC (.str "")) (sFrz (sComp (.name 5) [5] sYes (sIf (sB (sOp eqD (sOp eqD (sIx (sV 4) (sV 5)) (sC (.int 1))) (sV 8))) (sIx (sV 7) (sV 5)) (sIx (sC (.str "-x")) (sIx (sV 4) (sV 5)))) (iRange1 (sV 2))))
def topC (own : Str) (ts : List Nat) (up : Bool) (i : Nat) : Nat := if (((ts.getD i 0 : Nat) : Int) == 1) == up then (cp own).getD i 120 else [45, 120].getD (ts.getD i 0) 120
theorem atI_getD {α : Type} {xs : List α} {i : Nat} {a : α} (h : i < xs.length) : atI xs (i : Int) = some (xs.getD i a) := by
  refine L2.atI_nat ?_
  rw [List.getD_eq_getElem?_getD, List.getElem?_eq_getElem h]; rfl
theorem getD_mem {α : Type} {xs : List α} {i : Nat} {a : α} (h : i < xs.length) : xs.getD i a ∈ xs := by
  rw [List.getD_eq_getElem?_getD, List.getElem?_eq_getElem h]; exact List.getElem_mem h
theorem getD_map {ts : List Nat} {i : Nat} (h : i < ts.length) : atI (ts.map fun n => D.int (n : Nat)) (i : Int) = some (.int ((ts.getD i 0 : Nat) : Int)) := by
  refine L2.atI_nat ?_
  rw [List.getElem?_map, List.getD_eq_getElem?_getD, List.getElem?_eq_getElem h]; rfl
theorem top_run {e0 e1 e3 e5 e6 e9 e10 e11 : En} {own : Str} {w : Nat} {ts : List Nat} {up : Bool} {k : DkO} (hr : Row w own) (hw : w ≤ 12) (ht : ts.length = w) (h2 : ∀ t ∈ ts, t < 2) : ∃ z, topS [e0, e1, .d (.int (w : Nat)), e3, .d (.lst (ts.map fun n => D.int (n : Nat))), e5, e6, .d (.str own), .d (.bl up), e9, e10, e11] k = .ok (.str z) k ∧ Row w z := by
  have hl : (cp own).length = w := by rw [← len_list]; exact hr.1
  have hl' : ((List.range w).map (topC own ts up)).length = w := by rw [List.length_map, List.length_range]
  refine ⟨⟨((List.range w).map (topC own ts up)).toArray⟩, m1_run rfl (comp_run (range1_run (v_run rfl) (by omega)) (compM_map (mk := fun (i : Nat) => .int (i : Nat)) (pp := fun _ => true) (ff := fun i => .str ⟨#[topC own ts up i]⟩) (List.range w) [] (by have := small1000 (show w ≤ 1000 by omega); rw [List.length_range]; show 0 + w ≤ _; omega) (fun i hi => ⟨_, rfl, fun k => ⟨rfl, fun _ => ?_⟩⟩) k)) ?_, row_of hl' fun c hc => ?_⟩
  · have hi' : i < w := List.mem_range.mp hi
    have hT : ∀ k, sIx (sV 4) (sV 5) (([e0, e1, .d (.int (w : Nat)), e3, .d (.lst (ts.map fun n => D.int (n : Nat))), .d (.int (i : Nat)), e6, .d (.str own), .d (.bl up), e9, e10, e11] : List En)) k = .ok (.int ((ts.getD i 0 : Nat) : Int)) k := fun k =>
      ix_run (v_run rfl) (v_run rfl) (getD_map (by omega))
    refine (sif_run (b_run (op_run (op_run (hT _) rfl eq_int) (v_run rfl) eq_bl))).trans ?_
    unfold topC
    split
    · refine ix_run (v_run rfl) (v_run rfl) ?_
      show (atI (cp own) (i : Int)).map _ = _
      rw [atI_getD (a := 120) (by omega)]; rfl
    · refine ix_run rfl (hT _) ?_
      show (atI [45, 120] _).map _ = _
      rw [atI_getD (a := 120) (by have := h2 _ (getD_mem (a := 0) (show i < ts.length by omega)); show _ < 2; omega)]; rfl
  · rw [List.nil_append, filter_yes, sgn_map]
    exact join_of hl' (by omega)
  · obtain ⟨i, hi, rfl⟩ := List.mem_map.mp hc
    have hi' : i < w := List.mem_range.mp hi
    unfold topC
    split
    · exact hr.2 _ (getD_mem (by omega))
    · have : [45, 120].getD (ts.getD i 0) 120 ∈ [45, 120] := getD_mem (by have := h2 _ (getD_mem (a := 0) (show i < ts.length by omega)); show _ < 2; omega)
      simp only [List.mem_cons, List.mem_nil_iff, or_false] at this
      omega
theorem in_12 {i : Int} : ∃ b, inD (.int i) (.tup [.int 1, .int 2]) = some (.bl b) := ⟨_, rfl⟩
section
variable {FP FD : Fn}
def envC (many wide way : Nat) (ts : List Nat) (rows : List D) (own : Str) (up : Bool) (e9 e11 : En) : List En := [.d .dk, .d (.int (many : Nat)), .d (.int (wide : Nat)), .d (.int (way : Nat)), .d (.lst (ts.map fun n => D.int (n : Nat))), .no, .own rows, .d (.str own), .d (.bl up), e9, .no, e11]
abbrev pickS (FP : Fn) : Sm D := sM1 joinD (sC (.str "")) (sFrz (sComp (.name 5) [5] sYes (sCall 2 FP (lCons (sV 0) (lCons (sC (.str "x-")) lNil))) (iRange1 (sV 2))))
abbrev draws (FD : Fn) (b : Int) : Sm D := sCall 2 FD (lCons (sV 0) (lCons (sC (.int b)) lNil))
/-- the row that is woven next -/
abbrev ownS (FP FD : Fn) : Ss := (sIfS (sAndB (sB (sOp gtD (sV 9) (sC (.int 0)))) (sB (sOp eqD (draws FD 2) (sC (.int 0)))))
  (sSet 7 flipS)
  (sIfS (sOrB (sB (sOp neD (sV 3) (sC (.int 4)))) (sB (sOp eqD (draws FD 4) (sC (.int 0)))))
  (sPar [7, 8] (mD (pickS FP) (mD (sOp eqD (draws FD 2) (sC (.int 0))) mNil)))
  sSkip))
abbrev stepS (FP FD : Fn) : Ss := (sSeq (ownS FP FD)
  (sSeq (sSet 11 (sV 7))
  (sSeq (sIfS (sB (sOp inD (sV 3) (sTup (lCons (sC (.int 1)) (lCons (sC (.int 2)) lNil)))))
  (sSet 11 topS)
  sSkip)
  (sApnd 6 (sV 11)))))
theorem draw_is (hD : DrawOk FD) {env : List En} {b : Int} {k : Dk} {n : Nat} (h0 : env[0]? = some (.d .dk)) (hb : bOk b = true) (hk : Bud k (n + 1)) : ∃ (z : Bool) (k' : Dk), sOp eqD (draws FD b) (sC (.int 0)) env (some k) = .ok (.bl z) (some k') ∧ Bud k' n := by
  obtain ⟨r, k', e, _, hb'⟩ := draw_of hD h0 hb hk
  exact ⟨_, k', op_run e rfl eq_int, hb'⟩
theorem own_run (hP : PickOk FP) (hD : DrawOk FD) {many w way j : Nat} {ts : List Nat} {rows : List D} {own : Str} {up : Bool} {e11 : En} {k : Dk} {n : Nat} (hr : Row w own) (hw : w ≤ 12) (hb : Bud k (n + 16)) :
    ∃ own' up' k', ownS FP FD (envC many w way ts rows own up (.d (.int (j : Nat))) e11) (some k) = .nx (envC many w way ts rows own' up' (.d (.int (j : Nat))) e11) (some k') ∧ Row w own' ∧ Bud k' n := by
  have two : ∀ k, Bud k (n + 15) → ∃ own' up' k', sIfS (sOrB (sB (sOp neD (sV 3) (sC (.int 4)))) (sB (sOp eqD (draws FD 4) (sC (.int 0)))))
      (sPar [7, 8] (mD (pickS FP) (mD (sOp eqD (draws FD 2) (sC (.int 0))) mNil))) sSkip (envC many w way ts rows own up (.d (.int (j : Nat))) e11) (some k) = .nx (envC many w way ts rows own' up' (.d (.int (j : Nat))) e11) (some k') ∧ Row w own' ∧ Bud k' n := by
    intro k hb
    have yes : ∀ k, Bud k (n + 14) → ∃ own' up' k', sPar [7, 8] (mD (pickS FP) (mD (sOp eqD (draws FD 2) (sC (.int 0))) mNil)) (envC many w way ts rows own up (.d (.int (j : Nat))) e11) (some k) = .nx (envC many w way ts rows own' up' (.d (.int (j : Nat))) e11) (some k') ∧ Row w own' ∧ Bud k' n := by
      intro k hb
      obtain ⟨z, k1, e1, hz, hb1⟩ := pick_row (n := n + 1) (k := k) hP (e1 := .d (.int (many : Nat))) (e3 := .d (.int (way : Nat))) (e4 := .d (.lst (ts.map fun n => D.int (n : Nat)))) (e5 := .no) (e6 := .own rows) (e7 := .d (.str own)) (e8 := .d (.bl up)) (e9 := .d (.int (j : Nat))) (e10 := .no) (e11 := e11) hw (hb.mono (by omega))
      obtain ⟨u, k2, e2, hb2⟩ := draw_is hD (env := envC many w way ts rows own up (.d (.int (j : Nat))) e11) (b := 2) rfl (by decide) hb1
      exact ⟨z, u, k2, par2_run (mD_run e1 (mD_run e2 rfl)), hz, hb2⟩
    have a1 : sB (sOp neD (sV 3) (sC (.int 4))) (envC many w way ts rows own up (.d (.int (j : Nat))) e11) (some k) = .ok _ (some k) := b_run (op_run (v_run rfl) rfl ne_int)
    cases hc : !(((way : Nat) : Int) == 4) with
    | true =>
      rw [hc] at a1
      rw [ifs_t (orB_t a1)]
      exact yes k (hb.mono (by omega))
    | false =>
      rw [hc] at a1
      obtain ⟨u, k2, e2, hb2⟩ := draw_is (n := n + 14) hD (env := envC many w way ts rows own up (.d (.int (j : Nat))) e11) (b := 4) rfl (by decide) hb
      cases u with
      | true => rw [ifs_t ((orB_f a1).trans (b_run e2))]; exact yes k2 hb2
      | false => rw [ifs_f ((orB_f a1).trans (b_run e2))]; exact ⟨own, up, k2, rfl, hr, hb2.mono (by omega)⟩
  have a1 : sB (sOp gtD (sV 9) (sC (.int 0))) (envC many w way ts rows own up (.d (.int (j : Nat))) e11) (some k) = .ok _ (some k) := b_run (op_run (v_run rfl) rfl gt_int)
  cases hc : decide ((0 : Int) < ((j : Nat) : Int)) with
  | false =>
    rw [hc] at a1
    unfold ownS
    rw [ifs_f (andB_f a1)]
    exact two k (hb.mono (by omega))
  | true =>
    rw [hc] at a1
    obtain ⟨u, k2, e2, hb2⟩ := draw_is (n := n + 15) hD (env := envC many w way ts rows own up (.d (.int (j : Nat))) e11) (b := 2) rfl (by decide) hb
    unfold ownS
    cases u with
    | false => rw [ifs_f ((andB_t a1).trans (b_run e2))]; exact two k2 hb2
    | true =>
      rw [ifs_t ((andB_t a1).trans (b_run e2))]
      obtain ⟨z, e3, hz⟩ := flip_run (k := some k2) (e0 := .d .dk) (e1 := .d (.int (many : Nat))) (e2 := .d (.int (w : Nat))) (e3 := .d (.int (way : Nat))) (e4 := .d (.lst (ts.map fun n => D.int (n : Nat)))) (e5 := .no) (e6 := .own rows) (e8 := .d (.bl up)) (e9 := .d (.int (j : Nat))) (e10 := .no) (e11 := e11) hr hw
      exact ⟨z, up, k2, set_run e3, hz, hb2.mono (by omega)⟩
theorem step_run (hP : PickOk FP) (hD : DrawOk FD) {many w way j : Nat} {ts : List Nat} {rows : List D} {own : Str} {up : Bool} {e11 : En} {k : Dk} {n : Nat} (hr : Row w own) (hw : w ≤ 12) (ht : ts.length = w) (h2 : ∀ t ∈ ts, t < 2) (hl : rows.length ≤ 1000) (hb : Bud k (n + 16)) :
    ∃ own' up' row k', stepS FP FD (envC many w way ts rows own up (.d (.int (j : Nat))) e11) (some k) = .nx (envC many w way ts (rows ++ [.str row]) own' up' (.d (.int (j : Nat))) (.d (.str row))) (some k') ∧ Row w own' ∧ Row w row ∧ Bud k' n := by
  obtain ⟨own', up', k', e1, hr', hb'⟩ := own_run (rows := rows) (ts := ts) (many := many) (way := way) (j := j) (up := up) (e11 := e11) hP hD hr hw hb
  obtain ⟨b, e4⟩ := @in_12 ((way : Nat) : Int)
  have e3 : ∃ z, sIfS (sB (sOp inD (sV 3) (sTup (lCons (sC (.int 1)) (lCons (sC (.int 2)) lNil))))) (sSet 11 topS) sSkip (envC many w way ts rows own' up' (.d (.int (j : Nat))) (.d (.str own'))) (some k') = .nx (envC many w way ts rows own' up' (.d (.int (j : Nat))) (.d (.str z))) (some k') ∧ Row w z := by
    have a := b_run (op_run (f := sV 3) (env := envC many w way ts rows own' up' (.d (.int (j : Nat))) (.d (.str own'))) (k := some k') (v_run rfl) (tup_run (l2_run (f := sC (.int 1)) (h := sC (.int 2)) rfl rfl) (by decide)) e4)
    cases b with
    | true =>
      obtain ⟨z, e5, hz⟩ := top_run (k := some k') (ts := ts) (up := up') (e0 := .d .dk) (e1 := .d (.int (many : Nat))) (e3 := .d (.int (way : Nat))) (e5 := .no) (e6 := .own rows) (e9 := .d (.int (j : Nat))) (e10 := .no) (e11 := .d (.str own')) hr' hw ht h2
      exact ⟨z, (ifs_t a).trans (set_run e5), hz⟩
    | false => exact ⟨own', ifs_f a, hr'⟩
  obtain ⟨z, e5, hz⟩ := e3
  refine ⟨own', up', z, k', ?_, hr', hz, hb'⟩
  unfold stepS
  rw [seq_nx e1, seq_nx (set_run (v_run rfl))]
  refine (seq_nx e5).trans ?_
  exact apnd_run rfl (v_run rfl) hl
theorem row_nat {l : List D} {d : D} (h : d ∈ l) {m : Nat} (hl : ∀ d ∈ l, ∃ i : Nat, d = .int (i : Nat) ∧ 0 < i ∧ i ≤ m) : ∃ i : Nat, d = .int (i : Nat) ∧ 0 < i ∧ i ≤ m := hl d h
theorem nats_of {ys : List D} {m : Nat} (h : ∀ y ∈ ys, ∃ i : Nat, y = .int (i : Nat) ∧ i < m) : ∃ ts : List Nat, ys = ts.map (fun n => D.int (n : Nat)) ∧ ts.length = ys.length ∧ ∀ t ∈ ts, t < m := by
  induction ys with
  | nil => exact ⟨[], rfl, rfl, fun _ z => nomatch z⟩
  | cons y ys ih =>
    obtain ⟨ts, h1, h2, h3⟩ := ih fun z hz => h z (List.mem_cons_of_mem _ hz)
    obtain ⟨i, rfl, hi⟩ := h y List.mem_cons_self
    refine ⟨i :: ts, by rw [h1]; rfl, by rw [List.length_cons, List.length_cons, h2], fun t ht => ?_⟩
    rcases List.mem_cons.mp ht with rfl | ht
    · exact hi
    · exact h3 t ht
abbrev sizesS : Sm D := sLst (lCons (sC (.int 1)) (lCons (sC (.int 2)) (lCons (sC (.int 3)) (lCons (sC (.int 4)) (lCons (sC (.int 4)) (lCons (sC (.int 5)) (lCons (sC (.int 6)) (lCons (sC (.int 8)) (lCons (sC (.int 12)) lNil)))))))))
theorem sizes_of {d : D} (h : d ∈ [D.int 1, .int 2, .int 3, .int 4, .int 4, .int 5, .int 6, .int 8, .int 12]) : ∃ i : Nat, d = .int (i : Nat) ∧ 0 < i ∧ i ≤ 12 := by
  simp only [List.mem_cons, List.mem_nil_iff, or_false] at h
  rcases h with rfl | rfl | rfl | rfl | rfl | rfl | rfl | rfl | rfl
  · exact ⟨1, rfl, by decide, by decide⟩
  · exact ⟨2, rfl, by decide, by decide⟩
  · exact ⟨3, rfl, by decide, by decide⟩
  · exact ⟨4, rfl, by decide, by decide⟩
  · exact ⟨4, rfl, by decide, by decide⟩
  · exact ⟨5, rfl, by decide, by decide⟩
  · exact ⟨6, rfl, by decide, by decide⟩
  · exact ⟨8, rfl, by decide, by decide⟩
  · exact ⟨12, rfl, by decide, by decide⟩
theorem pick_size (hP : PickOk FP) {env : List En} {k : Dk} {n : Nat} (h0 : env[0]? = some (.d .dk)) (hk : Bud k (n + 1)) : ∃ (i : Nat) (k' : Dk), sCall 2 FP (lCons (sV 0) (lCons sizesS lNil)) env (some k) = .ok (.int (i : Nat)) (some k') ∧ 0 < i ∧ i ≤ 12 ∧ Bud k' n := by
  obtain ⟨d, k', e, hm, hb⟩ := pick_of hP (h := sizesS) (xs := [D.int 1, .int 2, .int 3, .int 4, .int 4, .int 5, .int 6, .int 8, .int 12]) h0 (lst_run rfl (by decide)) (by decide) (by decide) hk
  obtain ⟨i, rfl, h1, h2⟩ := sizes_of hm
  exact ⟨i, k', e, h1, h2, hb⟩
/-- a cloth: rows of one length -/
def Cl (rows : List Str) : Prop := rows ≠ [] ∧ rows.length ≤ 12 ∧ ∃ w, 0 < w ∧ w ≤ 12 ∧ ∀ z ∈ rows, Row w z
theorem top_draws (hD : DrawOk FD) {env : List En} {w : Nat} {k : Dk} {n : Nat} (h0 : (wipeE env [5])[0]? = some (.d .dk)) (hs : ∀ b, ((wipeE env [5]).set 5 b)[0]? = some (.d .dk)) (h2 : env[2]? = some (.d (.int (w : Nat)))) (hw : w ≤ 12) (hb : Bud k (n + 1 * w)) (hl : 5 < (wipeE env [5]).length) :
    ∃ (ts : List Nat) (k' : Dk), sFrz (sComp (.name 5) [5] sYes (draws FD 2) (iRange1 (sV 2))) env (some k) = .ok (.lst (ts.map fun n => D.int (n : Nat))) (some k') ∧ ts.length = w ∧ (∀ t ∈ ts, t < 2) ∧ Bud k' n := by
  obtain ⟨ys, k', e, hl, hy, hb'⟩ := compM_run (t := .name 5) (f := draws FD 2) (env0 := wipeE env [5])
    (mk := fun (i : Nat) => .int (i : Nat)) (P := fun _ y => ∃ i : Nat, y = .int (i : Nat) ∧ i < 2) (c := 1) (List.range w) [] k n (by rw [List.length_range]; have := sizeLine_eq; show 0 + w ≤ _; omega) (by rw [List.length_range]; exact hb)
    (fun b _ => ⟨_, rfl, fun k n hb => by
      obtain ⟨r, k', e, hr, hb'⟩ := draw_of hD (env := (wipeE env [5]).set 5 (.d (.int (b : Nat)))) (b := 2) (hs _) (by decide) hb
      exact ⟨_, k', e, ⟨r, rfl, by omega⟩, hb'⟩⟩)
  obtain ⟨ts, h1, h2', h3⟩ := nats_of (m := 2) fun y hy' => (hy y hy').elim fun _ z => z.2
  rw [List.length_range] at hl
  refine ⟨ts, k', ?_, h2'.trans hl, h3, hb'⟩
  rw [h1, List.nil_append] at e
  exact comp_run (range1_run (v_run h2) (by omega)) e
theorem clothS_run (hP : PickOk FP) (hD : DrawOk FD) {k : Dk} {n : Nat} (hb : Bud k (n + 300)) : ∃ (rows : List Str) (k' : Dk), g__law_cloth FP FD [.d .dk, .no, .no, .no, .no, .no, .no, .no, .no, .no, .no, .no] (some k) = .rt (.tup (strsD rows)) (some k') ∧ Cl rows ∧ Bud k' n := by
  obtain ⟨many, k1, a1, m0, m1, hb1⟩ := pick_size (n := n + 299) hP (env := [.d .dk, .no, .no, .no, .no, .no, .no, .no, .no, .no, .no, .no]) rfl hb
  obtain ⟨w, k2, a2, w0, w1, hb2⟩ := pick_size (n := n + 298) hP (env := [.d .dk, .no, .no, .no, .no, .no, .no, .no, .no, .no, .no, .no]) rfl hb1
  obtain ⟨way, k3, a3, _, hb3⟩ := draw_of (n := n + 297) hD (env := [.d .dk, .d (.int (many : Nat)), .d (.int (w : Nat)), .no, .no, .no, .no, .no, .no, .no, .no, .no]) (b := 5) rfl (by decide) hb2
  obtain ⟨ts, k4, a4, ht, ht2, hb4⟩ := top_draws (n := n + 285) hD (env := [.d .dk, .d (.int (many : Nat)), .d (.int (w : Nat)), .no, .no, .no, .no, .no, .no, .no, .no, .no]) rfl (fun _ => rfl) rfl w1 (hb3.mono (by omega)) (by show 5 < 12; omega)
  obtain ⟨own, k5, a5, hr, hb5⟩ := pick_row (n := n + 270) (k := k4) hP (e1 := .d (.int (many : Nat))) (e3 := .d (.int (way : Nat))) (e4 := .d (.lst (ts.map fun n => D.int (n : Nat)))) (e5 := .no) (e6 := .no) (e7 := .no) (e8 := .no) (e9 := .no) (e10 := .no) (e11 := .no) w1 (hb4.mono (by omega))
  obtain ⟨env', k6, a6, ⟨rows, own', up', j, e11, rfl, hrl, hrr, hro⟩, hb6⟩ := forM_run (t := .name 9) (s := stepS FP FD) (mk := fun (i : Nat) => .int (i : Nat)) (c := 16) (I := fun i env => ∃ rows own up e9 e11, env = envC many w way ts (strsD rows) own up e9 e11 ∧ rows.length = i ∧ (∀ z ∈ rows, Row w z) ∧ Row w own) (List.range many) 0 (envC many w way ts [] own true .no .no) k5 n
    ⟨[], own, true, .no, .no, rfl, rfl, fun _ z => (nomatch z), hr⟩ (hb5.mono (by rw [List.length_range]; omega)) fun j b env k n hj hbm hI hb => by
      obtain ⟨rows, own, up, e9, e11, rfl, hl, hrr, hro⟩ := hI
      rw [List.length_range] at hj
      obtain ⟨own', up', row, k', e, h1, h2, hb'⟩ := step_run (many := many) (way := way) (j := b) (rows := strsD rows) (up := up) (e11 := e11) hP hD hro w1 ht ht2 (by unfold strsD; rw [List.length_map]; omega) hb
      refine ⟨_, _, k', rfl, e, ⟨rows ++ [row], own', up', .d (.int (b : Nat)), .d (.str row), ?_, by rw [List.length_append, hl]; rfl, fun z hz => ?_, h1⟩, hb'⟩
      · unfold strsD; rw [List.map_append]; rfl
      · rcases List.mem_append.mp hz with hz | hz
        · exact hrr z hz
        · rw [List.mem_singleton.mp hz]; exact h2
  rw [List.length_range] at hrl
  refine ⟨rows, k6, ?_, ⟨fun z => ?_, by omega, w, w0, w1, hrr⟩, hb6⟩
  · unfold g__law_cloth
    rw [seq_nx (par2_run (mD_run a1 (mD_run a2 rfl)))]
    refine (seq_nx (par2_run (mD_run a3 (mD_run a4 rfl)))).trans ?_
    refine (seq_nx (sPar_run3 (mN_run (new_run rfl (by decide)) (mD_run a5 (mD_run rfl rfl))))).trans ?_
    refine (seq_nx ((for_run (range1_run (v_run rfl) (by omega))).trans a6)).trans ?_
    exact (frzS_run rfl).trans (ret_run (app_run (l1_run (v_run rfl)) (pure_run rfl)))
  · subst z
    have : ([] : List Str).length = 0 := rfl
    omega
theorem cloth_run (hP : PickOk FP) (hD : DrawOk FD) {k : Dk} {n : Nat} (hb : Bud k (n + 300)) : ∃ (rows : List Str) (k' : Dk), fnD 12 (g__law_cloth FP FD) [.dk] (some k) = .ok (.tup (strsD rows)) (some k') ∧ Cl rows ∧ Bud k' n := by
  obtain ⟨rows, k', e, h⟩ := clothS_run hP hD hb
  refine ⟨rows, k', ?_, h⟩
  show endD (g__law_cloth FP FD [.d .dk, .no, .no, .no, .no, .no, .no, .no, .no, .no, .no, .no] (some k)) = _
  rw [e]; rfl
end
end C03
set_option Elab.async false
set_option linter.all false
set_option maxRecDepth 100000
set_option maxHeartbeats 4000000
namespace C03
open PySem PySem.Spec L2 DL
/-! ### what else may stand in a place -/
theorem pow_39 : powD (.int 10) (.int 39) = some (.int (10 ^ 39)) := by
  unfold powD intOp; rfl
def oddA : List D := [.non, .bl true, .bl false, .int 0, .int 1, .int (-1), .int 2, .int 99, .int 100, .int (10 ^ 39), .str "", .str "x", .str "-", .str "ab", .str "x-", .str "A", .tup [], .tup [.int 0], .tup [.int 1, .int 0], .tup [.int 0, .int 0]]
def oddB : List D := [.lst [], .dct [], .tup [.tup []], .tup [.bl true], .tup [.str "a"], .tup [.int 0, .int 1], .tup [.tup [.int 0], .tup [.int 1]]]
def okC (d : D) : Bool := gdD d && decide (wt d ≤ 4200) && decide (ht d ≤ 2) && decide (mg d ≤ 10 ^ 39)
theorem oddA_ok : oddA.all okC = true := by decide +kernel
theorem oddB_ok : oddB.all okC = true := by decide +kernel
theorem okC_gd {d : D} {n h m : Nat} (h0 : okC d = true) (hn : 4200 ≤ n) (hh : 2 ≤ h) (hm : 10 ^ 39 ≤ m) : Gd n h m d := by
  unfold okC at h0
  simp only [Bool.and_eq_true, decide_eq_true_eq] at h0
  exact ⟨h0.1.1.1, Nat.le_trans h0.1.1.2 hn, Nat.le_trans h0.1.2 hh, Nat.le_trans h0.2 hm⟩
theorem upper_asc : ∀ (l : List Nat), (∀ c ∈ l, c < 128) → (Txt.upper ⟨l.toArray⟩).length = l.length ∧ ∀ c ∈ cp (Txt.upper ⟨l.toArray⟩), c < 128
  | [], _ => by decide +kernel
  | c :: l, h => by
    obtain ⟨h1, h2⟩ := upper_asc l fun d hd => h d (List.mem_cons_of_mem _ hd)
    have e : (⟨(c :: l).toArray⟩ : Str) = ⟨#[c]⟩ ++ ⟨l.toArray⟩ := by
      show _ = (⟨#[c] ++ l.toArray⟩ : Str)
      simp
    have hc := h c List.mem_cons_self
    rw [e, PySem.W.KOpn.upper_app, PySem.W.KOpn.upper_one hc]
    generalize Txt.upper ⟨l.toArray⟩ = z at h1 h2
    obtain ⟨z⟩ := z
    have e2 : (⟨#[if 97 ≤ c ∧ c ≤ 122 then c - 32 else c]⟩ : Str) ++ (⟨z⟩ : Str) = ⟨#[if 97 ≤ c ∧ c ≤ 122 then c - 32 else c] ++ z⟩ := rfl
    rw [e2]
    constructor
    · show (#[if 97 ≤ c ∧ c ≤ 122 then c - 32 else c] ++ z).size = _
      have : z.size = l.length := h1
      rw [Array.size_append, this, List.length_cons]
      show 1 + _ = _
      omega
    · intro d hd
      have hd' : d ∈ (if 97 ≤ c ∧ c ≤ 122 then c - 32 else c) :: z.toList := by simpa using hd
      rcases List.mem_cons.mp hd' with rfl | hd'
      · split <;> omega
      · exact h2 d hd'
theorem upper_of {x : Str} (h : ∀ c ∈ cp x, c < 128) : (Txt.upper x).length = x.length ∧ ∀ c ∈ cp (Txt.upper x), c < 128 := by
  have e : (⟨x.cps.toList.toArray⟩ : Str) = x := by simp
  have := upper_asc x.cps.toList h
  rw [e] at this
  exact ⟨by rw [this.1, len_list], this.2⟩
theorem asc_all {x : Str} (h : ∀ c ∈ cp x, c < 128) : x.cps.toList.all (fun c => decide (c < 128)) = true := List.all_eq_true.mpr fun c hc => decide_eq_true (h c hc)
theorem strInt_asc {i : Int} : ∀ c ∈ cp ((toString i : String) : Str), c < 128 := fun c hc => by
  by_cases z : c < 128
  · exact z
  · exact absurd hc (PyProof.Rows.int_text_free' c ⟨by omega, by omega⟩ i)
theorem strInt_len {i : Int} (h : i.natAbs ≤ 10 ^ 60) : ((toString i : String) : Str).length ≤ 62 := by
  have := int_text_length_le10 (a := i) (k := 61) (by decide) (Nat.lt_of_le_of_lt h (by decide +kernel))
  rw [← ofString_length] at this
  exact this
abbrev envO (it : D) (ds : List D) : List En := [.d .dk, .d it, .d (.lst ds)]
theorem plus_lst {xs ys : List D} (h : xs.length + ys.length ≤ 1000000) : plusD (.lst xs) (.lst ys) = some (.lst (xs ++ ys)) := by
  unfold plusD orD catD
  simp only
  have := sizeLine_eq
  rw [if_pos (show xs.length + ys.length ≤ sizeLine by omega)]
theorem plus_tup {xs ys : List D} (h : xs.length + ys.length ≤ 1000000) : plusD (.tup xs) (.tup ys) = some (.tup (xs ++ ys)) := by
  unfold plusD orD catD
  simp only
  have := sizeLine_eq
  rw [if_pos (show xs.length + ys.length ≤ sizeLine by omega)]
theorem plus_str {x y : Str} (h : x.length + y.length ≤ 1000000) : plusD (.str x) (.str y) = some (.str (x ++ y)) := by
  unfold plusD orD catD
  simp only
  have := sizeLine_eq
  rw [if_pos (show x.length + y.length ≤ sizeLine by omega)]
theorem small63 {n : Nat} (h : n ≤ 1000) : (decide (-(2 ^ 63) ≤ (n : Int)) && decide ((n : Int) < 2 ^ 63)) = true := by
  simp only [Bool.and_eq_true, decide_eq_true_eq]
  omega
theorem rep_lst {xs : List D} {n : Nat} (hn : n ≤ 1000) (h : xs.length * n ≤ 1000) : repD (.lst xs) (.int (n : Nat)) = some (.lst (List.replicate n xs).flatten) := by
  have e : repD (.lst xs) (.int (n : Nat)) = if (decide (-(2 ^ 63) ≤ (n : Int)) && decide ((n : Int) < 2 ^ 63) && decide (xs.length * (n : Int).toNat ≤ sizeLine)) = true then some (.lst (List.replicate (n : Int).toNat xs).flatten) else none := rfl
  rw [e, Int.toNat_natCast]
  refine if_pos ?_
  rw [Bool.and_eq_true]
  exact ⟨small63 hn, decide_eq_true (Nat.le_of_lt (small1000 h))⟩
theorem orD_none {o o' : D → D → Option D} {a b : D} (h : o a b = none) : orD o o' a b = o' a b := by unfold orD; rw [h]
theorem orD_some {o o' : D → D → Option D} {a b r : D} (h : o a b = some r) : orD o o' a b = some r := by unfold orD; rw [h]
theorem times_lst {xs : List D} {n : Nat} (hn : n ≤ 1000) (h : xs.length * n ≤ 1000) : timesD (.lst xs) (.int (n : Nat)) = some (.lst (List.replicate n xs).flatten) :=
  orD_some ((orD_none rfl).trans (rep_lst hn h))
theorem flat_rep_mem {α : Type} {xs : List α} {n : Nat} {x : α} (h : x ∈ (List.replicate n xs).flatten) : x ∈ xs := by
  obtain ⟨l, hl, hx⟩ := List.mem_flatten.mp h
  rw [(List.mem_replicate.mp hl).2] at hx
  exact hx
theorem flat_rep_len {α : Type} {xs : List α} : ∀ n : Nat, (List.replicate n xs).flatten.length = xs.length * n
  | 0 => rfl
  | n + 1 => by rw [List.replicate_succ, List.flatten_cons, List.length_append, flat_rep_len n, Nat.mul_succ]; omega
theorem ifO {T : String} {L : Sm (List D)} {c : Nat} {it : D} {ds : List D} {k : DkO} {G : D → Prop} (hp : plain it = true) (hc : c ≤ 3) (hd : ds.length ≤ 200) (hd0 : 0 < ds.length) (hG : ∀ d ∈ ds, G d)
    (h : isTy T it = true → ∃ es, (∀ ds k, L (envO it ds) k = .ok es k) ∧ es.length ≤ 10 ∧ ∀ e ∈ es, G e) :
    ∃ ds', sIfS (sTru (sIsi T (sV 1))) (sSet 2 (sOp plusD (sV 2) (sOp timesD (sLst L) (sC (.int (c : Nat)))))) sSkip (envO it ds) k = .nx (envO it ds') k ∧ ds'.length ≤ ds.length + 30 ∧ 0 < ds'.length ∧ ∀ d ∈ ds', G d := by
  have a := tru_run (isi_run (T := T) (f := sV 1) (env := envO it ds) (k := k) (v_run rfl) hp) rfl
  cases ht : isTy T it with
  | false =>
    rw [ht] at a
    exact ⟨ds, ifs_f a, by omega, hd0, hG⟩
  | true =>
    rw [ht] at a
    obtain ⟨es, e1, e2, e3⟩ := h ht
    have hl := flat_rep_len (xs := es) c
    have hc3 : es.length * c ≤ 10 * 3 := Nat.mul_le_mul e2 hc
    refine ⟨ds ++ (List.replicate c es).flatten, (ifs_t a).trans (set_run (op_run (v_run rfl) (op_run (lst_run (e1 ds k) (by omega)) rfl (times_lst (by omega) (by omega))) (plus_lst (by omega)))), ?_, ?_, fun d hd' => ?_⟩
    · rw [List.length_append]; omega
    · rw [List.length_append]; omega
    · rcases List.mem_append.mp hd' with z | z
      · exact hG d z
      · exact e3 d (flat_rep_mem z)
theorem Gd.appS {n h m n' : Nat} {x y : Str} (a : Gd n h m (.str x)) (hy : ∀ c ∈ cp y, c < 128) (hn : n + 10 * y.length ≤ n') : Gd n' h m (.str (x ++ y)) := by
  obtain ⟨h1, h2⟩ := a.asc
  obtain ⟨x⟩ := x
  obtain ⟨y⟩ := y
  refine Gd.str (asc_all fun c hc => ?_) ?_
  · have : c ∈ (x ++ y).toList := hc
    rw [Array.toList_append] at this
    rcases List.mem_append.mp this with z | z
    · exact h1 c z
    · exact hy c z
  · have e : ((⟨x⟩ : Str) ++ (⟨y⟩ : Str)).length = x.size + y.size := Array.size_append
    have e1 : (⟨x⟩ : Str).length = x.size := rfl
    have e2 : (⟨y⟩ : Str).length = y.size := rfl
    omega
theorem mem_cutS {x : Str} {lo hi : Option Int} {c : Nat} (h : c ∈ cp (L2.cutS x lo hi)) : c ∈ cp x := by
  have h' : c ∈ (x.cps.toList.drop (HT.sIx x.length 0 lo)).take (HT.sIx x.length x.length hi - HT.sIx x.length 0 lo) := h
  exact List.mem_of_mem_drop (List.mem_of_mem_take h')
theorem len_cutS {x : Str} {lo hi : Option Int} : (L2.cutS x lo hi).length ≤ x.length := by
  have e : (L2.cutS x lo hi).length = ((x.cps.toList.drop (HT.sIx x.length 0 lo)).take (HT.sIx x.length x.length hi - HT.sIx x.length 0 lo)).length := by
    rw [len_list]; rfl
  rw [e, List.length_take, List.length_drop, ← len_list]
  omega
theorem gd_cutS {n h m : Nat} {x : Str} (a : Gd n h m (.str x)) (lo hi : Option Int) : Gd n h m (.str (L2.cutS x lo hi)) := by
  obtain ⟨h1, h2⟩ := a.asc
  have := @len_cutS x lo hi
  exact Gd.str (asc_all fun c hc => h1 c (mem_cutS hc)) (by omega)
theorem gd_revS {n h m : Nat} {x : Str} (a : Gd n h m (.str x)) : Gd n h m (.str (revS x)) := by
  obtain ⟨h1, h2⟩ := a.asc
  have e : (revS x).length = x.length := by
    have : (revS x).length = x.cps.toList.reverse.length := by rw [len_list]; rfl
    rw [this, List.length_reverse, ← len_list]
  refine Gd.str (asc_all fun c hc => h1 c ?_) (by omega)
  have hc' : c ∈ x.cps.toList.reverse := hc
  simpa using hc'
theorem gd_upper {n h m : Nat} {x : Str} (a : Gd n h m (.str x)) : Gd n h m (.str (Txt.upper x)) := by
  obtain ⟨h1, h2⟩ := a.asc
  obtain ⟨u1, u2⟩ := upper_of h1
  exact Gd.str (asc_all u2) (by omega)
theorem upper_is {n h m : Nat} {x : Str} (a : Gd n h m (.str x)) (hn : n ≤ 1000000) : upperD x [] = some (.str (Txt.upper x)) := by
  obtain ⟨h1, h2⟩ := a.asc
  obtain ⟨u1, u2⟩ := upper_of h1
  have hs := (asc_sok (x := Txt.upper x) (asc_all u2) (by have := sizeLine_eq; omega)).2
  have e : upperD x [] = if (decide (x.length ≤ 5592405) && PyData.strOk (Txt.upper x)) = true then some (.str (Txt.upper x)) else none := rfl
  rw [e]
  refine if_pos ?_
  rw [Bool.and_eq_true]
  exact ⟨decide_eq_true (by omega), hs⟩
theorem gd_signs {n h m : Nat} {x : Str} (a : Gd n h m (.str x)) (hh : 1 ≤ h) : Gd (3 * n) h m (.lst (signsD x)) := by
  obtain ⟨h1, h2⟩ := a.asc
  have key : ∀ l : List Nat, (∀ c ∈ l, c < 128) → GdL (22 * l.length) 0 m (l.map fun c => D.str ⟨#[c]⟩) := by
    intro l
    induction l with
    | nil => intro _; exact GdL.nil
    | cons c l ih =>
      intro hl
      have hc : Gd 20 0 m (.str ⟨#[c]⟩) := Gd.str (asc_all fun d hd => by
        have : d ∈ [c] := hd
        rw [List.mem_singleton.mp this]
        exact hl c List.mem_cons_self) (by show 10 * 1 + 10 ≤ 20; omega)
      exact (GdL.cons hc (ih fun d hd => hl d (List.mem_cons_of_mem _ hd))).mono (by rw [List.length_cons]; omega) (Nat.le_refl _) (Nat.le_refl _)
  exact (key _ h1).lst.mono (by rw [← len_list]; omega) (by omega) (Nat.le_refl _)
theorem odd_tup {n h m : Nat} {ds : List D} (a : Gd n h m (.tup ds)) (hn : 1400 ≤ n) (hn2 : n ≤ 20000) :
    ∃ es, (∀ xs k, (lCons (sFrz (iVal (sV 1))) (lCons (sSl (sV 1) (oSome (sC (.int 1))) oNone) (lCons (sSl (sV 1) oNone (oSome (sNeg (sC (.int 1))))) (lCons (sOp plusD (sV 1) (sSl (sV 1) (oSome (sNeg (sC (.int 1)))) oNone)) (lCons (sRev (sV 1)) (lCons (sTup (lCons (sV 1) lNil)) lNil)))))) (envO (.tup ds) xs) k = .ok es k) ∧ es.length ≤ 10 ∧ ∀ e ∈ es, Gd (3 * n) (h + 2) (m + 1) e := by
  have b := a.ofTup
  have hl := b.len
  have hh : 1 ≤ h := by have := a.h; simp only [ht] at this; omega
  have cl : ∀ lo hi, (cutL ds lo hi).length ≤ ds.length := fun lo hi => by unfold cutL; rw [List.length_take, List.length_drop]; omega
  refine ⟨[.lst ds, .tup (cutL ds (some 1) none), .tup (cutL ds none (some (-1))), .tup (ds ++ cutL ds (some (-1)) none), .tup ds.reverse, .tup [.tup ds]], fun xs k => ?_, by show 6 ≤ 10; omega, fun e he => ?_⟩
  · refine lc_run (frz_run (iVal_run (v_run rfl) rfl)) (lc_run (sl_run (v_run rfl) (oSome_run rfl) oNone_run rfl) (lc_run (sl_run (v_run rfl) oNone_run (oSome_run rfl) rfl) (lc_run (op_run (v_run rfl) (sl_run (v_run rfl) (oSome_run rfl) oNone_run rfl) (plus_tup ?_)) (l2_run (rev_run (v_run rfl) rfl) (tup_run (l1_run (v_run rfl)) (by show 1 ≤ 1000; omega))))))
    have := cl (some (-1)) none
    omega
  · simp only [List.mem_cons, List.mem_nil_iff, or_false] at he
    rcases he with rfl | rfl | rfl | rfl | rfl | rfl
    · exact b.lst.mono (by omega) (by omega) (by omega)
    · exact (b.cut _ _).tup.mono (by omega) (by omega) (by omega)
    · exact (b.cut _ _).tup.mono (by omega) (by omega) (by omega)
    · exact (b.app (b.cut _ _)).tup.mono (by omega) (by omega) (by omega)
    · exact b.rev.tup.mono (by omega) (by omega) (by omega)
    · exact (GdL.cons a GdL.nil (n' := 0)).tup.mono (by omega) (by omega) (by omega)
theorem odd_str {n h m : Nat} {x : Str} (a : Gd n h m (.str x)) (hn : 1400 ≤ n) (hn2 : n ≤ 20000) :
    ∃ es, (∀ xs k, (lCons (sOp plusD (sV 1) (sC (.str "x"))) (lCons (sSl (sV 1) (oSome (sC (.int 1))) oNone) (lCons (sRev (sV 1)) (lCons (sM0 upperD (sV 1)) (lCons (sFrz (iVal (sV 1))) (lCons (sOp plusD (sV 1) (sC (.str " "))) lNil)))))) (envO (.str x) xs) k = .ok es k) ∧ es.length ≤ 10 ∧ ∀ e ∈ es, Gd (3 * n) (h + 2) (m + 1) e := by
  obtain ⟨h1, h2⟩ := a.asc
  have l1 : ("x" : Str).length = 1 := rfl
  have l2 : (" " : Str).length = 1 := rfl
  refine ⟨[.str (x ++ "x"), .str (L2.cutS x (some 1) none), .str (revS x), .str (Txt.upper x), .lst (signsD x), .str (x ++ " ")], fun xs k => ?_, by show 6 ≤ 10; omega, fun e he => ?_⟩
  · exact lc_run (op_run (v_run rfl) rfl (plus_str (by omega))) (lc_run (sl_run (v_run rfl) (oSome_run rfl) oNone_run rfl) (lc_run (rev_run (v_run rfl) rfl) (lc_run (m0_run (v_run rfl) (upper_is a (by omega))) (l2_run (frz_run (iVal_run (v_run rfl) rfl)) (op_run (v_run rfl) rfl (plus_str (by omega)))))))
  · simp only [List.mem_cons, List.mem_nil_iff, or_false] at he
    rcases he with rfl | rfl | rfl | rfl | rfl | rfl
    · exact (Gd.appS a (y := "x") (n' := 3 * n) (by decide +kernel) (by omega)).mono (by omega) (by omega) (by omega)
    · exact (gd_cutS a _ _).mono (by omega) (by omega) (by omega)
    · exact (gd_revS a).mono (by omega) (by omega) (by omega)
    · exact (gd_upper a).mono (by omega) (by omega) (by omega)
    · exact (gd_signs (a.mono (n' := n) (h' := h + 1) (m' := m) (by omega) (by omega) (by omega)) (by omega)).mono (by omega) (by omega) (by omega)
    · exact (Gd.appS a (y := " ") (n' := 3 * n) (by decide +kernel) (by omega)).mono (by omega) (by omega) (by omega)
abbrev intS : Sm (List D) := (lCons (sOp plusD (sV 1) (sC (.int 1))) (lCons (sOp minusD (sV 1) (sC (.int 1))) (lCons (sOp eqD (sV 1) (sC (.int 1))) (lCons (sApp textD (lCons (sV 1) lNil)) lNil))))
theorem odd_int {n h m : Nat} {i : Int} (a : Gd n h m (.int i)) (hn : 1400 ≤ n) (hm : m + 1 ≤ 10 ^ 60) :
    ∃ es, (∀ xs k, intS (envO (.int i) xs) k = .ok es k) ∧ es.length ≤ 10 ∧ ∀ e ∈ es, Gd (3 * n) (h + 2) (m + 1) e := by
  have hi : i.natAbs ≤ m := by have := a.m; simpa [mg] using this
  have hi2 : i.natAbs ≤ 10 ^ 60 := by omega
  have hl := strInt_len hi2
  have et : ∀ k, textD [.int i] k = .ok (.str ((toString i : String) : Str)) k := fun k => by
    refine orO_ok (pure_run ?_)
    exact if_pos (log_small hi2)
  refine ⟨[.int (i + 1), .int (i - 1), .bl (i == 1), .str ((toString i : String) : Str)], fun xs k => ?_, by show 4 ≤ 10; omega, fun e he => ?_⟩
  · exact lc_run (op_run (v_run rfl) rfl plus_int) (lc_run (op_run (v_run rfl) rfl minus_int) (l2_run (op_run (v_run rfl) rfl eq_int) (app_run (l1_run (v_run rfl)) (et k))))
  · simp only [List.mem_cons, List.mem_nil_iff, or_false] at he
    rcases he with rfl | rfl | rfl | rfl
    · exact Gd.int (by omega) (by omega)
    · exact Gd.int (by omega) (by omega)
    · exact Gd.bl (by omega)
    · exact Gd.str (asc_all strInt_asc) (by omega)
theorem eq_bi {b : Bool} : ∃ z, eqD (.bl b) (.int 1) = some (.bl z) := by
  cases b
  · exact ⟨_, rfl⟩
  · exact ⟨_, rfl⟩
theorem odd_bl {n h m : Nat} {b : Bool} (hn : 1400 ≤ n) (hm : 2 ≤ m) :
    ∃ es, (∀ xs k, intS (envO (.bl b) xs) k = .ok es k) ∧ es.length ≤ 10 ∧ ∀ e ∈ es, Gd (3 * n) (h + 2) (m + 1) e := by
  have et : ∀ k, textD [.bl b] k = .ok (.str (if b = true then "True" else "False")) k := fun k => (orO_bad rfl).trans rfl
  obtain ⟨z, ez⟩ := @eq_bi b
  have hb : (b2n b).natAbs ≤ 1 := by cases b <;> decide
  refine ⟨[.int (b2n b + 1), .int (b2n b - 1), .bl z, .str (if b = true then "True" else "False")], fun xs k => ?_, by show 4 ≤ 10; omega, fun e he => ?_⟩
  · exact lc_run (op_run (v_run rfl) rfl rfl) (lc_run (op_run (v_run rfl) rfl rfl) (l2_run (op_run (v_run rfl) rfl ez) (app_run (l1_run (v_run rfl)) (et k))))
  · simp only [List.mem_cons, List.mem_nil_iff, or_false] at he
    rcases he with rfl | rfl | rfl | rfl
    · exact Gd.int (by omega) (by omega)
    · exact Gd.int (by omega) (by omega)
    · exact Gd.bl (by omega)
    · have e1 : ("True" : Str).length = 4 := rfl
      have e2 : ("False" : Str).length = 5 := rfl
      cases b
      · exact Gd.str (by decide +kernel) (by show 10 * ("False" : Str).length + 10 ≤ _; omega)
      · exact Gd.str (by decide +kernel) (by show 10 * ("True" : Str).length + 10 ≤ _; omega)
/-- something else for a value -/
def OddOk (F : Fn) : Prop := ∀ (it : D) (n h m N : Nat) (k : Dk), Gd n h m it → 1400 ≤ n → n ≤ 20000 → 10 ^ 39 ≤ m → m + 1 ≤ 10 ^ 60 → Bud k (N + 1) → ∃ d k', F [.dk, it] (some k) = .ok d (some k') ∧ Gd (3 * n) (h + 2) (m + 1) d ∧ Bud k' N
theorem oddA_run {env : List En} {k : DkO} : (sLst (lCons (sC .non) (lCons (sC (.bl true)) (lCons (sC (.bl false)) (lCons (sC (.int 0)) (lCons (sC (.int 1)) (lCons (sNeg (sC (.int 1))) (lCons (sC (.int 2)) (lCons (sC (.int 99)) (lCons (sC (.int 100)) (lCons (sOp powD (sC (.int 10)) (sC (.int 39))) (lCons (sC (.str "")) (lCons (sC (.str "x")) (lCons (sC (.str "-")) (lCons (sC (.str "ab")) (lCons (sC (.str "x-")) (lCons (sC (.str "A")) (lCons (sTup lNil) (lCons (sTup (lCons (sC (.int 0)) lNil)) (lCons (sTup (lCons (sC (.int 1)) (lCons (sC (.int 0)) lNil))) (lCons (sTup (lCons (sC (.int 0)) (lCons (sC (.int 0)) lNil))) lNil))))))))))))))))))))) env k = .ok (.lst oddA) k :=
  lst_run (lc_run rfl (lc_run rfl (lc_run rfl (lc_run rfl (lc_run rfl (lc_run rfl (lc_run rfl (lc_run rfl (lc_run rfl (lc_run (op_run rfl rfl pow_39) (lc_run rfl (lc_run rfl (lc_run rfl (lc_run rfl (lc_run rfl (lc_run rfl (lc_run (tup_run rfl (by decide)) (lc_run (tup_run (l1_run rfl) (by show 1 ≤ 1000; omega)) (l2_run (tup_run (l2_run rfl rfl) (by show 2 ≤ 1000; omega)) (tup_run (l2_run rfl rfl) (by show 2 ≤ 1000; omega))))))))))))))))))))) (by show 20 ≤ 1000; omega)
theorem oddB_run {env : List En} {k : DkO} : (sLst (lCons (sLst lNil) (lCons (sC (.dct [])) (lCons (sTup (lCons (sTup lNil) lNil)) (lCons (sTup (lCons (sC (.bl true)) lNil)) (lCons (sTup (lCons (sC (.str "a")) lNil)) (lCons (sTup (lCons (sC (.int 0)) (lCons (sC (.int 1)) lNil))) (lCons (sTup (lCons (sTup (lCons (sC (.int 0)) lNil)) (lCons (sTup (lCons (sC (.int 1)) lNil)) lNil))) lNil)))))))) env k = .ok (.lst oddB) k :=
  lst_run (lc_run (lst_run rfl (by decide)) (lc_run rfl (lc_run (tup_run (l1_run (tup_run rfl (by decide))) (by show 1 ≤ 1000; omega)) (lc_run (tup_run (l1_run rfl) (by show 1 ≤ 1000; omega)) (lc_run (tup_run (l1_run rfl) (by show 1 ≤ 1000; omega)) (l2_run (tup_run (l2_run rfl rfl) (by show 2 ≤ 1000; omega)) (tup_run (l2_run (tup_run (l1_run rfl) (by show 1 ≤ 1000; omega)) (tup_run (l1_run rfl) (by show 1 ≤ 1000; omega))) (by show 2 ≤ 1000; omega)))))))) (by show 7 ≤ 1000; omega)
theorem odd_run {FP : Fn} (hP : PickOk FP) : OddOk (fnD 3 (g__law_odd FP)) := by
  intro it n h m N k a hn hn2 hm hm2 hb
  have h1 : ∀ d ∈ oddA ++ oddB, Gd (3 * n) (h + 2) (m + 1) d := fun d hd => by
    rcases List.mem_append.mp hd with z | z
    · exact okC_gd (List.all_eq_true.mp oddA_ok d z) (by omega) (by omega) (by omega)
    · exact okC_gd (List.all_eq_true.mp oddB_ok d z) (by omega) (by omega) (by omega)
  have hm3 : 2 ≤ m := Nat.le_trans (by decide +kernel) hm
  obtain ⟨ds1, e1, l1, p1, g1⟩ := ifO (T := "tuple") (c := 2) (k := some k) a.plain (by omega) (by show 27 ≤ 200; omega) (by show 0 < 27; omega) h1 (L := (lCons (sFrz (iVal (sV 1))) (lCons (sSl (sV 1) (oSome (sC (.int 1))) oNone) (lCons (sSl (sV 1) oNone (oSome (sNeg (sC (.int 1))))) (lCons (sOp plusD (sV 1) (sSl (sV 1) (oSome (sNeg (sC (.int 1)))) oNone)) (lCons (sRev (sV 1)) (lCons (sTup (lCons (sV 1) lNil)) lNil))))))) fun ht => by
    cases it with
    | tup ds => exact odd_tup a hn hn2
    | _ => simp [isTy, isTyN, tyN] at ht
  have l1' : ds1.length ≤ 27 + 30 := l1
  obtain ⟨ds2, e2, l2, p2, g2⟩ := ifO (T := "int") (c := 3) (k := some k) a.plain (by omega) (by omega) p1 g1 (L := intS) fun ht => by
    cases it with
    | int i => exact odd_int a hn hm2
    | bl b => exact odd_bl hn hm3
    | _ => simp [isTy, isTyN, tyN] at ht
  obtain ⟨ds3, e3, l3, p3, g3⟩ := ifO (T := "str") (c := 2) (k := some k) a.plain (by omega) (by omega) p2 g2 (L := (lCons (sOp plusD (sV 1) (sC (.str "x"))) (lCons (sSl (sV 1) (oSome (sC (.int 1))) oNone) (lCons (sRev (sV 1)) (lCons (sM0 upperD (sV 1)) (lCons (sFrz (iVal (sV 1))) (lCons (sOp plusD (sV 1) (sC (.str " "))) lNil))))))) fun ht => by
    cases it with
    | str x => exact odd_str a hn hn2
    | shw _ => cases a.plain
    | _ => simp [isTy, isTyN, tyN] at ht
  obtain ⟨d, k', e4, hm4, hb'⟩ := pick_of hP (env := envO it ds3) (h := sV 2) (xs := ds3) rfl (v_run rfl) p3 (by omega) hb
  refine ⟨d, k', ?_, g3 d hm4, hb'⟩
  have e : g__law_odd FP [.d .dk, .d it, .no] (some k) = .rt d (some k') := by
    unfold g__law_odd
    rw [seq_nx (set_run oddA_run)]
    refine (seq_nx (set_run (op_run (v_run rfl) oddB_run (plus_lst (by show 20 + 7 ≤ 1000000; omega))))).trans ?_
    refine (seq_nx e1).trans ((seq_nx e2).trans ((seq_nx e3).trans (ret_run e4)))
  show endD (g__law_odd FP [.d .dk, .d it, .no] (some k)) = _
  rw [e]; rfl
/-- something else within a value -/
def BentOk (F : Fn) (deep : Nat) : Prop := ∀ (it : D) (n h m N : Nat) (k : Dk), Gd n h m it → 1400 ≤ n → n ≤ 20000 → 10 ^ 39 ≤ m → m + 1 ≤ 10 ^ 60 → Bud k (N + 2 + 2 * deep) → ∃ d k', F [.dk, it, .int (deep : Nat)] (some k) = .ok d (some k') ∧ Gd (3 * n + 2 * n * deep) (h + 2) (m + 1) d ∧ Bud k' N
theorem isTup {it : D} (h : isTy "tuple" it = true) : ∃ ds, it = .tup ds := by
  cases it <;> first | exact ⟨_, rfl⟩ | simp [isTy, isTyN, tyN] at h
abbrev envB (it : D) (deep : Nat) : List En := [.d .dk, .d it, .d (.int (deep : Nat)), .no]
abbrev condB (FD : Fn) : Sm Bool := (sOrB (sB (sOp eqD (sV 2) (sC (.int 0)))) (sOrB (sNotB (sTru (sIsi "tuple" (sV 1)))) (sOrB (sB (sOp eqD (sV 1) (sTup lNil))) (sB (sOp eqD (sCall 2 FD (lCons (sV 0) (lCons (sC (.int 5)) lNil))) (sC (.int 0)))))))
theorem condB_run {FD : Fn} (hD : DrawOk FD) {it : D} {deep : Nat} {k : Dk} {N : Nat} (hp : plain it = true) (hb : Bud k (N + 1)) :
    ∃ z k', condB FD (envB it deep) (some k) = .ok z (some k') ∧ Bud k' N ∧ (z = false → 0 < deep ∧ ∃ ds, it = .tup ds ∧ 0 < ds.length) := by
  have a1 : sB (sOp eqD (sV 2) (sC (.int 0))) (envB it deep) (some k) = .ok _ (some k) := b_run (op_run (v_run rfl) rfl eq_int)
  cases h1 : ((deep : Nat) : Int) == 0 with
  | true => rw [h1] at a1; exact ⟨true, k, orB_t a1, hb.mono (by omega), fun z => nomatch z⟩
  | false =>
    rw [h1] at a1
    have a2 : sNotB (sTru (sIsi "tuple" (sV 1))) (envB it deep) (some k) = .ok _ (some k) := notB_run (tru_run (isi_run (v_run rfl) hp) rfl)
    cases h2 : isTy "tuple" it with
    | false => rw [h2] at a2; exact ⟨true, k, (orB_f a1).trans (orB_t a2), hb.mono (by omega), fun z => nomatch z⟩
    | true =>
      rw [h2] at a2
      obtain ⟨ds, rfl⟩ := isTup h2
      have a3 : sB (sOp eqD (sV 1) (sTup lNil)) (envB (.tup ds) deep) (some k) = .ok _ (some k) := b_run (op_run (v_run rfl) (tup_run rfl (by decide)) eq_nilT)
      cases h3 : ds.isEmpty with
      | true => rw [h3] at a3; exact ⟨true, k, (orB_f a1).trans ((orB_f a2).trans (orB_t a3)), hb.mono (by omega), fun z => nomatch z⟩
      | false =>
        rw [h3] at a3
        obtain ⟨z, k', e, hb'⟩ := draw_is hD (env := envB (.tup ds) deep) (b := 5) rfl (by decide) hb
        refine ⟨z, k', (orB_f a1).trans ((orB_f a2).trans ((orB_f a3).trans (b_run e))), hb', fun _ => ⟨?_, ds, rfl, ?_⟩⟩
        · rcases Nat.eq_zero_or_pos deep with rfl | z
          · simp at h1
          · exact z
        · cases ds with
          | nil => cases h3
          | cons _ _ => exact Nat.succ_pos _
theorem lenT_run {l : Sm (List D)} {env : List En} {k k1 : DkO} {ds : List D} (h : l env k = .ok [.tup ds] k1) : sApp (pureO lenD) l env k = .ok (.int (ds.length : Nat)) k1 := app_run h rfl
theorem bent_run {FD FO FR : Fn} (hD : DrawOk FD) (hO : OddOk FO) {deep : Nat} (hR : 0 < deep → BentOk FR (deep - 1)) : BentOk (fnD 4 (g__law_bent FD FO FR)) deep := by
  intro it n h m N k a hn hn2 hm hm2 hb
  have e : ∃ d k', g__law_bent FD FO FR (envB it deep) (some k) = .rt d (some k') ∧ Gd (3 * n + 2 * n * deep) (h + 2) (m + 1) d ∧ Bud k' N := by
    obtain ⟨z, k1, e1, hb1, hz⟩ := condB_run (N := N + 1 + 2 * deep) (deep := deep) hD a.plain (hb.mono (by omega))
    unfold g__law_bent
    cases z with
    | true =>
      obtain ⟨d, k2, e2, g2, hb2⟩ := hO it n h m N k1 a hn hn2 hm hm2 (hb1.mono (by omega))
      exact ⟨d, k2, seq_rt ((ifs_t e1).trans (ret_run (call_run (l2_run (v_run rfl) (v_run rfl)) rfl e2))), g2.mono (by omega) (Nat.le_refl _) (Nat.le_refl _), hb2⟩
    | false =>
      obtain ⟨h0, ds, rfl, hl⟩ := hz rfl
      have b := a.ofTup
      have bl := b.len
      have hh : 1 ≤ h := by have := a.h; simp only [ht] at this; omega
      obtain ⟨r, k2, e2, r0, r1, hb2⟩ := hD (ds.length : Nat) k1 (N + 2 * deep) (bOk_nat hl (by omega)) (hb1.mono (by omega))
      obtain ⟨d0, hd0, hm0, _⟩ := atI_get_ok (xs := ds) r0 r1
      obtain ⟨d, k3, e3, g3, hb3⟩ := hR h0 d0 n (h - 1) m N k2 ((b.mem hm0).mono (by omega) (Nat.le_refl _) (Nat.le_refl _)) hn hn2 hm hm2 (hb2.mono (by omega))
      have hdeep : (((deep : Nat) : Int) - 1) = ((deep - 1 : Nat) : Int) := by omega
      have cl : ∀ lo hi, (cutL ds lo hi).length ≤ ds.length := fun lo hi => by unfold cutL; rw [List.length_take, List.length_drop]; omega
      have c1 := cl none (some r)
      have c2 := cl (some (r + 1)) none
      refine ⟨.tup ((cutL ds none (some r) ++ [d]) ++ cutL ds (some (r + 1)) none), k3, ?_, ?_, hb3⟩
      · refine (seq_nx (ifs_f e1)).trans ?_
        refine (seq_nx (set_run (call_run (l2_run (v_run rfl) (lenT_run (l1_run (v_run rfl)))) rfl e2))).trans ?_
        refine ret_run (op_run (op_run (sl_run (v_run rfl) oNone_run (oSome_run (v_run rfl)) rfl) (tup_run (l1_run (call_run (l3_run (v_run rfl) (ix_run (v_run rfl) (v_run rfl) hd0) (op_run (v_run rfl) rfl minus_int)) rfl ?_)) (by show 1 ≤ 1000; omega)) (plus_tup ?_)) (sl_run (v_run rfl) (oSome_run (op_run (v_run rfl) rfl plus_int)) oNone_run rfl) (plus_tup ?_))
        · rw [hdeep]; exact e3
        · rw [List.length_singleton]; omega
        · rw [List.length_append, List.length_singleton]; omega
      · have hw : 2 * n * deep = 2 * n * (deep - 1) + 2 * n := by
          obtain ⟨j, rfl⟩ : ∃ j, deep = j + 1 := ⟨deep - 1, by omega⟩
          rw [Nat.add_sub_cancel, Nat.mul_succ]
        have g3' := g3.mono (n' := 3 * n + 2 * n * (deep - 1)) (h' := h + 1) (m' := m + 1) (Nat.le_refl _) (by omega) (Nat.le_refl _)
        have q1 := (b.cut none (some r)).mono (n' := n - 10) (h' := h + 1) (m' := m + 1) (Nat.le_refl _) (by omega) (by omega)
        have q2 := (b.cut (some (r + 1)) none).mono (n' := n - 10) (h' := h + 1) (m' := m + 1) (Nat.le_refl _) (by omega) (by omega)
        exact ((q1.app (GdL.cons g3' GdL.nil (n' := 0))).app q2).tup.mono (by omega) (by omega) (Nat.le_refl _)
  obtain ⟨d, k', e, h⟩ := e
  refine ⟨d, k', ?_, h⟩
  show endD (g__law_bent FD FO FR (envB it deep) (some k)) = _
  rw [e]; rfl
end C03
set_option Elab.async false
set_option linter.all false
set_option maxRecDepth 100000
set_option maxHeartbeats 4000000
namespace C03
open PySem PySem.Spec L2 DL
/-! ### pages made otherwise -/
/-- a short text of small signs -/
def Asc (L : Nat) (z : Str) : Prop := (∀ c ∈ cp z, c < 128) ∧ z.length ≤ L
/-- short texts, so long together -/
def AL (L : Nat) (xs : List Str) : Prop := (∀ x ∈ xs, ∀ c ∈ cp x, c < 128) ∧ (xs.map (·.length)).sum + xs.length ≤ L
def sumS (xs : List Str) : Nat := (xs.map (·.length)).sum + xs.length
theorem sumS_app (xs ys : List Str) : sumS (xs ++ ys) = sumS xs + sumS ys := by
  unfold sumS
  rw [List.map_append, List.sum_append, List.length_append]; omega
theorem sumS_sub {xs ys : List Str} (h : xs.Sublist ys) : sumS xs ≤ sumS ys := by
  induction h with
  | slnil => exact Nat.le_refl _
  | cons d _ ih => unfold sumS at *; rw [List.map_cons, List.sum_cons, List.length_cons]; omega
  | cons_cons d _ ih => unfold sumS at *; rw [List.map_cons, List.map_cons, List.sum_cons, List.sum_cons, List.length_cons, List.length_cons]; omega
theorem sumS_rev (xs : List Str) : sumS xs.reverse = sumS xs := by
  induction xs with
  | nil => rfl
  | cons x xs ih => rw [List.reverse_cons, sumS_app, ih]; unfold sumS; simp only [List.map_cons, List.sum_cons, List.length_cons, List.map_nil, List.sum_nil, List.length_nil]; omega
theorem AL.cut {L : Nat} {xs : List Str} (a : AL L xs) (lo hi : Option Int) : AL L (cutL xs lo hi) := by
  have hs : (cutL xs lo hi).Sublist xs := (List.take_sublist _ _).trans (List.drop_sublist _ _)
  exact ⟨fun x hx => a.1 x (hs.subset hx), Nat.le_trans (sumS_sub hs) a.2⟩
theorem AL.rev {L : Nat} {xs : List Str} (a : AL L xs) : AL L xs.reverse :=
  ⟨fun x hx => a.1 x (by simpa using hx), by have := a.2; have e := sumS_rev xs; unfold sumS at e; omega⟩
theorem AL.app {L M : Nat} {xs ys : List Str} (a : AL L xs) (b : AL M ys) : AL (L + M) (xs ++ ys) := by
  refine ⟨fun x hx => ?_, ?_⟩
  · exact (List.mem_append.mp hx).elim (a.1 x) (b.1 x)
  · have e := sumS_app xs ys
    have := a.2
    have := b.2
    unfold sumS at e
    omega
theorem AL.one {L : Nat} {x : Str} (a : Asc L x) : AL (L + 1) [x] := by
  refine ⟨fun y hy => ?_, ?_⟩
  · rw [List.mem_singleton.mp hy]; exact a.1
  · simp only [List.map_cons, List.map_nil, List.sum_cons, List.sum_nil, List.length_singleton]; have := a.2; omega
theorem AL.mono {L M : Nat} {xs : List Str} (a : AL L xs) (h : L ≤ M) : AL M xs := ⟨a.1, Nat.le_trans a.2 h⟩
theorem AL.mem {L : Nat} {xs : List Str} {x : Str} (a : AL L xs) (hx : x ∈ xs) : Asc (L - 1) x := by
  refine ⟨a.1 x hx, ?_⟩
  obtain ⟨l1, l2, rfl⟩ := List.append_of_mem hx
  have := a.2
  have e := sumS_app l1 (x :: l2)
  unfold sumS at e
  rw [List.map_cons, List.sum_cons, List.length_cons] at e
  omega
theorem Asc.mono {L M : Nat} {x : Str} (a : Asc L x) (h : L ≤ M) : Asc M x := ⟨a.1, Nat.le_trans a.2 h⟩
theorem Asc.gd {L n h m : Nat} {x : Str} (a : Asc L x) (hn : 10 * L + 10 ≤ n) : Gd n h m (.str x) := Gd.str (asc_all a.1) (by have := a.2; omega)
theorem AL.len {L : Nat} {xs : List Str} (a : AL L xs) : xs.length ≤ L := by have := a.2; omega
theorem strs_len (xs : List Str) : (strsD xs).length = xs.length := List.length_map ..
theorem strs_app (xs ys : List Str) : strsD xs ++ strsD ys = strsD (xs ++ ys) := (List.map_append ..).symm
theorem strs_rev (xs : List Str) : (strsD xs).reverse = strsD xs.reverse := (List.map_reverse ..).symm
theorem strs_cut (xs : List Str) (lo hi : Option Int) : cutL (strsD xs) lo hi = strsD (cutL xs lo hi) := by
  unfold cutL
  rw [strs_len]
  unfold strsD
  rw [← List.map_drop, ← List.map_take]
theorem join_al {a : Str} {L : Nat} {xs : List Str} (ha : a.length = 1) (hc : ∀ c ∈ cp a, c < 128) (h : AL L xs) (hL : L ≤ 1000000) : ∃ z, joinD a [.lst (strsD xs)] = some (.str z) ∧ Asc L z := by
  have h2 := h.2
  refine ⟨Txt.join a xs, joinD_lst (by rw [ha]; omega), fun c hc' => ?_, ?_⟩
  · rw [join_is] at hc'
    rcases (PyProof.Rows.mem_join a c xs).mp hc' with ⟨t, ht, z⟩ | ⟨_, z⟩
    · exact h.1 t ht c z
    · exact hc c z
  · rw [join_is]
    have := PySem.StrLaws.join_length_le a xs
    rw [ha] at this
    omega
theorem split_al {a x : Str} {L : Nat} (ha : a.length = 1) (h : Asc L x) (hL : L ≤ 1000000) : ∃ xs : List Str, splitD x [.str a] = some (.lst (strsD xs)) ∧ AL (L + 1) xs ∧ 0 < xs.length := by
  have h2 := h.2
  have sz := sizeLine_eq
  refine ⟨Txt.split x a, ?_, ⟨fun t ht c hc => ?_, ?_⟩, split_ne x a⟩
  · show (if ((a.length == 0) = false ∧ x.length + 2 ≤ sizeLine) then _ else _) = _
    rw [if_pos ⟨by rw [ha]; rfl, by omega⟩]
    rfl
  · have := (PyProof.Rows.mem_join a c (Txt.split x a)).mpr (.inl ⟨t, ht, hc⟩)
    rw [PySem.StrLaws.join_split x a] at this
    exact h.1 c this
  · have e := PySem.StrLaws.join_split x a
    have key : ∀ ys : List Str, ys ≠ [] → (Str.join a ys).length + 1 = (ys.map (·.length)).sum + ys.length := by
      intro ys
      induction ys with
      | nil => intro h; exact absurd rfl h
      | cons y ys ih =>
        intro _
        cases ys with
        | nil => show y.length + 1 = _; simp
        | cons z ys =>
          have := ih (by simp)
          show (y ++ a ++ Str.join a (z :: ys)).length + 1 = _
          rw [Str.length_append, Str.length_append, ha]
          simp only [List.map_cons, List.sum_cons, List.length_cons] at this ⊢
          omega
    have h0 : Txt.split x a ≠ [] := fun z => by have := split_ne x a; rw [z] at this; cases this
    have := key _ h0
    rw [e] at this
    omega
abbrev envP (x : Str) (ss : List Str) (way at_ : Nat) (e5 e6 e7 e8 e9 : En) : List En := [.d .dk, .d (.str x), .d (.lst (strsD ss)), .d (.int (way : Nat)), .d (.int (at_ : Nat)), e5, e6, e7, e8, e9]
def signD : List Str := ["0", "1", "9", "a", "x", "-", " ", "\n", "", "A", "+", "00"]
theorem signD_al : AL 24 signD := ⟨by decide +kernel, by decide +kernel⟩
theorem Asc.app {L M : Nat} {x y : Str} (a : Asc L x) (b : Asc M y) : Asc (L + M) (x ++ y) := by
  obtain ⟨x⟩ := x
  obtain ⟨y⟩ := y
  refine ⟨fun c hc => ?_, ?_⟩
  · have : c ∈ (x ++ y).toList := hc
    rw [Array.toList_append] at this
    rcases List.mem_append.mp this with z | z
    · exact a.1 c z
    · exact b.1 c z
  · have e : ((⟨x⟩ : Str) ++ (⟨y⟩ : Str)).length = x.size + y.size := Array.size_append
    have e1 : (⟨x⟩ : Str).length = x.size := rfl
    have e2 : (⟨y⟩ : Str).length = y.size := rfl
    have := a.2
    have := b.2
    omega
theorem Asc.cut {L : Nat} {x : Str} (a : Asc L x) (lo hi : Option Int) : Asc L (L2.cutS x lo hi) := ⟨fun c hc => a.1 c (mem_cutS hc), Nat.le_trans len_cutS a.2⟩
section
variable {FD FP : Fn}
theorem draw_len (hD : DrawOk FD) {env : List En} {j : Nat} {xs : List D} {k : Dk} {n : Nat} (h0 : env[0]? = some (.d .dk)) (hj : env[j]? = some (.d (.lst xs))) (h1 : 0 < xs.length) (h2 : xs.length ≤ 1000000) (hk : Bud k (n + 1)) :
    ∃ (r : Nat) (k' : Dk), sCall 2 FD (lCons (sV 0) (lCons (sApp (pureO lenD) (lCons (sV j) lNil)) lNil)) env (some k) = .ok (.int (r : Nat)) (some k') ∧ r < xs.length ∧ Bud k' n := by
  obtain ⟨r, k', e, r0, r1, hb⟩ := hD (xs.length : Nat) k n (bOk_nat h1 (by omega)) hk
  obtain ⟨i, rfl⟩ := Int.eq_ofNat_of_zero_le r0
  exact ⟨i, k', call_run (l2_run (v_run h0) (app_run (l1_run (v_run hj)) rfl)) rfl e, by omega, hb⟩
abbrev joinNl (f : Sm D) : Ss := sRet (sM1 joinD (sC (.str "\n")) f)
theorem joinNl_run {f : Sm D} {env : List En} {k k1 : DkO} {xs : List Str} {L : Nat} (e : f env k = .ok (.lst (strsD xs)) k1) (a : AL L xs) (hL : L ≤ 1000000) : ∃ z, joinNl f env k = .rt (.str z) k1 ∧ Asc L z := by
  obtain ⟨z, e1, h⟩ := join_al (a := "\n") rfl (by decide +kernel) a hL
  exact ⟨z, ret_run (m1_run rfl e e1), h⟩
theorem cut_run {env : List En} {k : DkO} {j : Nat} {xs : List Str} {lo hi : Sm (Option Int)} {u v : Option Int} (hj : env[j]? = some (.d (.lst (strsD xs)))) (h1 : lo env k = .ok u k) (h2 : hi env k = .ok v k) : sSl (sV j) lo hi env k = .ok (.lst (strsD (cutL xs u v))) k :=
  sl_run (v_run hj) h1 h2 (by rw [← strs_cut]; rfl)
theorem plus_run {f h : Sm D} {env : List En} {k k1 k2 : DkO} {xs ys : List Str} (e1 : f env k = .ok (.lst (strsD xs)) k1) (e2 : h env k1 = .ok (.lst (strsD ys)) k2) (hl : xs.length + ys.length ≤ 1000000) : sOp plusD f h env k = .ok (.lst (strsD (xs ++ ys))) k2 :=
  op_run e1 e2 (by rw [plus_lst (by rw [strs_len, strs_len]; exact hl), strs_app])
theorem strs_mem {xs : List Str} {d : D} (h : d ∈ strsD xs) : ∃ t, d = .str t ∧ t ∈ xs := by
  obtain ⟨t, ht, rfl⟩ := List.mem_map.mp h
  exact ⟨t, rfl, ht⟩
theorem ix_strs {xs : List Str} {i : Nat} (h : i < xs.length) : ∃ t, atI (strsD xs) (i : Int) = some (.str t) ∧ t ∈ xs :=
  ⟨xs[i], L2.atI_nat (by show (xs.map D.str)[i]? = _; simp [h]), List.getElem_mem h⟩
theorem signD_run {env : List En} {k : DkO} : sLst (lCons (sC (.str "0")) (lCons (sC (.str "1")) (lCons (sC (.str "9")) (lCons (sC (.str "a")) (lCons (sC (.str "x")) (lCons (sC (.str "-")) (lCons (sC (.str " ")) (lCons (sC (.str "\n")) (lCons (sC (.str "")) (lCons (sC (.str "A")) (lCons (sC (.str "+")) (lCons (sC (.str "00")) lNil)))))))))))) env k = .ok (.lst (strsD signD)) k :=
  lst_run rfl (by show 12 ≤ 1000; omega)
theorem page_bent_run (hD : DrawOk FD) (hP : PickOk FP) {x : Str} {ss : List Str} {L N : Nat} {k : Dk} (hx : Asc L x) (hL : L ≤ 10000) (hs : AL 50 ss) (hs0 : 0 < ss.length) (hb : Bud k (N + 6)) :
    ∃ d k', fnD 10 (g__law_page_bent FD FP) [.dk, .str x, .lst (strsD ss)] (some k) = .ok d (some k') ∧ (∃ z, d = .str z ∧ Asc (5 * L + 100) z) ∧ Bud k' N := by
  refine Rt.fn (Q := fun d k' => (∃ z, d = .str z ∧ Asc (5 * L + 100) z) ∧ Bud k' N) ?_
  show Rt (g__law_page_bent FD FP [.d .dk, .d (.str x), .d (.lst (strsD ss)), .no, .no, .no, .no, .no, .no, .no] (some k)) _
  have hx2 := hx.2
  obtain ⟨way, k1, e1, w9, hb1⟩ := draw_of (n := N + 5) hD (env := [.d .dk, .d (.str x), .d (.lst (strsD ss)), .no, .no, .no, .no, .no, .no, .no]) (b := 9) rfl (by decide) hb
  obtain ⟨at_, k2, e2, r0, _, hb2⟩ := hD ((x.length : Nat) + 1) k1 (N + 4) (bOk_nat (n := x.length + 1) (by omega) (by omega)) hb1
  obtain ⟨a_, rfl⟩ := Int.eq_ofNat_of_zero_le r0
  have e2' : sCall 2 FD (lCons (sV 0) (lCons (sOp plusD (sApp (pureO lenD) (lCons (sV 1) lNil)) (sC (.int 1))) lNil)) [.d .dk, .d (.str x), .d (.lst (strsD ss)), .no, .no, .no, .no, .no, .no, .no] (some k1) = .ok (.int (a_ : Nat)) (some k2) :=
    call_run (l2_run (v_run rfl) (op_run (app_run (l1_run (v_run rfl)) rfl) rfl plus_int)) rfl e2
  unfold g__law_page_bent
  refine Rt.seq (par2_run (mD_run e1 (mD_run e2' rfl))) ?_
  have c1 : sB (sOp ltD (sV 3) (sC (.int 3))) (envP x ss way a_ .no .no .no .no .no) (some k2) = .ok _ (some k2) := b_run (op_run (v_run rfl) rfl lt_int)
  cases h1 : decide (((way : Nat) : Int) < 3) with
  | true =>
    rw [h1] at c1
    obtain ⟨d, k3, e3, hm, hb3⟩ := pick_of (n := N + 3) hP (env := envP x ss way a_ .no .no .no .no .no) (xs := strsD signD) rfl signD_run (by show 0 < 12; omega) (by show 12 ≤ 1000; omega) hb2
    obtain ⟨t, rfl, ht⟩ := strs_mem hm
    have at_ := signD_al.mem ht
    have q1 := hx.cut none (some (a_ : Int))
    have q2 := hx.cut (some ((a_ : Int) + (way : Int))) none
    have q3 := q1.app at_
    refine Rt.seqRt (Rt.ifT c1 (Rt.seq (set_run e3) (Rt.ret (op_run (op_run (sl_run (v_run rfl) oNone_run (oSome_run (v_run rfl)) rfl) (v_run rfl) (plus_str ?_)) (sl_run (v_run rfl) (oSome_run (op_run (v_run rfl) (v_run rfl) plus_int)) oNone_run rfl) (plus_str ?_)) ⟨⟨_, rfl, (q3.app q2).mono (by omega)⟩, hb3.mono (by omega)⟩)))
    · have := q1.2; have := at_.2; omega
    · have := q3.2; have := q2.2; omega
  | false =>
    rw [h1] at c1
    refine Rt.seq (ifs_f c1) ?_
    obtain ⟨ls, e3, hl, hl0⟩ := split_al (a := "\n") rfl hx (by omega)
    have hll := hl.len
    refine Rt.seq (set_run (m1_run (v_run rfl) rfl e3)) ?_
    obtain ⟨sp, k4, e4, hsp, hb4⟩ := draw_len (n := N + 3) hD (env := envP x ss way a_ .no (.d (.lst (strsD ls))) .no .no .no) (j := 6) rfl rfl (by rw [strs_len]; exact hl0) (by rw [strs_len]; omega) hb2
    rw [strs_len] at hsp
    refine Rt.seq (set_run e4) ?_
    have cl : ∀ lo hi, AL (L + 1) (cutL ls lo hi) := fun lo hi => hl.cut lo hi
    have two : ∀ (lo hi : Option Int) (lo' hi' : Option Int), AL ((L + 1) + (L + 1)) (cutL ls lo hi ++ cutL ls lo' hi') := fun lo hi lo' hi' => (cl lo hi).app (cl lo' hi')
    have fin : ∀ {f : Sm D} {env : List En} {k k1 : Dk} {xs : List Str}, f env (some k) = .ok (.lst (strsD xs)) (some k1) → AL (5 * L + 100) xs → Bud k1 N → Rt (joinNl f env (some k)) fun d k' => (∃ z, d = .str z ∧ Asc (5 * L + 100) z) ∧ Bud k' N := by
      intro f env k k1 xs e a hb
      obtain ⟨z, e1, h⟩ := joinNl_run e a (by omega)
      exact ⟨_, k1, e1, ⟨z, rfl, h⟩, hb⟩
    have cw : ∀ (c : Int) (k : DkO), sB (sOp eqD (sV 3) (sC (.int c))) (envP x ss way a_ .no (.d (.lst (strsD ls))) (.d (.int (sp : Nat))) .no .no) k = .ok _ k := fun c k => b_run (op_run (v_run rfl) rfl eq_int)
    have q3 := cw 3 (some k4)
    cases h3 : (((way : Nat) : Int) == 3) with
    | true =>
      rw [h3] at q3
      refine Rt.seqRt (Rt.ifT q3 (fin (plus_run (cut_run rfl oNone_run (oSome_run (v_run rfl))) (cut_run rfl (oSome_run (op_run (v_run rfl) rfl plus_int)) oNone_run) ?_) ((two _ _ _ _).mono (by omega)) (hb4.mono (by omega))))
      have := (cl none (some (sp : Int))).len
      have := (cl (some ((sp : Int) + 1)) none).len
      omega
    | false =>
      rw [h3] at q3
      refine Rt.seq (ifs_f q3) ?_
      have q4 := cw 4 (some k4)
      cases h4 : (((way : Nat) : Int) == 4) with
      | true =>
        rw [h4] at q4
        refine Rt.seqRt (Rt.ifT q4 (fin (plus_run (cut_run rfl oNone_run (oSome_run (op_run (v_run rfl) rfl plus_int))) (cut_run rfl (oSome_run (v_run rfl)) oNone_run) ?_) ((two _ _ _ _).mono (by omega)) (hb4.mono (by omega))))
        have := (cl none (some ((sp : Int) + 1))).len
        have := (cl (some (sp : Int)) none).len
        omega
      | false =>
        rw [h4] at q4
        refine Rt.seq (ifs_f q4) ?_
        have q5 := cw 5 (some k4)
        cases h5 : (((way : Nat) : Int) == 5) with
        | true =>
          rw [h5] at q5
          have n1 := (cl none (some (sp : Int))).len
          have n2 := (cl (some (sp : Int)) (some ((sp : Int) + 2))).len
          have n3 := (cl (some ((sp : Int) + 2)) none).len
          refine Rt.seqRt (Rt.ifT q5 (fin (plus_run (plus_run (cut_run rfl oNone_run (oSome_run (v_run rfl))) (rev_run (cut_run rfl (oSome_run (v_run rfl)) (oSome_run (op_run (v_run rfl) rfl plus_int))) (by show some (D.lst _) = _; rw [strs_rev])) ?_) (cut_run rfl (oSome_run (op_run (v_run rfl) rfl plus_int)) oNone_run) ?_) ?_ (hb4.mono (by omega))))
          · rw [List.length_reverse]; omega
          · rw [List.length_append, List.length_reverse]; omega
          · exact (((cl none (some (sp : Int))).app (cl (some (sp : Int)) (some ((sp : Int) + 2))).rev).app (cl (some ((sp : Int) + 2)) none)).mono (by omega)
        | false =>
          rw [h5] at q5
          refine Rt.seq (ifs_f q5) ?_
          obtain ⟨t, et, ht⟩ := ix_strs hsp
          have hta := hl.mem ht
          obtain ⟨ws, e5, hw, hw0⟩ := split_al (a := " ") rfl hta (by omega)
          have hwl := hw.len
          refine Rt.seq (set_run (m1_run (ix_run (v_run rfl) (v_run rfl) et) rfl e5)) ?_
          obtain ⟨wh, k5, e6, hwh, hb5⟩ := draw_len (n := N + 2) hD (env := envP x ss way a_ .no (.d (.lst (strsD ls))) (.d (.int (sp : Nat))) (.d (.lst (strsD ws))) .no) (j := 8) rfl rfl (by rw [strs_len]; exact hw0) (by rw [strs_len]; omega) hb4
          refine Rt.seq (set_run e6) ?_
          obtain ⟨d, k6, e7, hm, hb6⟩ := pick_of (n := N + 1) hP (env := envP x ss way a_ .no (.d (.lst (strsD ls))) (.d (.int (sp : Nat))) (.d (.lst (strsD ws))) (.d (.int (wh : Nat)))) (h := sV 2) (xs := strsD ss) rfl (v_run rfl) (by rw [strs_len]; exact hs0) (by rw [strs_len]; have := hs.len; omega) hb5
          obtain ⟨u, rfl, hu⟩ := strs_mem hm
          have hua := (AL.one (hs.mem hu))
          have cw : ∀ lo hi, AL (L + 1 - 1 + 1) (cutL ws lo hi) := fun lo hi => hw.cut lo hi
          have w3 := ((cw none (some (wh : Int))).app hua).app (cw (some (((wh : Int) + (way : Int)) - 6)) none)
          refine Rt.seq (set_run (plus_run (plus_run (ys := [u]) (cut_run rfl oNone_run (oSome_run (v_run rfl))) (lst_run (l1_run e7) (by show 1 ≤ 1000; omega)) ?_) (cut_run rfl (oSome_run (op_run (op_run (v_run rfl) (v_run rfl) plus_int) rfl minus_int)) oNone_run) ?_)) ?_
          · have := (cw none (some (wh : Int))).len
            show _ + 1 ≤ _
            omega
          · have := (cw none (some (wh : Int))).len
            have := (cw (some (((wh : Int) + (way : Int)) - 6)) none).len
            rw [List.length_append]
            show _ + 1 + _ ≤ _
            omega
          · obtain ⟨y, e8, hy⟩ := join_al (a := " ") rfl (by decide +kernel) w3 (by omega)
            have n1 := (cl none (some (sp : Int))).len
            have n3 := (cl (some ((sp : Int) + 1)) none).len
            refine fin (plus_run (plus_run (ys := [y]) (cut_run rfl oNone_run (oSome_run (v_run rfl))) (lst_run (l1_run (m1_run rfl (v_run rfl) e8)) (by show 1 ≤ 1000; omega)) (by show _ + 1 ≤ _; omega)) (cut_run rfl (oSome_run (op_run (v_run rfl) rfl plus_int)) oNone_run) (by rw [List.length_append]; show _ + 1 + _ ≤ _; omega)) ((((cl none (some (sp : Int))).app (AL.one hy)).app (cl (some ((sp : Int) + 1)) none)).mono (by omega)) (hb6.mono (by omega))
end
end C03
set_option Elab.async false
set_option linter.all false
set_option maxRecDepth 100000
set_option maxHeartbeats 4000000
namespace C03
open PySem PySem.Spec L2 DL
/-! ### cloths compared -/
def strsP (xs : List Str) : List PyData := xs.map .str
theorem eqvAll_strs : ∀ xs ys : List Str, PyData.eqvAll (strsP xs) (strsP ys) = (xs == ys)
  | [], [] => rfl
  | [], _ :: _ => rfl
  | _ :: _, [] => rfl
  | x :: xs, y :: ys => by
    show (x == y && PyData.eqvAll (strsP xs) (strsP ys)) = _
    rw [eqvAll_strs xs ys, List.cons_beq_cons]
theorem pyAll_strs (xs : List Str) : D.pyAll (strsD xs) = some (strsP xs) := by
  induction xs with
  | nil => rfl
  | cons x xs ih => show D.pyAll (.str x :: strsD xs) = _; simp only [D.pyAll, D.py, ih]; rfl
theorem flat_tupS (xs : List Str) : flatPy (.tuple (strsP xs)) = true := by
  obtain ⟨h1, h2⟩ := flat_strs (f := fun x : Str => x) xs
  have h1' : PyData.hasDictAll (strsP xs) = false := h1
  have h2' : PyData.depthAll (strsP xs) = 0 := h2
  unfold flatPy
  rw [Bool.and_eq_true]
  exact ⟨by simp [PyData.hasDict, h1'], decide_eq_true (by simp only [PyData.depth]; omega)⟩
theorem eqv_tupS {f : Bool → Bool} (xs ys : List Str) : eqvD f (.tup (strsD xs)) (.tup (strsD ys)) = some (.bl (f (xs == ys))) := by
  have e1 : D.py (.tup (strsD xs)) = some (.tuple (strsP xs)) := by simp only [D.py, pyAll_strs, Option.map_some]
  have e2 : D.py (.tup (strsD ys)) = some (.tuple (strsP ys)) := by simp only [D.py, pyAll_strs, Option.map_some]
  unfold eqvD
  simp only [e1, e2, flat_tupS, Bool.and_self, if_true]
  rw [show PyData.eqv (.tuple (strsP xs)) (.tuple (strsP ys)) = PyData.eqvAll (strsP xs) (strsP ys) by simp [PyData.eqv], eqvAll_strs]
theorem eq_tupS (xs ys : List Str) : eqD (.tup (strsD xs)) (.tup (strsD ys)) = some (.bl (xs == ys)) := by
  unfold eqD
  refine orD_some ?_
  cases ys with
  | nil =>
    refine orD_some ?_
    cases xs <;> rfl
  | cons y ys => exact (orD_none rfl).trans (eqv_tupS xs (y :: ys))
theorem ne_tupS (xs ys : List Str) : neD (.tup (strsD xs)) (.tup (strsD ys)) = some (.bl (!(xs == ys))) := by
  unfold neD
  exact orD_some (eqv_tupS xs ys)
theorem py_obj {c : String} {fs : List (Str × D)} : D.py (.obj c fs) = none := by simp [D.py]
theorem eq_obj {c : String} {fs : List (Str × D)} {d : D} : eqD (.obj c fs) d = none := by
  have e1 : nilT (.obj c fs) d = none := rfl
  have e2 : eqvD (fun b => b) (.obj c fs) d = none := by unfold eqvD; rw [py_obj]
  have e3 : eqShw (fun b => b) (.obj c fs) d = none := rfl
  unfold eqD
  rw [orD_none ((orD_none e1).trans e2), e3]
theorem ne_obj {c : String} {fs : List (Str × D)} {d : D} : neD (.obj c fs) d = none := by
  have e2 : eqvD (fun b => !b) (.obj c fs) d = none := by unfold eqvD; rw [py_obj]
  have e3 : eqShw (fun b => !b) (.obj c fs) d = none := rfl
  unfold neD
  rw [orD_none e2, e3]
/-- rows of one length, so wide -/
def ClW (rows : List Str) (w : Nat) : Prop := rows ≠ [] ∧ rows.length ≤ 12 ∧ 0 < w ∧ w ≤ 12 ∧ ∀ z ∈ rows, Row w z
theorem good_of {rows : List Str} {w : Nat} (h : ClW rows w) : (badOf (.tup (strsD rows))).isNon = true ∧ fstLen (strsD rows) = w := by
  obtain ⟨h1, h2, h3, h4, h5⟩ := h
  have hne : strsD rows ≠ [] := fun z => h1 (by cases rows with | nil => rfl | cons _ _ => cases z)
  have hf : fstLen (strsD rows) = w := by
    cases rows with
    | nil => exact absurd rfl h1
    | cons x xs => exact (h5 x List.mem_cons_self).1
  refine ⟨?_, hf⟩
  unfold badOf
  simp only
  rw [if_neg hne, unD_non]
  have : uneven "x-" (strsD rows) = none := by
    unfold uneven
    rw [hf, List.findIdx?_eq_none_iff]
    intro d hd
    obtain ⟨t, rfl, ht⟩ := strs_mem hd
    obtain ⟨r1, r2⟩ := h5 t ht
    unfold badRow
    have a1 : isOver (.str t) "x-" = true := List.all_eq_true.mpr fun c hc => by
      rcases r2 c hc with rfl | rfl <;> decide +kernel
    have a2 : lenOf (.str t) = w := r1
    rw [a1, a2]
    have a3 : (w == 0) = false := by simpa using (by omega : w ≠ 0)
    simp [a3]
  rw [this]; rfl
theorem cl_gd {rows : List Str} {w : Nat} (h : ClW rows w) : Gd 2000 1 0 (.tup (strsD rows)) := by
  obtain ⟨h1, h2, h3, h4, h5⟩ := h
  have key : ∀ rs : List Str, (∀ z ∈ rs, Row w z) → GdL (132 * rs.length) 0 0 (strsD rs) := by
    intro rs
    induction rs with
    | nil => intro _; exact GdL.nil
    | cons x xs ih =>
      intro hh
      obtain ⟨r1, r2⟩ := hh x List.mem_cons_self
      have hx : Gd 130 0 0 (.str x) := Gd.str (asc_all fun c hc => by rcases r2 c hc with rfl | rfl <;> omega) (by omega)
      exact (GdL.cons hx (ih fun z hz => hh z (List.mem_cons_of_mem _ hz))).mono (by rw [List.length_cons]; omega) (Nat.le_refl _) (Nat.le_refl _)
  exact (key rows h5).tup.mono (by omega) (by omega) (Nat.le_refl _)
abbrev objC (rows : List Str) (w : Nat) : D := .obj "Cloth" [("picks", .tup (strsD rows)), ("ends", .int (w : Nat))]
/-- the program's ways with cloths -/
structure Ways (FI : FnI) (FE : Fn) : Prop where
  make : ∀ rows w k, ClW rows w → FI [.tup (strsD rows)] k = .ok [("picks", .tup (strsD rows)), ("ends", .int (w : Nat))] k
  eq : ∀ xs ys n m k, FE [objC xs n, objC ys m] k = .ok (.bl (xs == ys)) k
  other : ∀ xs n d k, plain d = true → d.isObj = false → FE [objC xs n, d] k = .ok (.bl false) k
theorem ways : Ways n_Cloth___init__ n_Cloth___eq__ where
  make rows w k h := by
    obtain ⟨g1, g2⟩ := good_of h
    have a := cl_gd h
    have := init_run (it := .tup (strsD rows)) (k := k) rfl fun ds e => by
      cases e
      exact fun d hd => gd_okS (a.ofTup.mem hd) (by omega)
    rw [this, if_pos g1]
    have e : fstLen (tupL (.tup (strsD rows))) = w := g2
    rw [e]
  eq xs ys n m k := eq_run (eq_tupS xs ys)
  other xs n d k h1 h2 := eq_other h1 h2
theorem cut_to {α : Type} {xs : List α} {i : Nat} (h : i < xs.length) : cutL xs none (some (i : Int)) = xs.take i := by
  unfold cutL
  rw [HT.sIx_none, HT.sIx_nat, List.drop_zero, Nat.sub_zero, Nat.min_eq_left (by omega)]
theorem cut_from {α : Type} {xs : List α} {i : Nat} (h : i < xs.length) : cutL xs (some ((i : Int) + 1)) none = xs.drop (i + 1) := by
  unfold cutL
  have e : ((i : Int) + 1) = ((i + 1 : Nat) : Int) := by omega
  rw [e, HT.sIx_none, HT.sIx_nat, Nat.min_eq_left (by omega)]
  exact List.take_of_length_le (by rw [List.length_drop]; omega)
theorem cut_put {α : Type} {xs : List α} {i : Nat} {y : α} (h : i < xs.length) : cutL xs none (some (i : Int)) ++ [y] ++ cutL xs (some ((i : Int) + 1)) none = xs.set i y := by
  rw [cut_to h, cut_from h, List.set_eq_take_append_cons_drop, if_pos h]
  simp
theorem set_ne {α : Type} [DecidableEq α] {xs : List α} {i : Nat} {x y : α} (h : xs[i]? = some x) (hne : y ≠ x) : (xs == xs.set i y) = false := by
  rw [beq_eq_false_iff_ne]
  intro e
  have hl := (List.getElem?_eq_some_iff.mp h).1
  rw [e, List.getElem?_set_self hl] at h
  exact hne (Option.some.inj h)
section
variable {FI : FnI} {FC FD FE : Fn}
theorem mk_run (W : Ways FI FE) {env : List En} {k k1 : DkO} {f : Sm D} {rows : List Str} {w : Nat} (h : ClW rows w) (e : f env k = .ok (.tup (strsD rows)) k1) : sOfC "Cloth" (sC (.cls "Cloth")) (sMake "Cloth" 1 FI (lCons f lNil)) env k = .ok (objC rows w) k1 :=
  make_run (l1_run e) rfl (W.make rows w k1 h)
abbrev eqC (FE : Fn) := orOp (pureOp eqD) (ownEq "Cloth" FE (fun b => b))
abbrev neC (FE : Fn) := orOp (pureOp neD) (ownEq "Cloth" FE (fun b => !b))
theorem eqC_run (W : Ways FI FE) {xs ys : List Str} {n m : Nat} {k : DkO} : eqC FE (objC xs n) (objC ys m) k = .ok (.bl (xs == ys)) k := by
  rw [eqC, orOp_bad (by rw [pureOp_eq, eq_obj]; rfl)]
  exact ownEq_ok (W.eq xs ys n m k) rfl rfl
theorem neC_run (W : Ways FI FE) {xs ys : List Str} {n m : Nat} {k : DkO} : neC FE (objC xs n) (objC ys m) k = .ok (.bl (!(xs == ys))) k := by
  rw [neC, orOp_bad (by rw [pureOp_eq, ne_obj]; rfl)]
  exact ownEq_ok (W.eq xs ys n m k) rfl rfl
theorem eqC_other (W : Ways FI FE) {xs : List Str} {n : Nat} {d : D} {k : DkO} (h : plain d = true) (ho : d.isObj = false) : eqC FE (objC xs n) d k = .ok (.bl false) k := by
  rw [eqC, orOp_bad (by rw [pureOp_eq, eq_obj]; rfl)]
  exact ownEq_ok (W.other xs n d k h ho) (by cases d <;> first | rfl | cases h) (by cases d <;> first | rfl | cases h)
def flipC (c : Nat) : Str := if (⟨#[c]⟩ : Str) == "x" then "-" else "x"
theorem flipC_is {c : Nat} (h : c = 120 ∨ c = 45) : ∃ d, flipC c = ⟨#[d]⟩ ∧ d ≠ c ∧ (d = 120 ∨ d = 45) := by
  rcases h with rfl | rfl
  · exact ⟨45, by decide +kernel, by decide, .inr rfl⟩
  · exact ⟨120, by decide +kernel, by decide, .inl rfl⟩
theorem cutS_put {z : Str} {i d : Nat} (h : i < z.length) : L2.cutS z none (some (i : Int)) ++ ⟨#[d]⟩ ++ L2.cutS z (some ((i : Int) + 1)) none = ⟨((cp z).set i d).toArray⟩ := by
  have hl : i < (cp z).length := by rw [← len_list]; exact h
  rw [← cut_put hl]
  have e1 : ∀ lo hi, L2.cutS z lo hi = ⟨(cutL (cp z) lo hi).toArray⟩ := fun lo hi => by
    unfold L2.cutS cutL
    rw [len_list]
  rw [e1, e1]
  show (⟨(cutL (cp z) none (some (i : Int))).toArray ++ #[d] ++ (cutL (cp z) (some ((i : Int) + 1)) none).toArray⟩ : Str) = _
  simp
theorem row_put {z : Str} {w i d : Nat} (hr : Row w z) (hi : i < w) (hd : d = 120 ∨ d = 45) : Row w ⟨((cp z).set i d).toArray⟩ := by
  refine row_of (by rw [List.length_set, ← len_list]; exact hr.1) fun c hc => ?_
  rcases List.mem_or_eq_of_mem_set hc with z' | rfl
  · exact hr.2 c z'
  · exact hd
theorem put_ne {z : Str} {w i c d : Nat} (hr : Row w z) (hi : (cp z)[i]? = some c) (hd : d ≠ c) : (⟨((cp z).set i d).toArray⟩ : Str) ≠ z := by
  intro e
  have e2 : (cp z).set i d = cp z := by
    have := congrArg (fun q : Str => q.cps.toList) e
    simpa using this
  have hl := (List.getElem?_eq_some_iff.mp hi).1
  rw [← e2, List.getElem?_set_self hl] at hi
  exact hd (Option.some.inj hi)
theorem cl_put {rows : List Str} {w i : Nat} {y : Str} (h : ClW rows w) (hy : Row w y) : ClW (rows.set i y) w := by
  obtain ⟨h1, h2, h3, h4, h5⟩ := h
  refine ⟨fun z => h1 ?_, by rw [List.length_set]; exact h2, h3, h4, fun x hx => ?_⟩
  · have := congrArg List.length z
    rw [List.length_set] at this
    exact List.length_eq_zero_iff.mp this
  · rcases List.mem_or_eq_of_mem_set hx with z | rfl
    · exact h5 x z
    · exact hy
end
end C03
set_option Elab.async false
set_option linter.all false
set_option maxRecDepth 100000
set_option maxHeartbeats 4000000
namespace C03
open PySem PySem.Spec L2 DL
section
variable {FI : FnI} {FC FD FE : Fn}
/-- a cloth is drawn -/
def ClothOk (FC : Fn) : Prop := ∀ (k : Dk) (n : Nat), Bud k (n + 300) → ∃ (rows : List Str) (k' : Dk), FC [.dk] (some k) = .ok (.tup (strsD rows)) (some k') ∧ Cl rows ∧ Bud k' n
theorem Cl.w {rows : List Str} (h : Cl rows) : ∃ w, ClW rows w := by
  obtain ⟨h1, h2, w, h3, h4, h5⟩ := h
  exact ⟨w, h1, h2, h3, h4, h5⟩
theorem draw_lenT (hD : DrawOk FD) {env : List En} {f : Sm D} {ds : List D} {k : Dk} {n : Nat} (h0 : env[0]? = some (.d .dk)) (hf : f env (some k) = .ok (.tup ds) (some k)) (h1 : 0 < ds.length) (h2 : ds.length ≤ 1000000) (hk : Bud k (n + 1)) :
    ∃ (r : Nat) (k' : Dk), sCall 2 FD (lCons (sV 0) (lCons (sApp (pureO lenD) (lCons f lNil)) lNil)) env (some k) = .ok (.int (r : Nat)) (some k') ∧ r < ds.length ∧ Bud k' n := by
  obtain ⟨r, k', e, r0, r1, hb⟩ := hD (ds.length : Nat) k n (bOk_nat h1 (by omega)) hk
  obtain ⟨i, rfl⟩ := Int.eq_ofNat_of_zero_le r0
  exact ⟨i, k', call_run (l2_run (v_run h0) (app_run (l1_run hf) rfl)) rfl e, by omega, hb⟩
theorem draw_lenS (hD : DrawOk FD) {env : List En} {f : Sm D} {z : Str} {k : Dk} {n : Nat} (h0 : env[0]? = some (.d .dk)) (hf : f env (some k) = .ok (.str z) (some k)) (h1 : 0 < z.length) (h2 : z.length ≤ 1000000) (hk : Bud k (n + 1)) :
    ∃ (r : Nat) (k' : Dk), sCall 2 FD (lCons (sV 0) (lCons (sApp (pureO lenD) (lCons f lNil)) lNil)) env (some k) = .ok (.int (r : Nat)) (some k') ∧ r < z.length ∧ Bud k' n := by
  obtain ⟨r, k', e, r0, r1, hb⟩ := hD (z.length : Nat) k n (bOk_nat h1 (by omega)) hk
  obtain ⟨i, rfl⟩ := Int.eq_ofNat_of_zero_le r0
  exact ⟨i, k', call_run (l2_run (v_run h0) (app_run (l1_run hf) rfl)) rfl e, by omega, hb⟩
theorem atI_strs {xs : List Str} {i : Nat} {t : Str} (h : xs[i]? = some t) : ixD (.tup (strsD xs)) (.int (i : Nat)) = some (.str t) := by
  show atI (strsD xs) (i : Int) = _
  refine L2.atI_nat ?_
  show (xs.map D.str)[i]? = _
  rw [List.getElem?_map, h]; rfl
theorem rows_al {rows : List Str} {w : Nat} (h : ClW rows w) : AL 200 rows := by
  obtain ⟨h1, h2, h3, h4, h5⟩ := h
  have key : ∀ rs : List Str, (∀ z ∈ rs, Row w z) → (rs.map (·.length)).sum ≤ 12 * rs.length := by
    intro rs
    induction rs with
    | nil => intro _; exact Nat.le_refl _
    | cons x xs ih =>
      intro hh
      have := (hh x List.mem_cons_self).1
      have := ih fun z hz => hh z (List.mem_cons_of_mem _ hz)
      rw [List.map_cons, List.sum_cons, List.length_cons]; omega
  exact ⟨fun x hx c hc => by rcases (h5 x hx).2 c hc with rfl | rfl <;> omega, by have := key rows h5; omega⟩
abbrev envQ (some_ : List Str) (w : Nat) (other : List Str) (a c : Nat) (e6 e7 : En) : List En := [.d .dk, .d (.tup (strsD some_)), .d (objC some_ w), .d (.tup (strsD other)), .d (.int (a : Nat)), .d (.int (c : Nat)), e6, e7]
theorem equals_run (W : Ways FI FE) (hC : ClothOk FC) (hD : DrawOk FD) {rows : List Str} {w n : Nat} {k : Dk} (h : ClW rows w) (hb : Bud k (n + 302)) :
    ∃ d k', fnD 8 (g__law_equals_right FI FC FD FE) [.dk, .tup (strsD rows)] (some k) = .ok d (some k') ∧ (d = .bl true) ∧ Bud k' n := by
  refine Rt.fn (Q := fun d k' => d = .bl true ∧ Bud k' n) ?_
  show Rt (g__law_equals_right FI FC FD FE [.d .dk, .d (.tup (strsD rows)), .no, .no, .no, .no, .no, .no] (some k)) _
  obtain ⟨h1, h2, h3, h4, h5⟩ := h
  have h : ClW rows w := ⟨h1, h2, h3, h4, h5⟩
  obtain ⟨other, k1, e1, ho, hb1⟩ := hC k (n + 2) hb
  obtain ⟨v, hov⟩ := ho.w
  unfold g__law_equals_right
  refine Rt.seq (par2_run (mD_run (mk_run W h (v_run rfl)) (mD_run (call_run (l1_run (v_run rfl)) rfl e1) rfl))) ?_
  have hl0 : 0 < rows.length := List.length_pos_iff.mpr h1
  obtain ⟨x0, hx0⟩ : ∃ x0, rows[0]? = some x0 := ⟨rows[0], by simp [hl0]⟩
  have hr0 := h5 x0 (List.mem_of_getElem? hx0)
  obtain ⟨a, k2, e2, ha, hb2⟩ := draw_lenT (n := n + 1) hD (env := [.d .dk, .d (.tup (strsD rows)), .d (objC rows w), .d (.tup (strsD other)), .no, .no, .no, .no]) (f := sV 1) (ds := strsD rows) rfl (v_run rfl) (by rw [strs_len]; exact hl0) (by rw [strs_len]; omega) hb1
  rw [strs_len] at ha
  obtain ⟨c, k3, e3, hc, hb3⟩ := draw_lenS (n := n) hD (env := [.d .dk, .d (.tup (strsD rows)), .d (objC rows w), .d (.tup (strsD other)), .no, .no, .no, .no]) (f := sIx (sV 1) (sC (.int 0))) (z := x0) rfl (ix_run (v_run rfl) rfl (atI_strs (i := 0) hx0)) (by rw [hr0.1]; exact h3) (by rw [hr0.1]; omega) hb2
  rw [hr0.1] at hc
  refine Rt.seq (par2_run (mD_run e2 (mD_run e3 rfl))) ?_
  obtain ⟨y, hy⟩ : ∃ y, rows[a]? = some y := ⟨rows[a], by simp [ha]⟩
  have hry := h5 y (List.mem_of_getElem? hy)
  have hyl : (cp y).length = w := by rw [← len_list]; exact hry.1
  obtain ⟨s, hs⟩ : ∃ s, (cp y)[c]? = some s := ⟨(cp y)[c], by simp [hyl, hc]⟩
  obtain ⟨d, hd1, hd2, hd3⟩ := flipC_is (hry.2 s (List.mem_of_getElem? hs))
  have ey : ∀ e6 e7 k, sIx (sV 1) (sV 4) (envQ rows w other a c e6 e7) k = .ok (.str y) k := fun e6 e7 k => ix_run (v_run rfl) (v_run rfl) (atI_strs hy)
  have es : ∀ e6 e7 k, sIx (sIx (sV 1) (sV 4)) (sV 5) (envQ rows w other a c e6 e7) k = .ok (.str ⟨#[s]⟩) k := fun e6 e7 k => ix_run (ey e6 e7 k) (v_run rfl) (by show (atI (cp y) (c : Int)).map _ = _; rw [L2.atI_nat hs]; rfl)
  have ef : ∀ e6 e7 k, sIf (sB (sOp eqD (sIx (sIx (sV 1) (sV 4)) (sV 5)) (sC (.str "x")))) (sC (.str "-")) (sC (.str "x")) (envQ rows w other a c e6 e7) k = .ok (.str (flipC s)) k := fun e6 e7 k => by
    rw [sif_run (b_run (op_run (es e6 e7 k) rfl eq_str))]
    unfold flipC
    split <;> rfl
  have cy := cutS_put (d := d) (show c < y.length by rw [hry.1]; exact hc)
  rw [← hd1] at cy
  have hly := hry.1
  have lc := fun lo hi => @len_cutS y lo hi
  have lf : (flipC s).length = 1 := by rw [hd1]; rfl
  have ly2 : ∀ u v : Str, (u ++ v).length = u.length + v.length := fun u v => Str.length_append u v
  refine Rt.seq (set_run (op_run (op_run (sl_run (ey _ _ _) oNone_run (oSome_run (v_run rfl)) rfl) (ef _ _ _) (plus_str ?_)) (sl_run (ey _ _ _) (oSome_run (op_run (v_run rfl) rfl plus_int)) oNone_run rfl) (plus_str ?_))) ?_
  · have := lc none (some (c : Int)); omega
  · have := lc none (some (c : Int)); have := lc (some ((c : Int) + 1)) none; rw [ly2]; omega
  rw [cy]
  have hput := cl_put (i := a) h (row_put hry hc hd3)
  have hne := set_ne (y := (⟨((cp y).set c d).toArray⟩ : Str)) hy (put_ne hry hs hd2)
  generalize (⟨((cp y).set c d).toArray⟩ : Str) = z at hput hne
  have hr : (rows == rows) = true := beq_self_eq_true rows
  have hl : rows.length = (strsD rows).length := (strs_len rows).symm
  have epu : ∀ k, sOp plusD (sOp plusD (sSl (sV 1) oNone (oSome (sV 4))) (sTup (lCons (sV 6) lNil))) (sSl (sV 1) (oSome (sOp plusD (sV 4) (sC (.int 1)))) oNone) (envQ rows w other a c (.d (.str z)) .no) k = .ok (.tup (strsD (rows.set a z))) k := fun k => by
    have q : (cutL (strsD rows) none (some (a : Int)) ++ [D.str z]) ++ cutL (strsD rows) (some ((a : Int) + 1)) none = strsD (rows.set a z) := by
      rw [strs_cut, strs_cut, ← cut_put (y := z) ha, ← strs_app, ← strs_app]; rfl
    have c1 : (cutL (strsD rows) none (some (a : Int))).length ≤ 12 := by unfold cutL; rw [List.length_take, List.length_drop]; omega
    have c2 : (cutL (strsD rows) (some ((a : Int) + 1)) none).length ≤ 12 := by unfold cutL; rw [List.length_take, List.length_drop]; omega
    rw [← q]
    exact op_run (op_run (sl_run (v_run rfl) oNone_run (oSome_run (v_run rfl)) rfl) (tup_run (l1_run (v_run rfl)) (by show 1 ≤ 1000; omega)) (plus_tup (by show _ + 1 ≤ _; omega))) (sl_run (v_run rfl) (oSome_run (op_run (v_run rfl) rfl plus_int)) oNone_run rfl) (plus_tup (by rw [List.length_append]; show _ + 1 + _ ≤ _; omega))
  have k1 : sNotB (sB (sOpO (eqC FE) (sV 2) (sOfC "Cloth" (sC (.cls "Cloth")) (sMake "Cloth" 1 FI (lCons (sV 1) lNil))))) (envQ rows w other a c (.d (.str z)) .no) (some k3) = .ok (!(rows == rows)) (some k3) := notB_run (b_run (opO_run (v_run rfl) (mk_run W h (v_run rfl)) (eqC_run W)))
  have k2 : sB (sOpO (neC FE) (sV 2) (sOfC "Cloth" (sC (.cls "Cloth")) (sMake "Cloth" 1 FI (lCons (sV 1) lNil)))) (envQ rows w other a c (.d (.str z)) .no) (some k3) = .ok (!(rows == rows)) (some k3) := b_run (opO_run (v_run rfl) (mk_run W h (v_run rfl)) (neC_run W))
  rw [hr] at k1 k2
  have k4 := b_run (opO_run (k3 := some k3) (v_run (env := envQ rows w other a c (.d (.str z)) .no) (i := 2) rfl) (mk_run W hput (epu (some k3))) (eqC_run W (xs := rows) (n := w)))
  rw [hne] at k4
  refine Rt.seq (ifs_f ((orB_f k1).trans ((orB_f k2).trans k4))) ?_
  have k5 := op_run (h := sOp eqD (sV 1) (sV 3)) (op := neD) (opO_run (k3 := some k3) (v_run (env := envQ rows w other a c (.d (.str z)) .no) (i := 2) rfl) (mk_run W hov (v_run (i := 3) rfl)) (eqC_run W (xs := rows) (n := w))) (op_run (v_run rfl) (v_run rfl) (eq_tupS rows other)) ne_bl
  have k6 := op_run (h := sOp neD (sV 1) (sV 3)) (op := neD) (opO_run (k3 := some k3) (v_run (env := envQ rows w other a c (.d (.str z)) .no) (i := 2) rfl) (mk_run W hov (v_run (i := 3) rfl)) (neC_run W (xs := rows) (n := w))) (op_run (v_run rfl) (v_run rfl) (ne_tupS rows other)) ne_bl
  have bb : ∀ b : Bool, (!(b == b)) = false := by decide
  rw [bb] at k5 k6
  refine Rt.seq (ifs_f ((orB_f (b_run k5)).trans (b_run k6))) ?_
  have al := rows_al h
  have ej := joinD_tup (a := "\n") (xs := rows) (by have := al.2; show _ + _ * 1 ≤ _; omega)
  generalize Txt.join "\n" rows = j at ej
  have eL : ∀ k, (sLst (lCons (sC .non) (lCons (sC (.int 0)) (lCons (sC (.str "")) (lCons (sV 1) (lCons (sFrz (iVal (sV 1))) (lCons (sLst (lCons (sV 2) lNil)) (lCons (sM1 joinD (sC (.str "\n")) (sV 1)) lNil)))))))) (envQ rows w other a c (.d (.str z)) .no) k = .ok (.lst [.non, .int 0, .str "", .tup (strsD rows), .lst (strsD rows), .lst [objC rows w], .str j]) k := fun k =>
    lst_run (lc_run rfl (lc_run rfl (lc_run rfl (lc_run (v_run rfl) (lc_run (frz_run (iVal_run (v_run rfl) rfl)) (l2_run (lst_run (l1_run (v_run rfl)) (by show 1 ≤ 1000; omega)) (m1_run rfl (v_run rfl) ej))))))) (by show 7 ≤ 1000; omega)
  have ec : ∀ k, compM (.name 7) (sB (sOpO (eqC FE) (sV 2) (sV 7))) (sV 7) (wipeE (envQ rows w other a c (.d (.str z)) .no) [7]) [.non, .int 0, .str "", .tup (strsD rows), .lst (strsD rows), .lst [objC rows w], .str j] [] k = .ok ([] ++ (([.non, .int 0, .str "", .tup (strsD rows), .lst (strsD rows), .lst [objC rows w], .str j] : List D).filter fun _ => false).map fun d => d) k := by
    refine compM_eq (pp := fun _ => false) (ff := fun d => d) _ [] (Nat.le_of_lt (small1000 (by show 0 + 7 ≤ 1000; omega))) (fun d hd => ⟨_, rfl, fun k => ⟨?_, fun z => nomatch z⟩⟩)
    have hp : plain d = true ∧ d.isObj = false := by
      simp only [List.mem_cons, List.mem_nil_iff, or_false] at hd
      rcases hd with rfl | rfl | rfl | rfl | rfl | rfl | rfl <;> exact ⟨rfl, rfl⟩
    exact b_run (opO_run (v_run rfl) (v_run rfl) (eqC_other W hp.1 hp.2))
  have e0 : eqD (.lst []) (.lst []) = some (.bl true) := (eq_lst (ds := []) (ps := []) rfl rfl (by decide)).1
  exact Rt.ret (op_run (comp_run (iVal_run (eL _) rfl) (ec _)) (lst_run rfl (by show 0 ≤ 1000; omega)) e0) ⟨rfl, hb3⟩
end
end C03
set_option Elab.async false
set_option linter.all false
set_option maxRecDepth 100000
set_option maxHeartbeats 4000000
namespace C03
open PySem PySem.Spec L2 DL
open PySem.W (Frag)

def g_law (p__law_cloth : Fn) (p__law_right : Fn) (p__law_equals_right : Fn) (p__law_page_right : Fn) (p__law_bent : Fn) (p__law_page_bent : Fn) : Ss :=
  (sSeq (sFor (.name 2) (iRange1 (sC (.int 3)))
  (sSeq (sSet 3 (sApp (pureO tupleD) (lCons (sFrz (sComp (.name 4) [4] sYes (sSl (sV 4) oNone (oSome (sC (.int 10)))) (iVal (sSl (sCall 1 p__law_cloth (lCons (sV 1) lNil)) oNone (oSome (sC (.int 10))))))) lNil)))
  (sSeq (sIfS (sOrB (sNotB (sTru (sCall 1 p__law_right (lCons (sV 3) lNil)))) (sOrB (sNotB (sTru (sCall 2 p__law_equals_right (lCons (sV 1) (lCons (sV 3) lNil))))) (sNotB (sTru (sCall 1 p__law_page_right (lCons (sM1 joinD (sC (.str "\n")) (sV 3)) lNil))))))
  (sRet (sC (.bl false)))
  sSkip)
  (sFor (.name 5) (iRange1 (sC (.int 7)))
  (sSeq (sSet 6 (sCall 3 p__law_bent (lCons (sV 1) (lCons (sV 3) (lCons (sC (.int 2)) lNil)))))
  (sSeq (sSet 7 (sCall 3 p__law_page_bent (lCons (sV 1) (lCons (sM1 joinD (sC (.str "\n")) (sV 3)) (lCons (sLst (lCons (sC (.str "x")) (lCons (sC (.str "-")) (lCons (sC (.str "x-")) (lCons (sC (.str "")) (lCons (sC (.str "X")) (lCons (sC (.str "0")) (lCons (sC (.str "x x")) lNil)))))))) lNil)))))
  (sSeq (sIfS (sOrB (sNotB (sTru (sCall 1 p__law_right (lCons (sV 6) lNil)))) (sOrB (sNotB (sTru (sCall 1 p__law_right (lCons (sCall 3 p__law_bent (lCons (sV 1) (lCons (sV 6) (lCons (sC (.int 2)) lNil)))) lNil)))) (sNotB (sTru (sCall 1 p__law_page_right (lCons (sV 7) lNil))))))
  (sRet (sC (.bl false)))
  sSkip)
  (sIfS (sNotB (sTru (sCall 1 p__law_page_right (lCons (sCall 3 p__law_page_bent (lCons (sV 1) (lCons (sV 7) (lCons (sLst (lCons (sC (.str "x")) (lCons (sC (.str "-")) (lCons (sC (.str "")) (lCons (sC (.str "xx")) lNil))))) lNil)))) lNil))))
  (sRet (sC (.bl false)))
  sSkip))))))))
  (sSeq (sSet 8 (sLst (lCons (sC .non) (lCons (sC (.int 0)) (lCons (sC (.bl true)) (lCons (sC (.str "")) (lCons (sC (.str "x")) (lCons (sLst lNil) (lCons (sTup lNil) (lCons (sC (.dct [])) (lCons (sLst (lCons (sC (.str "x")) lNil)) (lCons (sTup (lCons (sC (.str "x")) (lCons (sC .non) lNil))) (lCons (sTup (lCons (sC .non) (lCons (sC (.str "x")) lNil))) (lCons (sTup (lCons (sC (.str "")) (lCons (sC (.str "")) lNil))) (lCons (sTup (lCons (sC (.str "x")) (lCons (sC (.str "xx")) lNil))) (lCons (sTup (lCons (sC (.str "xx")) (lCons (sC (.str "x")) lNil))) lNil))))))))))))))))
  (sSeq (sSet 8 (sOp plusD (sV 8) (sLst (lCons (sTup (lCons (sTup (lCons (sC (.str "x")) lNil)) lNil)) (lCons (sTup (lCons (sC (.str "x")) (lCons (sC (.str "")) lNil))) (lCons (sTup (lCons (sC (.str "x\n")) lNil)) (lCons (sTup (lCons (sOp timesD (sC (.str "x")) (sC (.int 12))) (lCons (sOp timesD (sC (.str "-")) (sC (.int 12))) lNil))) (lCons (sTup (lCons (sC (.int 1)) lNil)) (lCons (sTup (lCons (sC (.str "x-")) (lCons (sC (.str "-x")) (lCons (sC (.str "y-")) lNil)))) (lCons (sC (.str "x\n-")) (lCons (sC (.str "x\n")) (lCons (sC (.str "\nx")) lNil))))))))))))
  (sRet (sOp eqD (sFrz (sComp (.name 9) [9] (sOrB (sNotB (sTru (sCall 1 p__law_right (lCons (sV 9) lNil)))) (sNotB (sTru (sCall 1 p__law_page_right (lCons (sV 9) lNil))))) (sV 9) (iVal (sV 8)))) (sLst lNil))))))
def s_law : Ss := g_law n__law_cloth n__law_right n__law_equals_right n__law_page_right (n__law_bent 3) n__law_page_bent
section
variable {P : Program} {w : World} {K : Frag} {cl : String → Addr} {mg : Str → Option Value} {base : Heap} {A : Adr}
theorem ok_law (T : Txt K cl mg A) (hlaw : ∀ k : Dk, k.t = 0 → ∃ k', s_law (.no :: .d .dk :: List.replicate 8 .no) (some k) = .rt (.bl true) k') : FnG P w K mg base 8 A.f_law A.fd_law ["_law_script"] (spLaw K) := by
    have G__law_bent := fun dk : Addr => ok__law_bent (P := P) (w := w) (base := base) (dk := dk) T 3
    have G__law_cloth := fun dk : Addr => ok__law_cloth (P := P) (w := w) (base := base) (dk := dk) T
    have G__law_equals_right := fun dk : Addr => ok__law_equals_right (P := P) (w := w) (base := base) (dk := dk) T
    have G__law_page_bent := fun dk : Addr => ok__law_page_bent (P := P) (w := w) (base := base) (dk := dk) T
    have G__law_page_right := fun dk : Addr => ok__law_page_right (P := P) (w := w) (base := base) (dk := dk) T
    have G__law_right := fun dk : Addr => ok__law_right (P := P) (w := w) (base := base) (dk := dk) T
    have Gd := ok__law_deck (P := P) (w := w) (base := base) T
    refine T.F_law.okXG sc_law (fun vs H Q E h => by obtain ⟨a, ns, rfl, _⟩ := h; rfl) (fun cdv A0 outer sh H vs Q E hr hgd h => ?_)
    refine ⟨_, pss_cons (ps_set (i := 1) sc_law.nd rfl (Or.inl rfl) (pe_callG (E := fun _ => E0) Gd (hr.mono (by first | decide | omega)) hgd rfl T.m__law_deck T.F__law_deck.kp T.b__law_deck .nil noX (by exact (pa_cons (pv 0) pa_nil)))) (pss_ex fun dk : Addr => (show PDSs _ (gg K cl dk) .none (fun c d _ H => E c d H) _ s_law from by
      unfold s_law g_law
      exact (pds_cons (pds_for (tt := (.name 2)) (passes_of rfl) rfl (pdi_range1 (by rfl) T.n_range pd_int) (pdg_name (i := 2) sc_law.nd rfl (Or.inl rfl))
  (pds_cons (pds_set (i := 3) sc_law.nd rfl (Or.inl rfl) (pd_callTy (callo_tuple rfl) (by rfl) T.n_tuple (by decide +kernel) (by exact (pda_cons (pd_ofN (pdn_lc (own := [("_law_row", 4)]) (t := (.name 4)) rfl sc_law.nd (pdi_val rfl (pd_slice rfl (pd_call (G__law_cloth dk) (hr.mono (by first | decide | omega)) hgd rfl T.m__law_cloth T.F__law_cloth.kp T.b__law_cloth (takes_of rfl rfl rfl rfl) (by exact (pda_cons (pd_var (pv 1)) pda_nil))) pdo_none (pdo_some pd_int))) (blkOk_by (own := [("_law_row", 4)]) (N := ["_law_script", "_law_deck_here", "_law_go", "_law_some", "_law_row", "_law_turn", "_law_bent_here", "_law_page", "_law_odd_here", "_law_it"]) (sc := defScope st_law) (by decide +kernel)) (by decide) (fun _ _ _ _ _ => (pdg_name (i := 4) sc_law.nd rfl (Or.inl rfl))) (fun _ _ _ _ _ => pdts_nil) (fun _ _ _ _ _ => (pd_slice rfl (pd_var (pv 4)) pdo_none (pdo_some pd_int))))) pda_nil))))
  (pds_cons (pds_if (PDW.pt (pdw_or (pdt_not (pdt_truth rfl (pd_call (G__law_right dk) (hr.mono (by first | decide | omega)) hgd rfl T.m__law_right T.F__law_right.kp T.b__law_right (takes_of rfl rfl rfl rfl) (by exact (pda_cons (pd_var (pv 3)) pda_nil))) (by intro _; rfl))) (pdw_or (pdt_not (pdt_truth rfl (pd_call (G__law_equals_right dk) (hr.mono (by first | decide | omega)) hgd rfl T.m__law_equals_right T.F__law_equals_right.kp T.b__law_equals_right (takes_of rfl rfl rfl rfl) (by exact (pda_cons (pd_var (pv 1)) (pda_cons (pd_var (pv 3)) pda_nil)))) (by intro _; rfl))) (pdw_or1 (pdt_not (pdt_truth rfl (pd_call (G__law_page_right dk) (hr.mono (by first | decide | omega)) hgd rfl T.m__law_page_right T.F__law_page_right.kp T.b__law_page_right (takes_of rfl rfl rfl rfl) (by exact (pda_cons (pd_m1 PySem.F.slot_str_join PySem.F.type_str_join (mto_join rfl) pd_str (pd_var (pv 3))) pda_nil))) (by intro _; rfl)))))))
  (pds_one (pds_ret pd_bl))
  pds_nil)
  (pds_one (pds_for (tt := (.name 5)) (passes_of rfl) rfl (pdi_range1 (by rfl) T.n_range pd_int) (pdg_name (i := 5) sc_law.nd rfl (Or.inl rfl))
  (pds_cons (pds_set (i := 6) sc_law.nd rfl (Or.inl rfl) (pd_call (G__law_bent dk) (hr.mono (by first | decide | omega)) hgd rfl T.m__law_bent T.F__law_bent.kp T.b__law_bent (takes_of rfl rfl rfl rfl) (by exact (pda_cons (pd_var (pv 1)) (pda_cons (pd_var (pv 3)) (pda_cons pd_int pda_nil))))))
  (pds_cons (pds_set (i := 7) sc_law.nd rfl (Or.inl rfl) (pd_call (G__law_page_bent dk) (hr.mono (by first | decide | omega)) hgd rfl T.m__law_page_bent T.F__law_page_bent.kp T.b__law_page_bent (takes_of rfl rfl rfl rfl) (by exact (pda_cons (pd_var (pv 1)) (pda_cons (pd_m1 PySem.F.slot_str_join PySem.F.type_str_join (mto_join rfl) pd_str (pd_var (pv 3))) (pda_cons (pd_lst (pda_cons pd_str (pda_cons pd_str (pda_cons pd_str (pda_cons pd_str (pda_cons pd_str (pda_cons pd_str (pda_cons pd_str pda_nil)))))))) pda_nil))))))
  (pds_cons (pds_if (PDW.pt (pdw_or (pdt_not (pdt_truth rfl (pd_call (G__law_right dk) (hr.mono (by first | decide | omega)) hgd rfl T.m__law_right T.F__law_right.kp T.b__law_right (takes_of rfl rfl rfl rfl) (by exact (pda_cons (pd_var (pv 6)) pda_nil))) (by intro _; rfl))) (pdw_or (pdt_not (pdt_truth rfl (pd_call (G__law_right dk) (hr.mono (by first | decide | omega)) hgd rfl T.m__law_right T.F__law_right.kp T.b__law_right (takes_of rfl rfl rfl rfl) (by exact (pda_cons (pd_call (G__law_bent dk) (hr.mono (by first | decide | omega)) hgd rfl T.m__law_bent T.F__law_bent.kp T.b__law_bent (takes_of rfl rfl rfl rfl) (by exact (pda_cons (pd_var (pv 1)) (pda_cons (pd_var (pv 6)) (pda_cons pd_int pda_nil))))) pda_nil))) (by intro _; rfl))) (pdw_or1 (pdt_not (pdt_truth rfl (pd_call (G__law_page_right dk) (hr.mono (by first | decide | omega)) hgd rfl T.m__law_page_right T.F__law_page_right.kp T.b__law_page_right (takes_of rfl rfl rfl rfl) (by exact (pda_cons (pd_var (pv 7)) pda_nil))) (by intro _; rfl)))))))
  (pds_one (pds_ret pd_bl))
  pds_nil)
  (pds_one (pds_if (pdt_not (pdt_truth rfl (pd_call (G__law_page_right dk) (hr.mono (by first | decide | omega)) hgd rfl T.m__law_page_right T.F__law_page_right.kp T.b__law_page_right (takes_of rfl rfl rfl rfl) (by exact (pda_cons (pd_call (G__law_page_bent dk) (hr.mono (by first | decide | omega)) hgd rfl T.m__law_page_bent T.F__law_page_bent.kp T.b__law_page_bent (takes_of rfl rfl rfl rfl) (by exact (pda_cons (pd_var (pv 1)) (pda_cons (pd_var (pv 7)) (pda_cons (pd_lst (pda_cons pd_str (pda_cons pd_str (pda_cons pd_str (pda_cons pd_str pda_nil))))) pda_nil))))) pda_nil))) (by intro _; rfl)))
  (pds_one (pds_ret pd_bl))
  pds_nil))))))))))
  (pds_cons (pds_set (i := 8) sc_law.nd rfl (Or.inl rfl) (pd_lst (pda_cons pd_non (pda_cons pd_int (pda_cons pd_bl (pda_cons pd_str (pda_cons pd_str (pda_cons (pd_lst pda_nil) (pda_cons (pd_tup pda_nil) (pda_cons pd_dnew (pda_cons (pd_lst (pda_cons pd_str pda_nil)) (pda_cons (pd_tup (pda_cons pd_str (pda_cons pd_non pda_nil))) (pda_cons (pd_tup (pda_cons pd_non (pda_cons pd_str pda_nil))) (pda_cons (pd_tup (pda_cons pd_str (pda_cons pd_str pda_nil))) (pda_cons (pd_tup (pda_cons pd_str (pda_cons pd_str pda_nil))) (pda_cons (pd_tup (pda_cons pd_str (pda_cons pd_str pda_nil))) pda_nil))))))))))))))))
  (pds_cons (pds_set (i := 8) sc_law.nd rfl (Or.inl rfl) (pd_op (opd_plus rfl) (pd_var (pv 8)) (pd_lst (pda_cons (pd_tup (pda_cons (pd_tup (pda_cons pd_str pda_nil)) pda_nil)) (pda_cons (pd_tup (pda_cons pd_str (pda_cons pd_str pda_nil))) (pda_cons (pd_tup (pda_cons pd_str pda_nil)) (pda_cons (pd_tup (pda_cons (pd_op (opd_times rfl) pd_str pd_int) (pda_cons (pd_op (opd_times rfl) pd_str pd_int) pda_nil))) (pda_cons (pd_tup (pda_cons pd_int pda_nil)) (pda_cons (pd_tup (pda_cons pd_str (pda_cons pd_str (pda_cons pd_str pda_nil)))) (pda_cons pd_str (pda_cons pd_str (pda_cons pd_str pda_nil))))))))))))
  (pds_one (pds_ret (pd_cmp (opd_eq rfl hr.units) (pd_ofN (pdn_lc (own := [("_law_it", 9)]) (t := (.name 9)) rfl sc_law.nd (pdi_val rfl (pd_var (pv 8))) (blkOk_by (own := [("_law_it", 9)]) (N := ["_law_script", "_law_deck_here", "_law_go", "_law_some", "_law_row", "_law_turn", "_law_bent_here", "_law_page", "_law_odd_here", "_law_it"]) (sc := defScope st_law) (by decide +kernel)) (by decide) (fun _ _ _ _ _ => (pdg_name (i := 9) sc_law.nd rfl (Or.inl rfl))) (fun _ _ _ _ _ => (pdts_one (PDW.pt (pdw_or (pdt_not (pdt_truth rfl (pd_call (G__law_right dk) (hr.mono (by first | decide | omega)) hgd rfl T.m__law_right T.F__law_right.kp T.b__law_right takes0 (by exact (pda_cons (pd_var (pv 9)) pda_nil))) (by intro _; rfl))) (pdw_or1 (pdt_not (pdt_truth rfl (pd_call (G__law_page_right dk) (hr.mono (by first | decide | omega)) hgd rfl T.m__law_page_right T.F__law_page_right.kp T.b__law_page_right takes0 (by exact (pda_cons (pd_var (pv 9)) pda_nil))) (by intro _; rfl)))))))) (fun _ _ _ _ _ => (pd_var (pv 9))))) (pd_lst pda_nil) (nomark _))))))))), ?_⟩
    obtain ⟨a, ns, rfl, ha, hq⟩ := h
    refine ⟨_, rfl, ?_⟩
    refine ⟨a, ns, rfl, ha, fun d k H' ht hne h1 h2 => ⟨d, ?_⟩⟩
    exact law_rest hne h1 h2 (hlaw k ht) hq
end
end C03
set_option Elab.async false
set_option linter.all false
set_option maxRecDepth 100000
set_option maxHeartbeats 4000000
namespace C03
open PySem PySem.Spec L2 DL
/-! ### the law -/
def RightOk (F : Fn) : Prop := ∀ (it : D) (n h m : Nat) (k : DkO), Gd n h m it → n ≤ 100000 → h ≤ 40 → m ≤ 10 ^ 60 → F [it] k = .ok (.bl true) k
def EqualsOk (F : Fn) : Prop := ∀ (rows : List Str) (w n : Nat) (k : Dk), ClW rows w → Bud k (n + 302) → ∃ d k', F [.dk, .tup (strsD rows)] (some k) = .ok d (some k') ∧ d = .bl true ∧ Bud k' n
def PageOk (F : Fn) : Prop := ∀ (x : Str) (ss : List Str) (L N : Nat) (k : Dk), Asc L x → L ≤ 10000 → AL 50 ss → 0 < ss.length → Bud k (N + 6) → ∃ d k', F [.dk, .str x, .lst (strsD ss)] (some k) = .ok d (some k') ∧ (∃ z, d = .str z ∧ Asc (5 * L + 100) z) ∧ Bud k' N
section
variable {FC FR FE FG FB FH : Fn}
theorem cutS_list {z : Str} {lo hi : Option Int} : L2.cutS z lo hi = ⟨(cutL (cp z) lo hi).toArray⟩ := by
  unfold L2.cutS cutL
  rw [len_list]
theorem cut_10 {α : Type} (xs : List α) : cutL xs none (some 10) = xs.take 10 := by
  unfold cutL
  have e : HT.sIx xs.length xs.length (some (10 : Int)) = min 10 xs.length := HT.sIx_nat _ _ 10
  rw [HT.sIx_none, e, List.drop_zero, Nat.sub_zero]
  rcases Nat.le_total 10 xs.length with h | h
  · rw [Nat.min_eq_left h]
  · rw [Nat.min_eq_right h, List.take_of_length_le (Nat.le_refl _), List.take_of_length_le h]
theorem row_10 {z : Str} {w : Nat} (h : Row w z) : Row (min 10 w) (L2.cutS z none (some 10)) := by
  rw [cutS_list, cut_10]
  refine row_of ?_ fun c hc => h.2 c (List.mem_of_mem_take hc)
  rw [List.length_take, ← len_list, h.1]
theorem cl_10 {rows : List Str} {w : Nat} (h : ClW rows w) : ClW ((rows.take 10).map fun z => L2.cutS z none (some 10)) (min 10 w) := by
  obtain ⟨h1, h2, h3, h4, h5⟩ := h
  refine ⟨fun z => ?_, ?_, by omega, by omega, fun z hz => ?_⟩
  · have := congrArg List.length z
    rw [List.length_map, List.length_take] at this
    have := List.length_pos_iff.mpr h1
    have : ([] : List Str).length = 0 := rfl
    omega
  · rw [List.length_map, List.length_take]; omega
  · obtain ⟨y, hy, rfl⟩ := List.mem_map.mp hz
    exact row_10 (h5 y (List.mem_of_mem_take hy))
/-- tuple([row[:10] for row in cloth(deck)[:10]]) -/
theorem some_run (hC : ClothOk FC) {e0 e2 e3 e4 e5 e6 e7 e8 e9 : En} {k : Dk} {n : Nat} (hb : Bud k (n + 300)) :
    ∃ (rows : List Str) (w : Nat) (k' : Dk), sApp (pureO tupleD) (lCons (sFrz (sComp (.name 4) [4] sYes (sSl (sV 4) oNone (oSome (sC (.int 10)))) (iVal (sSl (sCall 1 FC (lCons (sV 1) lNil)) oNone (oSome (sC (.int 10))))))) lNil) [e0, .d .dk, e2, e3, e4, e5, e6, e7, e8, e9] (some k) = .ok (.tup (strsD rows)) (some k') ∧ ClW rows w ∧ Bud k' n := by
  obtain ⟨rows, k', e, h, hb'⟩ := hC k n hb
  obtain ⟨w, hw⟩ := h.w
  have h12 := hw.2.1
  refine ⟨_, _, k', ?_, cl_10 hw, hb'⟩
  have ec : ∀ k, compM (.name 4) sYes (sSl (sV 4) oNone (oSome (sC (.int 10)))) (wipeE [e0, .d .dk, e2, e3, e4, e5, e6, e7, e8, e9] [4]) (strsD (rows.take 10)) [] k = .ok ([] ++ ((rows.take 10).filter fun _ => true).map fun z => .str (L2.cutS z none (some 10))) k := by
    refine compM_map (mk := fun z => .str z) (pp := fun _ => true) (ff := fun z => .str (L2.cutS z none (some 10))) (rows.take 10) [] ?_ (fun z _ => ⟨_, rfl, fun k => ⟨rfl, fun _ => sl_run (v_run rfl) oNone_run (oSome_run rfl) rfl⟩⟩)
    have := small1000 (show 12 ≤ 1000 by omega)
    rw [List.length_take]
    show 0 + _ ≤ _
    omega
  rw [List.nil_append, filter_yes] at ec
  have e2 : ((rows.take 10).map fun z => D.str (L2.cutS z none (some 10))) = strsD ((rows.take 10).map fun z => L2.cutS z none (some 10)) := by
    unfold strsD; rw [List.map_map]; rfl
  rw [e2] at ec
  refine app_run (l1_run (comp_run (iVal_run (sl_run (call_run (l1_run (v_run rfl)) rfl e) oNone_run (oSome_run rfl) rfl) ?_) (ec _))) (pure_run rfl)
  rw [strs_cut, cut_10]; rfl
theorem join_alT {L : Nat} {xs : List Str} (h : AL L xs) (hL : L ≤ 1000000) : ∃ z, joinD "\n" [.tup (strsD xs)] = some (.str z) ∧ Asc L z := by
  obtain ⟨z, e, hz⟩ := join_al (a := "\n") rfl (by decide +kernel) h hL
  have h2 := h.2
  have e1 := joinD_lst (a := "\n") (xs := xs) (by show _ + _ * 1 ≤ _; omega)
  have e2 := joinD_tup (a := "\n") (xs := xs) (by show _ + _ * 1 ≤ _; omega)
  exact ⟨z, by rw [e2, ← e1, e], hz⟩
def sA : List Str := ["x", "-", "x-", "", "X", "0", "x x"]
def sB' : List Str := ["x", "-", "", "xx"]
theorem sA_al : AL 50 sA := ⟨by decide +kernel, by decide +kernel⟩
theorem sB_al : AL 50 sB' := ⟨by decide +kernel, by decide +kernel⟩
theorem sA_run {env : List En} {k : DkO} : sLst (lCons (sC (.str "x")) (lCons (sC (.str "-")) (lCons (sC (.str "x-")) (lCons (sC (.str "")) (lCons (sC (.str "X")) (lCons (sC (.str "0")) (lCons (sC (.str "x x")) lNil))))))) env k = .ok (.lst (strsD sA)) k := lst_run rfl (by show 7 ≤ 1000; omega)
theorem sB_run {env : List En} {k : DkO} : sLst (lCons (sC (.str "x")) (lCons (sC (.str "-")) (lCons (sC (.str "")) (lCons (sC (.str "xx")) lNil)))) env k = .ok (.lst (strsD sB')) k := lst_run rfl (by show 4 ≤ 1000; omega)
abbrev body2 (FR FG FB FH : Fn) : Ss := (sSeq (sSet 6 (sCall 3 FB (lCons (sV 1) (lCons (sV 3) (lCons (sC (.int 2)) lNil)))))
  (sSeq (sSet 7 (sCall 3 FH (lCons (sV 1) (lCons (sM1 joinD (sC (.str "\n")) (sV 3)) (lCons (sLst (lCons (sC (.str "x")) (lCons (sC (.str "-")) (lCons (sC (.str "x-")) (lCons (sC (.str "")) (lCons (sC (.str "X")) (lCons (sC (.str "0")) (lCons (sC (.str "x x")) lNil)))))))) lNil)))))
  (sSeq (sIfS (sOrB (sNotB (sTru (sCall 1 FR (lCons (sV 6) lNil)))) (sOrB (sNotB (sTru (sCall 1 FR (lCons (sCall 3 FB (lCons (sV 1) (lCons (sV 6) (lCons (sC (.int 2)) lNil)))) lNil)))) (sNotB (sTru (sCall 1 FG (lCons (sV 7) lNil))))))
  (sRet (sC (.bl false)))
  sSkip)
  (sIfS (sNotB (sTru (sCall 1 FG (lCons (sCall 3 FH (lCons (sV 1) (lCons (sV 7) (lCons (sLst (lCons (sC (.str "x")) (lCons (sC (.str "-")) (lCons (sC (.str "")) (lCons (sC (.str "xx")) lNil))))) lNil)))) lNil))))
  (sRet (sC (.bl false)))
  sSkip))))
theorem m39 : 10 ^ 39 + 2 ≤ 10 ^ 60 := by decide +kernel
theorem body2_run (hR : RightOk FR) (hG : RightOk FG) (hB : BentOk FB 2) (hH : PageOk FH) {rows : List Str} {w n : Nat} {k : Dk} {e2 e4 e5 e6 e7 e8 e9 : En} (h : ClW rows w) (hb : Bud k (n + 24)) :
    ∃ e6' e7' k', body2 FR FG FB FH [.no, .d .dk, e2, .d (.tup (strsD rows)), e4, e5, e6, e7, e8, e9] (some k) = .nx [.no, .d .dk, e2, .d (.tup (strsD rows)), e4, e5, e6', e7', e8, e9] (some k') ∧ Bud k' n := by
  have m39 := m39
  have g0 := (cl_gd h).mono (n' := 2000) (h' := 1) (m' := 10 ^ 39) (by omega) (by omega) (Nat.zero_le _)
  obtain ⟨d1, k1, a1, g1, hb1⟩ := hB _ 2000 1 (10 ^ 39) (n + 18) k g0 (by omega) (by omega) (Nat.le_refl _) (by omega) (hb.mono (by omega))
  obtain ⟨x, ej, hx⟩ := join_alT (rows_al h) (by omega)
  obtain ⟨_, k2, a2, ⟨z, rfl, hz⟩, hb2⟩ := hH x sA 200 (n + 12) k1 hx (by omega) sA_al (by show 0 < 7; omega) hb1
  obtain ⟨d3, k3, a3, g3, hb3⟩ := hB _ 14000 3 (10 ^ 39 + 1) (n + 6) k2 (g1.mono (by omega) (by omega) (by omega)) (by omega) (by omega) (by omega) (by omega) (hb2.mono (by omega))
  obtain ⟨_, k4, a4, ⟨y, rfl, hy⟩, hb4⟩ := hH z sB' 1100 n k3 (hz.mono (by omega)) (by omega) sB_al (by show 0 < 4; omega) hb3
  refine ⟨.d d1, .d (.str z), k4, ?_, hb4⟩
  have t1 := notB_run (tru_run (call_run (n := 1) (fn := FR) (l1_run (v_run (env := [.no, .d .dk, e2, .d (.tup (strsD rows)), e4, e5, .d d1, .d (.str z), e8, e9]) (i := 6) (k := some k2) rfl)) rfl (hR d1 _ _ _ _ g1 (by omega) (by omega) (by omega))) rfl)
  have t2 := notB_run (tru_run (call_run (n := 1) (fn := FR) (l1_run (call_run (n := 3) (fn := FB) (l3_run (q := sC (.int 2)) (v_run (env := [.no, .d .dk, e2, .d (.tup (strsD rows)), e4, e5, .d d1, .d (.str z), e8, e9]) (i := 1) (k := some k2) rfl) (v_run (i := 6) rfl) rfl) rfl a3)) rfl (hR d3 _ _ _ _ g3 (by omega) (by omega) (by omega))) rfl)
  have t3 := notB_run (tru_run (call_run (n := 1) (fn := FG) (l1_run (v_run (env := [.no, .d .dk, e2, .d (.tup (strsD rows)), e4, e5, .d d1, .d (.str z), e8, e9]) (i := 7) (k := some k3) rfl)) rfl (hG (.str z) 20000 0 0 _ (hz.gd (by omega)) (by omega) (by omega) (by omega))) rfl)
  have t4 := notB_run (tru_run (call_run (n := 1) (fn := FG) (l1_run (call_run (n := 3) (fn := FH) (l3_run (v_run (env := [.no, .d .dk, e2, .d (.tup (strsD rows)), e4, e5, .d d1, .d (.str z), e8, e9]) (i := 1) (k := some k3) rfl) (v_run (i := 7) rfl) sB_run) rfl a4)) rfl (hG (.str y) 60000 0 0 _ (hy.gd (by omega)) (by omega) (by omega) (by omega))) rfl)
  unfold body2
  refine (seq_nx (set_run (call_run (l3_run (v_run rfl) (v_run rfl) rfl) rfl a1))).trans ?_
  refine (seq_nx (set_run (call_run (l3_run (v_run rfl) (m1_run rfl (v_run rfl) ej) sA_run) rfl a2))).trans ?_
  refine (seq_nx (ifs_f ((orB_f t1).trans ((orB_f t2).trans t3)))).trans ?_
  exact ifs_f t4
abbrev body1 (FC FR FE FG FB FH : Fn) : Ss := (sSeq (sSet 3 (sApp (pureO tupleD) (lCons (sFrz (sComp (.name 4) [4] sYes (sSl (sV 4) oNone (oSome (sC (.int 10)))) (iVal (sSl (sCall 1 FC (lCons (sV 1) lNil)) oNone (oSome (sC (.int 10))))))) lNil)))
  (sSeq (sIfS (sOrB (sNotB (sTru (sCall 1 FR (lCons (sV 3) lNil)))) (sOrB (sNotB (sTru (sCall 2 FE (lCons (sV 1) (lCons (sV 3) lNil))))) (sNotB (sTru (sCall 1 FG (lCons (sM1 joinD (sC (.str "\n")) (sV 3)) lNil))))))
  (sRet (sC (.bl false)))
  sSkip)
  (sFor (.name 5) (iRange1 (sC (.int 7))) (body2 FR FG FB FH))))
theorem body1_run (hC : ClothOk FC) (hR : RightOk FR) (hE : EqualsOk FE) (hG : RightOk FG) (hB : BentOk FB 2) (hH : PageOk FH) {n : Nat} {k : Dk} {e2 e3 e4 e5 e6 e7 e8 e9 : En} (hb : Bud k (n + 800)) :
    ∃ e3' e5' e6' e7' k', body1 FC FR FE FG FB FH [.no, .d .dk, e2, e3, e4, e5, e6, e7, e8, e9] (some k) = .nx [.no, .d .dk, e2, e3', e4, e5', e6', e7', e8, e9] (some k') ∧ Bud k' n := by
  have m39 := m39
  obtain ⟨rows, w, k1, e1, h, hb1⟩ := some_run (n := n + 500) (k := k) hC (e0 := .no) (e2 := e2) (e3 := e3) (e4 := e4) (e5 := e5) (e6 := e6) (e7 := e7) (e8 := e8) (e9 := e9) hb
  have g0 := cl_gd h
  obtain ⟨_, k2, a2, rfl, hb2⟩ := hE rows w (n + 24 * 7) k1 h (hb1.mono (by omega))
  obtain ⟨x, ej, hx⟩ := join_alT (rows_al h) (by omega)
  have t1 := notB_run (tru_run (call_run (n := 1) (fn := FR) (l1_run (v_run (env := [.no, .d .dk, e2, .d (.tup (strsD rows)), e4, e5, e6, e7, e8, e9]) (i := 3) (k := some k1) rfl)) rfl (hR _ _ _ _ _ g0 (by omega) (by omega) (by omega))) rfl)
  have t2 := notB_run (tru_run (call_run (n := 2) (fn := FE) (l2_run (v_run (env := [.no, .d .dk, e2, .d (.tup (strsD rows)), e4, e5, e6, e7, e8, e9]) (i := 1) (k := some k1) rfl) (v_run (i := 3) rfl)) rfl a2) rfl)
  have t3 := notB_run (tru_run (call_run (n := 1) (fn := FG) (l1_run (m1_run (f := sC (.str "\n")) rfl (v_run (env := [.no, .d .dk, e2, .d (.tup (strsD rows)), e4, e5, e6, e7, e8, e9]) (i := 3) (k := some k2) rfl) ej)) rfl (hG (.str x) 20000 0 0 _ (hx.gd (by omega)) (by omega) (by omega) (by omega))) rfl)
  obtain ⟨env', k3, a3, ⟨e5', e6', e7', rfl⟩, hb3⟩ := forM_run (t := .name 5) (s := body2 FR FG FB FH) (mk := fun (i : Nat) => .int (i : Nat)) (c := 24) (I := fun _ env => ∃ e5 e6 e7, env = [.no, .d .dk, e2, .d (.tup (strsD rows)), e4, e5, e6, e7, e8, e9]) (List.range 7) 0 [.no, .d .dk, e2, .d (.tup (strsD rows)), e4, e5, e6, e7, e8, e9] k2 n
    ⟨e5, e6, e7, rfl⟩ (hb2.mono (by rw [List.length_range]; omega)) fun j b env k n hj hbm hI hb => by
      obtain ⟨e5, e6, e7, rfl⟩ := hI
      obtain ⟨e6', e7', k', e, hb'⟩ := body2_run (e2 := e2) (e4 := e4) (e5 := .d (.int (b : Nat))) (e6 := e6) (e7 := e7) (e8 := e8) (e9 := e9) hR hG hB hH h hb
      exact ⟨_, _, k', rfl, e, ⟨_, e6', e7', rfl⟩, hb'⟩
  refine ⟨.d (.tup (strsD rows)), e5', e6', e7', k3, ?_, hb3⟩
  unfold body1
  rw [seq_nx (set_run e1)]
  refine (seq_nx (ifs_f ((orB_f t1).trans ((orB_f t2).trans t3)))).trans ?_
  exact (for_run (range1_run (w := 7) rfl (by omega))).trans a3
def lawA : List D := [.non, .int 0, .bl true, .str "", .str "x", .lst [], .tup [], .dct [], .lst [.str "x"], .tup [.str "x", .non], .tup [.non, .str "x"], .tup [.str "", .str ""], .tup [.str "x", .str "xx"], .tup [.str "xx", .str "x"]]
def lawB : List D := [.tup [.tup [.str "x"]], .tup [.str "x", .str ""], .tup [.str "x\n"], .tup [.str (mulS "x" 12), .str (mulS "-" 12)], .tup [.int 1], .tup [.str "x-", .str "-x", .str "y-"], .str "x\n-", .str "x\n", .str "\nx"]
theorem lawA_ok : lawA.all okC = true := by decide +kernel
theorem lawB_ok : lawB.all okC = true := by decide +kernel
theorem times_str {x : Str} {n : Nat} (hx : x.length ≤ 1000) (hn : n ≤ 1000) : timesD (.str x) (.int (n : Nat)) = some (.str (mulS x n)) := by
  have e : mulSD (.str x) (.int (n : Nat)) = if (decide (0 ≤ (n : Int)) && decide ((n : Int) ≤ 1000) && decide (x.length ≤ 1000)) = true then some (.str (mulS x (n : Int).toNat)) else none := rfl
  refine (orD_none rfl).trans (orD_some ?_)
  rw [e, Int.toNat_natCast]
  refine if_pos ?_
  simp only [Bool.and_eq_true, decide_eq_true_eq]
  omega
theorem lawA_run {env : List En} {k : DkO} : (sLst (lCons (sC .non) (lCons (sC (.int 0)) (lCons (sC (.bl true)) (lCons (sC (.str "")) (lCons (sC (.str "x")) (lCons (sLst lNil) (lCons (sTup lNil) (lCons (sC (.dct [])) (lCons (sLst (lCons (sC (.str "x")) lNil)) (lCons (sTup (lCons (sC (.str "x")) (lCons (sC .non) lNil))) (lCons (sTup (lCons (sC .non) (lCons (sC (.str "x")) lNil))) (lCons (sTup (lCons (sC (.str "")) (lCons (sC (.str "")) lNil))) (lCons (sTup (lCons (sC (.str "x")) (lCons (sC (.str "xx")) lNil))) (lCons (sTup (lCons (sC (.str "xx")) (lCons (sC (.str "x")) lNil))) lNil))))))))))))))) env k = .ok (.lst lawA) k :=
  lst_run (lc_run rfl (lc_run rfl (lc_run rfl (lc_run rfl (lc_run rfl (lc_run (lst_run rfl (by decide)) (lc_run (tup_run rfl (by decide)) (lc_run rfl (lc_run (lst_run (l1_run rfl) (by show 1 ≤ 1000; omega)) (lc_run (tup_run (l2_run rfl rfl) (by show 2 ≤ 1000; omega)) (lc_run (tup_run (l2_run rfl rfl) (by show 2 ≤ 1000; omega)) (lc_run (tup_run (l2_run rfl rfl) (by show 2 ≤ 1000; omega)) (l2_run (tup_run (l2_run rfl rfl) (by show 2 ≤ 1000; omega)) (tup_run (l2_run rfl rfl) (by show 2 ≤ 1000; omega))))))))))))))) (by show 14 ≤ 1000; omega)
theorem lawB_run {env : List En} {k : DkO} : (sLst (lCons (sTup (lCons (sTup (lCons (sC (.str "x")) lNil)) lNil)) (lCons (sTup (lCons (sC (.str "x")) (lCons (sC (.str "")) lNil))) (lCons (sTup (lCons (sC (.str "x\n")) lNil)) (lCons (sTup (lCons (sOp timesD (sC (.str "x")) (sC (.int 12))) (lCons (sOp timesD (sC (.str "-")) (sC (.int 12))) lNil))) (lCons (sTup (lCons (sC (.int 1)) lNil)) (lCons (sTup (lCons (sC (.str "x-")) (lCons (sC (.str "-x")) (lCons (sC (.str "y-")) lNil)))) (lCons (sC (.str "x\n-")) (lCons (sC (.str "x\n")) (lCons (sC (.str "\nx")) lNil)))))))))) env k = .ok (.lst lawB) k :=
  lst_run (lc_run (tup_run (l1_run (tup_run (l1_run rfl) (by show 1 ≤ 1000; omega))) (by show 1 ≤ 1000; omega)) (lc_run (tup_run (l2_run rfl rfl) (by show 2 ≤ 1000; omega)) (lc_run (tup_run (l1_run rfl) (by show 1 ≤ 1000; omega)) (lc_run (tup_run (l2_run (op_run rfl rfl (times_str (x := "x") (n := 12) (by show 1 ≤ 1000; omega) (by omega))) (op_run rfl rfl (times_str (x := "-") (n := 12) (by show 1 ≤ 1000; omega) (by omega)))) (by show 2 ≤ 1000; omega)) (lc_run (tup_run (l1_run rfl) (by show 1 ≤ 1000; omega)) (lc_run (tup_run (l3_run rfl rfl rfl) (by show 3 ≤ 1000; omega)) (l3_run rfl rfl rfl))))))) (by show 9 ≤ 1000; omega)
theorem law_run (hC : ClothOk FC) (hR : RightOk FR) (hE : EqualsOk FE) (hG : RightOk FG) (hB : BentOk FB 2) (hH : PageOk FH) {k : Dk} (hb : Bud k 2400) :
    Rt (g_law FC FR FE FG FB FH [.no, .d .dk, .no, .no, .no, .no, .no, .no, .no, .no] (some k)) fun d _ => d = .bl true := by
  have m39 := m39
  obtain ⟨env', k1, a1, ⟨e2, e3, e5, e6, e7, rfl⟩, hb1⟩ := forM_run (t := .name 2) (s := body1 FC FR FE FG FB FH) (mk := fun (i : Nat) => .int (i : Nat)) (c := 800) (I := fun _ env => ∃ e2 e3 e5 e6 e7, env = [.no, .d .dk, e2, e3, .no, e5, e6, e7, .no, .no]) (List.range 3) 0 [.no, .d .dk, .no, .no, .no, .no, .no, .no, .no, .no] k 0
    ⟨_, _, _, _, _, rfl⟩ (hb.mono (by rw [List.length_range]; omega)) fun j b env k n hj hbm hI hb => by
      obtain ⟨e2, e3, e5, e6, e7, rfl⟩ := hI
      obtain ⟨e3', e5', e6', e7', k', e, hb'⟩ := body1_run (e2 := .d (.int (b : Nat))) (e3 := e3) (e4 := .no) (e5 := e5) (e6 := e6) (e7 := e7) (e8 := .no) (e9 := .no) hC hR hE hG hB hH hb
      exact ⟨_, _, k', rfl, e, ⟨_, _, _, _, _, rfl⟩, hb'⟩
  unfold g_law
  refine Rt.seq ((for_run (range1_run (w := 3) rfl (by omega))).trans a1) ?_
  refine Rt.seq (set_run lawA_run) ?_
  refine Rt.seq (set_run (op_run (v_run rfl) lawB_run (plus_lst (by show 14 + 9 ≤ 1000000; omega)))) ?_
  have ec : ∀ k, compM (.name 9) (sOrB (sNotB (sTru (sCall 1 FR (lCons (sV 9) lNil)))) (sNotB (sTru (sCall 1 FG (lCons (sV 9) lNil))))) (sV 9) (wipeE [.no, .d .dk, e2, e3, .no, e5, e6, e7, .d (.lst (lawA ++ lawB)), .no] [9]) (lawA ++ lawB) [] k = .ok ([] ++ ((lawA ++ lawB).filter fun _ => false).map fun d => d) k := by
    refine compM_eq (pp := fun _ => false) (ff := fun d => d) _ [] (Nat.le_of_lt (small1000 (by show 0 + 23 ≤ 1000; omega))) (fun d hd => ⟨_, rfl, fun k => ⟨?_, fun z => nomatch z⟩⟩)
    have g : Gd 4200 2 (10 ^ 39) d := by
      rcases List.mem_append.mp hd with z | z
      · exact okC_gd (List.all_eq_true.mp lawA_ok d z) (Nat.le_refl _) (Nat.le_refl _) (Nat.le_refl _)
      · exact okC_gd (List.all_eq_true.mp lawB_ok d z) (Nat.le_refl _) (Nat.le_refl _) (Nat.le_refl _)
    have t1 := notB_run (tru_run (call_run (n := 1) (fn := FR) (l1_run (v_run (env := (wipeE [.no, .d .dk, e2, e3, .no, e5, e6, e7, .d (.lst (lawA ++ lawB)), .no] [9]).set 9 (.d d)) (i := 9) (k := k) rfl)) rfl (hR d _ _ _ _ g (by omega) (by omega) (by omega))) rfl)
    have t2 := notB_run (tru_run (call_run (n := 1) (fn := FG) (l1_run (v_run (env := (wipeE [.no, .d .dk, e2, e3, .no, e5, e6, e7, .d (.lst (lawA ++ lawB)), .no] [9]).set 9 (.d d)) (i := 9) (k := k) rfl)) rfl (hG d _ _ _ _ g (by omega) (by omega) (by omega))) rfl)
    exact (orB_f t1).trans t2
  have e0 : eqD (.lst []) (.lst []) = some (.bl true) := (eq_lst (ds := []) (ps := []) rfl rfl (by decide)).1
  have ef : (lawA ++ lawB).filter (fun _ => false) = [] := List.filter_eq_nil_iff.mpr fun _ _ z => nomatch z
  rw [ef] at ec
  exact Rt.ret (op_run (comp_run (iVal_run (v_run rfl) rfl) (ec _)) (lst_run rfl (by show 0 ≤ 1000; omega)) e0) rfl
end
theorem law_true (k : Dk) (h : k.t = 0) : ∃ k', s_law (.no :: .d .dk :: List.replicate 8 .no) (some k) = .rt (.bl true) k' := by
  have hD : DrawOk n__law_draw := drawOk_F _
  have hP : PickOk n__law_pick := pickOk_F _
  have hO : OddOk n__law_odd := odd_run hP
  have hC : ClothOk n__law_cloth := fun k n hb => cloth_run hP hD hb
  have b0 : BentOk (n__law_bent 1) 0 := bent_run hD hO fun z => absurd z (Nat.lt_irrefl 0)
  have b1 : BentOk (n__law_bent 2) 1 := bent_run hD hO fun _ => b0
  have b2 : BentOk (n__law_bent 3) 2 := bent_run hD hO fun _ => b1
  obtain ⟨d, k', e, rfl⟩ := law_run (FC := n__law_cloth) (FR := n__law_right) (FE := n__law_equals_right) (FG := n__law_page_right) (FB := n__law_bent 3) (FH := n__law_page_bent) hC
    (fun it n h m k a hn hh hm => right_run a hn hh hm) (fun rows w n k h hb => equals_run ways hC hD h hb) (fun it n h m k a hn hh hm => page_run a hn hh hm) b2
    (fun x ss L N k hx hL hs hs0 hb => page_bent_run hD hP hx hL hs hs0 hb) (k := k) ⟨by omega, by omega⟩
  exact ⟨some k', e⟩
end C03
set_option Elab.async false
set_option linter.all false
set_option maxRecDepth 100000
set_option maxHeartbeats 4000000
namespace C03
open PySem PySem.Spec L2 DL
open PySem.W (Frag)
theorem all_mk {l : PySem.W.OpenLaw} {w : World} {K : Frag} {h : Heap} {mg : Str → Option Value} {fa f_is_string_over f_first_uneven f_lines_of f__law_deck f__law_draw f__law_pick f__law_cloth f__law_odd f__law_bent f__law_page_bent f__law_is_row f__law_bad f__law_built f__law_right f__law_heard f__law_page_right f__law_equals_right f_law f_Cloth___init__ f_Cloth___len__ f_Cloth___eq__ f_Cloth___str__ f_Cloth_read c_LoomError c_BadCloth c_BadText c_Cloth i_BadCloth i_BadText p_Cloth_read : Addr} (X : K.In h) (G : h.Ns mainGlobals mg) (hfa : mg "law" = some (.ref fa))
    {t_SIGNS : Tok}
    {rs_Cloth_read : List Value}
    {od_is_string_over an_is_string_over : Option Addr} {sl_is_string_over : Array (Option Value)} {oc_is_string_over kV_is_string_over dc_is_string_over pm_is_string_over cd_is_string_over ct_is_string_over : Value}
    {od_first_uneven an_first_uneven : Option Addr} {sl_first_uneven : Array (Option Value)} {oc_first_uneven kV_first_uneven dc_first_uneven pm_first_uneven cd_first_uneven ct_first_uneven : Value}
    {od_lines_of an_lines_of : Option Addr} {sl_lines_of : Array (Option Value)} {oc_lines_of kV_lines_of dc_lines_of pm_lines_of cd_lines_of ct_lines_of : Value}
    {od__law_deck an__law_deck : Option Addr} {sl__law_deck : Array (Option Value)} {oc__law_deck kV__law_deck dc__law_deck pm__law_deck cd__law_deck ct__law_deck : Value}
    {od__law_draw an__law_draw : Option Addr} {sl__law_draw : Array (Option Value)} {oc__law_draw kV__law_draw dc__law_draw pm__law_draw cd__law_draw ct__law_draw : Value}
    {od__law_pick an__law_pick : Option Addr} {sl__law_pick : Array (Option Value)} {oc__law_pick kV__law_pick dc__law_pick pm__law_pick cd__law_pick ct__law_pick : Value}
    {od__law_cloth an__law_cloth : Option Addr} {sl__law_cloth : Array (Option Value)} {oc__law_cloth kV__law_cloth dc__law_cloth pm__law_cloth cd__law_cloth ct__law_cloth : Value}
    {od__law_odd an__law_odd : Option Addr} {sl__law_odd : Array (Option Value)} {oc__law_odd kV__law_odd dc__law_odd pm__law_odd cd__law_odd ct__law_odd : Value}
    {od__law_bent an__law_bent : Option Addr} {sl__law_bent : Array (Option Value)} {oc__law_bent kV__law_bent dc__law_bent pm__law_bent cd__law_bent ct__law_bent : Value}
    {od__law_page_bent an__law_page_bent : Option Addr} {sl__law_page_bent : Array (Option Value)} {oc__law_page_bent kV__law_page_bent dc__law_page_bent pm__law_page_bent cd__law_page_bent ct__law_page_bent : Value}
    {od__law_is_row an__law_is_row : Option Addr} {sl__law_is_row : Array (Option Value)} {oc__law_is_row kV__law_is_row dc__law_is_row pm__law_is_row cd__law_is_row ct__law_is_row : Value}
    {od__law_bad an__law_bad : Option Addr} {sl__law_bad : Array (Option Value)} {oc__law_bad kV__law_bad dc__law_bad pm__law_bad cd__law_bad ct__law_bad : Value}
    {od__law_built an__law_built : Option Addr} {sl__law_built : Array (Option Value)} {oc__law_built kV__law_built dc__law_built pm__law_built cd__law_built ct__law_built : Value}
    {od__law_right an__law_right : Option Addr} {sl__law_right : Array (Option Value)} {oc__law_right kV__law_right dc__law_right pm__law_right cd__law_right ct__law_right : Value}
    {od__law_heard an__law_heard : Option Addr} {sl__law_heard : Array (Option Value)} {oc__law_heard kV__law_heard dc__law_heard pm__law_heard cd__law_heard ct__law_heard : Value}
    {od__law_page_right an__law_page_right : Option Addr} {sl__law_page_right : Array (Option Value)} {oc__law_page_right kV__law_page_right dc__law_page_right pm__law_page_right cd__law_page_right ct__law_page_right : Value}
    {od__law_equals_right an__law_equals_right : Option Addr} {sl__law_equals_right : Array (Option Value)} {oc__law_equals_right kV__law_equals_right dc__law_equals_right pm__law_equals_right cd__law_equals_right ct__law_equals_right : Value}
    {od_law an_law : Option Addr} {sl_law : Array (Option Value)} {oc_law kV_law dc_law pm_law cd_law ct_law : Value}
    {od_Cloth___init__ an_Cloth___init__ : Option Addr} {sl_Cloth___init__ : Array (Option Value)} {oc_Cloth___init__ kV_Cloth___init__ dc_Cloth___init__ pm_Cloth___init__ cd_Cloth___init__ ct_Cloth___init__ : Value}
    {od_Cloth___len__ an_Cloth___len__ : Option Addr} {sl_Cloth___len__ : Array (Option Value)} {oc_Cloth___len__ kV_Cloth___len__ dc_Cloth___len__ pm_Cloth___len__ cd_Cloth___len__ ct_Cloth___len__ : Value}
    {od_Cloth___eq__ an_Cloth___eq__ : Option Addr} {sl_Cloth___eq__ : Array (Option Value)} {oc_Cloth___eq__ kV_Cloth___eq__ dc_Cloth___eq__ pm_Cloth___eq__ cd_Cloth___eq__ ct_Cloth___eq__ : Value}
    {od_Cloth___str__ an_Cloth___str__ : Option Addr} {sl_Cloth___str__ : Array (Option Value)} {oc_Cloth___str__ kV_Cloth___str__ dc_Cloth___str__ pm_Cloth___str__ cd_Cloth___str__ ct_Cloth___str__ : Value}
    {od_Cloth_read an_Cloth_read : Option Addr} {sl_Cloth_read : Array (Option Value)} {oc_Cloth_read kV_Cloth_read dc_Cloth_read pm_Cloth_read cd_Cloth_read ct_Cloth_read : Value}
    {nm_BadCloth : Str} {qq_BadCloth : Str} {NN_BadCloth : Addr} {bs_BadCloth : List Value} {sn_BadCloth : List Str} {sb_BadCloth : List Value} {ab_BadCloth : Bool} {co_BadCloth : Option Bool} {dd_BadCloth : Option Addr} {m0_BadCloth : Option Value} {m1_BadCloth : Option Value} {m2_BadCloth : Option Value} {m3_BadCloth : Option Value} {m5_BadCloth : Option Value}
    {oi_BadCloth : Value} {oe_BadCloth ai_BadCloth : Option Addr} {si_BadCloth : Array (Option Value)} {di_BadCloth pi_BadCloth ci_BadCloth ti_BadCloth : Value} {u1_BadCloth u2_BadCloth v1_BadCloth v2_BadCloth v3_BadCloth v4_BadCloth : Pos}
    {nm_BadText : Str} {qq_BadText : Str} {NN_BadText : Addr} {bs_BadText : List Value} {sn_BadText : List Str} {sb_BadText : List Value} {ab_BadText : Bool} {co_BadText : Option Bool} {dd_BadText : Option Addr} {m0_BadText : Option Value} {m1_BadText : Option Value} {m2_BadText : Option Value} {m3_BadText : Option Value} {m5_BadText : Option Value}
    {oi_BadText : Value} {oe_BadText ai_BadText : Option Addr} {si_BadText : Array (Option Value)} {di_BadText pi_BadText ci_BadText ti_BadText : Value} {u1_BadText u2_BadText v1_BadText v2_BadText v3_BadText v4_BadText : Pos}
    (g_LoomError : PySem.W.nsIn K mainGlobals "LoomError" = some (some (.ref c_LoomError)))
    (g_BadCloth : PySem.W.nsIn K mainGlobals "BadCloth" = some (some (.ref c_BadCloth)))
    (g_BadText : PySem.W.nsIn K mainGlobals "BadText" = some (some (.ref c_BadText)))
    (g_Cloth : PySem.W.nsIn K mainGlobals "Cloth" = some (some (.ref c_Cloth)))
    (a_SIGNS : PySem.W.nsIn K mainGlobals "SIGNS" = some (some (.str "x-" t_SIGNS)))
    (pg_Cloth : PySem.W.plainGet K c_Cloth Str.empty = true)
    (hd_Cloth : PySem.W.hasDictIn K c_Cloth = true)
    (po_Cloth : PySem.W.plainOver K c_Cloth = true)
    (sa_Cloth : PySem.W.findIn K (.ref c_Cloth) "__setattr__" = some (some (.builtin "object.__setattr__")))
    (o1_Cloth : PySem.W.findIn K (.ref c_Cloth) "__class__" = some (some (.builtin "object.__class__")))
    (o2_Cloth : PySem.W.specialIn K (.builtin "object.__class__") "__get__" = some (some (.builtin "getset_descriptor.__get__")))
    (o3_Cloth : PySem.W.takesIn K (.builtin "object.__class__") = some true)
    (o4_Cloth : PySem.W.mroIn K c_Cloth (.type "object") = some true)
    (ty_Cloth : PySem.W.typeIn K (.ref c_Cloth) = some (.type "type"))
    (se_Cloth : PySem.W.mroIn K c_Cloth (.ref c_Cloth) = some true)
    (nb_Cloth_bool : PySem.W.mroIn K c_Cloth (.type "bool") = some false)
    (nb_Cloth_int : PySem.W.mroIn K c_Cloth (.type "int") = some false)
    (nb_Cloth_str : PySem.W.mroIn K c_Cloth (.type "str") = some false)
    (nb_Cloth_tuple : PySem.W.mroIn K c_Cloth (.type "tuple") = some false)
    (nb_Cloth_list : PySem.W.mroIn K c_Cloth (.type "list") = some false)
    (nb_Cloth_dict : PySem.W.mroIn K c_Cloth (.type "dict") = some false)
    (mk1_Cloth : PySem.W.makesIn K c_Cloth = true)
    (mk2_Cloth : PySem.W.findIn K (.ref c_Cloth) "__init__" = some (some (.ref f_Cloth___init__)))
    (mk3_Cloth : PySem.W.isFn K (.ref f_Cloth___init__) = true)
    (mk4_Cloth : PySem.W.keepIn K (.ref c_Cloth) = true)
    (na_Cloth_picks : PySem.W.findIn K (.ref c_Cloth) "picks" = some none)
    (na_Cloth_ends : PySem.W.findIn K (.ref c_Cloth) "ends" = some none)
    (s_Cloth___len__ : PySem.W.findIn K (.ref c_Cloth) "__len__" = some (some (.ref f_Cloth___len__)))
    (fn_Cloth___len__ : PySem.W.isFn K (.ref f_Cloth___len__) = true)
    (s_Cloth___eq__ : PySem.W.findIn K (.ref c_Cloth) "__eq__" = some (some (.ref f_Cloth___eq__)))
    (fn_Cloth___eq__ : PySem.W.isFn K (.ref f_Cloth___eq__) = true)
    (s_Cloth___str__ : PySem.W.findIn K (.ref c_Cloth) "__str__" = some (some (.ref f_Cloth___str__)))
    (fn_Cloth___str__ : PySem.W.isFn K (.ref f_Cloth___str__) = true)
    (cm1_Cloth_read : PySem.W.findCls K (.ref c_Cloth) (.type "type") "read" = some (.get (.builtin "classmethod.__get__") (.ref p_Cloth_read) .none (.ref c_Cloth)))
    (cm2_Cloth_read : PySem.W.recIn K p_Cloth_read "classmethod" = some (.ref f_Cloth_read :: rs_Cloth_read))
    (cm3_Cloth_read : PySem.W.fnIn K f_Cloth_read = true)
    (cr1_Cloth : PySem.W.readsIn K c_Cloth (.type "type") = true)
    (cr2_Cloth : PySem.W.specialIn K (.ref c_Cloth) "__getattribute__" = some (some (.builtin "type.__getattribute__")))
    (ne_Cloth : PySem.W.findIn K (.ref c_Cloth) "__ne__" = some (some (.builtin "object.__ne__")))
    (so_Cloth : PySem.W.subIn K (.ref c_Cloth) (.type "object") = some true)
    (a_is_string_over : PySem.W.nsIn K mainGlobals "is_string_over" = some (some (.ref f_is_string_over)))
    (l_is_string_over : K.lookup f_is_string_over = some ⟨oc_is_string_over, od_is_string_over, .func (PySem.W.fnOf "is_string_over" "is_string_over" (defArgs st_is_string_over) (defBody st_is_string_over) (defScope st_is_string_over) .none kV_is_string_over dc_is_string_over pm_is_string_over an_is_string_over cd_is_string_over ct_is_string_over), sl_is_string_over⟩)
    (cc_is_string_over : PySem.W.codeIn K cd_is_string_over "is_string_over" = true)
    (k_is_string_over : PySem.W.keepIn K (.ref f_is_string_over) = true)
    (a_first_uneven : PySem.W.nsIn K mainGlobals "first_uneven" = some (some (.ref f_first_uneven)))
    (l_first_uneven : K.lookup f_first_uneven = some ⟨oc_first_uneven, od_first_uneven, .func (PySem.W.fnOf "first_uneven" "first_uneven" (defArgs st_first_uneven) (defBody st_first_uneven) (defScope st_first_uneven) .none kV_first_uneven dc_first_uneven pm_first_uneven an_first_uneven cd_first_uneven ct_first_uneven), sl_first_uneven⟩)
    (cc_first_uneven : PySem.W.codeIn K cd_first_uneven "first_uneven" = true)
    (k_first_uneven : PySem.W.keepIn K (.ref f_first_uneven) = true)
    (a_lines_of : PySem.W.nsIn K mainGlobals "lines_of" = some (some (.ref f_lines_of)))
    (l_lines_of : K.lookup f_lines_of = some ⟨oc_lines_of, od_lines_of, .func (PySem.W.fnOf "lines_of" "lines_of" (defArgs st_lines_of) (defBody st_lines_of) (defScope st_lines_of) .none kV_lines_of dc_lines_of pm_lines_of an_lines_of cd_lines_of ct_lines_of), sl_lines_of⟩)
    (cc_lines_of : PySem.W.codeIn K cd_lines_of "lines_of" = true)
    (k_lines_of : PySem.W.keepIn K (.ref f_lines_of) = true)
    (a__law_deck : PySem.W.nsIn K mainGlobals "_law_deck" = some (some (.ref f__law_deck)))
    (l__law_deck : K.lookup f__law_deck = some ⟨oc__law_deck, od__law_deck, .func (PySem.W.fnOf "_law_deck" "_law_deck" (defArgs st__law_deck) (defBody st__law_deck) (defScope st__law_deck) .none kV__law_deck dc__law_deck pm__law_deck an__law_deck cd__law_deck ct__law_deck), sl__law_deck⟩)
    (cc__law_deck : PySem.W.codeIn K cd__law_deck "_law_deck" = true)
    (k__law_deck : PySem.W.keepIn K (.ref f__law_deck) = true)
    (a__law_draw : PySem.W.nsIn K mainGlobals "_law_draw" = some (some (.ref f__law_draw)))
    (l__law_draw : K.lookup f__law_draw = some ⟨oc__law_draw, od__law_draw, .func (PySem.W.fnOf "_law_draw" "_law_draw" (defArgs st__law_draw) (defBody st__law_draw) (defScope st__law_draw) .none kV__law_draw dc__law_draw pm__law_draw an__law_draw cd__law_draw ct__law_draw), sl__law_draw⟩)
    (cc__law_draw : PySem.W.codeIn K cd__law_draw "_law_draw" = true)
    (k__law_draw : PySem.W.keepIn K (.ref f__law_draw) = true)
    (a__law_pick : PySem.W.nsIn K mainGlobals "_law_pick" = some (some (.ref f__law_pick)))
    (l__law_pick : K.lookup f__law_pick = some ⟨oc__law_pick, od__law_pick, .func (PySem.W.fnOf "_law_pick" "_law_pick" (defArgs st__law_pick) (defBody st__law_pick) (defScope st__law_pick) .none kV__law_pick dc__law_pick pm__law_pick an__law_pick cd__law_pick ct__law_pick), sl__law_pick⟩)
    (cc__law_pick : PySem.W.codeIn K cd__law_pick "_law_pick" = true)
    (k__law_pick : PySem.W.keepIn K (.ref f__law_pick) = true)
    (a__law_cloth : PySem.W.nsIn K mainGlobals "_law_cloth" = some (some (.ref f__law_cloth)))
    (l__law_cloth : K.lookup f__law_cloth = some ⟨oc__law_cloth, od__law_cloth, .func (PySem.W.fnOf "_law_cloth" "_law_cloth" (defArgs st__law_cloth) (defBody st__law_cloth) (defScope st__law_cloth) .none kV__law_cloth dc__law_cloth pm__law_cloth an__law_cloth cd__law_cloth ct__law_cloth), sl__law_cloth⟩)
    (cc__law_cloth : PySem.W.codeIn K cd__law_cloth "_law_cloth" = true)
    (k__law_cloth : PySem.W.keepIn K (.ref f__law_cloth) = true)
    (a__law_odd : PySem.W.nsIn K mainGlobals "_law_odd" = some (some (.ref f__law_odd)))
    (l__law_odd : K.lookup f__law_odd = some ⟨oc__law_odd, od__law_odd, .func (PySem.W.fnOf "_law_odd" "_law_odd" (defArgs st__law_odd) (defBody st__law_odd) (defScope st__law_odd) .none kV__law_odd dc__law_odd pm__law_odd an__law_odd cd__law_odd ct__law_odd), sl__law_odd⟩)
    (cc__law_odd : PySem.W.codeIn K cd__law_odd "_law_odd" = true)
    (k__law_odd : PySem.W.keepIn K (.ref f__law_odd) = true)
    (a__law_bent : PySem.W.nsIn K mainGlobals "_law_bent" = some (some (.ref f__law_bent)))
    (l__law_bent : K.lookup f__law_bent = some ⟨oc__law_bent, od__law_bent, .func (PySem.W.fnOf "_law_bent" "_law_bent" (defArgs st__law_bent) (defBody st__law_bent) (defScope st__law_bent) .none kV__law_bent dc__law_bent pm__law_bent an__law_bent cd__law_bent ct__law_bent), sl__law_bent⟩)
    (cc__law_bent : PySem.W.codeIn K cd__law_bent "_law_bent" = true)
    (k__law_bent : PySem.W.keepIn K (.ref f__law_bent) = true)
    (a__law_page_bent : PySem.W.nsIn K mainGlobals "_law_page_bent" = some (some (.ref f__law_page_bent)))
    (l__law_page_bent : K.lookup f__law_page_bent = some ⟨oc__law_page_bent, od__law_page_bent, .func (PySem.W.fnOf "_law_page_bent" "_law_page_bent" (defArgs st__law_page_bent) (defBody st__law_page_bent) (defScope st__law_page_bent) .none kV__law_page_bent dc__law_page_bent pm__law_page_bent an__law_page_bent cd__law_page_bent ct__law_page_bent), sl__law_page_bent⟩)
    (cc__law_page_bent : PySem.W.codeIn K cd__law_page_bent "_law_page_bent" = true)
    (k__law_page_bent : PySem.W.keepIn K (.ref f__law_page_bent) = true)
    (a__law_is_row : PySem.W.nsIn K mainGlobals "_law_is_row" = some (some (.ref f__law_is_row)))
    (l__law_is_row : K.lookup f__law_is_row = some ⟨oc__law_is_row, od__law_is_row, .func (PySem.W.fnOf "_law_is_row" "_law_is_row" (defArgs st__law_is_row) (defBody st__law_is_row) (defScope st__law_is_row) .none kV__law_is_row dc__law_is_row pm__law_is_row an__law_is_row cd__law_is_row ct__law_is_row), sl__law_is_row⟩)
    (cc__law_is_row : PySem.W.codeIn K cd__law_is_row "_law_is_row" = true)
    (k__law_is_row : PySem.W.keepIn K (.ref f__law_is_row) = true)
    (a__law_bad : PySem.W.nsIn K mainGlobals "_law_bad" = some (some (.ref f__law_bad)))
    (l__law_bad : K.lookup f__law_bad = some ⟨oc__law_bad, od__law_bad, .func (PySem.W.fnOf "_law_bad" "_law_bad" (defArgs st__law_bad) (defBody st__law_bad) (defScope st__law_bad) .none kV__law_bad dc__law_bad pm__law_bad an__law_bad cd__law_bad ct__law_bad), sl__law_bad⟩)
    (cc__law_bad : PySem.W.codeIn K cd__law_bad "_law_bad" = true)
    (k__law_bad : PySem.W.keepIn K (.ref f__law_bad) = true)
    (a__law_built : PySem.W.nsIn K mainGlobals "_law_built" = some (some (.ref f__law_built)))
    (l__law_built : K.lookup f__law_built = some ⟨oc__law_built, od__law_built, .func (PySem.W.fnOf "_law_built" "_law_built" (defArgs st__law_built) (defBody st__law_built) (defScope st__law_built) .none kV__law_built dc__law_built pm__law_built an__law_built cd__law_built ct__law_built), sl__law_built⟩)
    (cc__law_built : PySem.W.codeIn K cd__law_built "_law_built" = true)
    (k__law_built : PySem.W.keepIn K (.ref f__law_built) = true)
    (a__law_right : PySem.W.nsIn K mainGlobals "_law_right" = some (some (.ref f__law_right)))
    (l__law_right : K.lookup f__law_right = some ⟨oc__law_right, od__law_right, .func (PySem.W.fnOf "_law_right" "_law_right" (defArgs st__law_right) (defBody st__law_right) (defScope st__law_right) .none kV__law_right dc__law_right pm__law_right an__law_right cd__law_right ct__law_right), sl__law_right⟩)
    (cc__law_right : PySem.W.codeIn K cd__law_right "_law_right" = true)
    (k__law_right : PySem.W.keepIn K (.ref f__law_right) = true)
    (a__law_heard : PySem.W.nsIn K mainGlobals "_law_heard" = some (some (.ref f__law_heard)))
    (l__law_heard : K.lookup f__law_heard = some ⟨oc__law_heard, od__law_heard, .func (PySem.W.fnOf "_law_heard" "_law_heard" (defArgs st__law_heard) (defBody st__law_heard) (defScope st__law_heard) .none kV__law_heard dc__law_heard pm__law_heard an__law_heard cd__law_heard ct__law_heard), sl__law_heard⟩)
    (cc__law_heard : PySem.W.codeIn K cd__law_heard "_law_heard" = true)
    (k__law_heard : PySem.W.keepIn K (.ref f__law_heard) = true)
    (a__law_page_right : PySem.W.nsIn K mainGlobals "_law_page_right" = some (some (.ref f__law_page_right)))
    (l__law_page_right : K.lookup f__law_page_right = some ⟨oc__law_page_right, od__law_page_right, .func (PySem.W.fnOf "_law_page_right" "_law_page_right" (defArgs st__law_page_right) (defBody st__law_page_right) (defScope st__law_page_right) .none kV__law_page_right dc__law_page_right pm__law_page_right an__law_page_right cd__law_page_right ct__law_page_right), sl__law_page_right⟩)
    (cc__law_page_right : PySem.W.codeIn K cd__law_page_right "_law_page_right" = true)
    (k__law_page_right : PySem.W.keepIn K (.ref f__law_page_right) = true)
    (a__law_equals_right : PySem.W.nsIn K mainGlobals "_law_equals_right" = some (some (.ref f__law_equals_right)))
    (l__law_equals_right : K.lookup f__law_equals_right = some ⟨oc__law_equals_right, od__law_equals_right, .func (PySem.W.fnOf "_law_equals_right" "_law_equals_right" (defArgs st__law_equals_right) (defBody st__law_equals_right) (defScope st__law_equals_right) .none kV__law_equals_right dc__law_equals_right pm__law_equals_right an__law_equals_right cd__law_equals_right ct__law_equals_right), sl__law_equals_right⟩)
    (cc__law_equals_right : PySem.W.codeIn K cd__law_equals_right "_law_equals_right" = true)
    (k__law_equals_right : PySem.W.keepIn K (.ref f__law_equals_right) = true)
    (a_law : PySem.W.nsIn K mainGlobals "law" = some (some (.ref f_law)))
    (l_law : K.lookup f_law = some ⟨oc_law, od_law, .func (PySem.W.fnOf "law" "law" (defArgs st_law) (defBody st_law) (defScope st_law) .none kV_law dc_law pm_law an_law cd_law ct_law), sl_law⟩)
    (cc_law : PySem.W.codeIn K cd_law "law" = true)
    (k_law : PySem.W.keepIn K (.ref f_law) = true)
    (l_Cloth___init__ : K.lookup f_Cloth___init__ = some ⟨oc_Cloth___init__, od_Cloth___init__, .func (PySem.W.fnOf "__init__" "Cloth.__init__" (defArgs st_Cloth___init__) (defBody st_Cloth___init__) (defScope st_Cloth___init__) .none kV_Cloth___init__ dc_Cloth___init__ pm_Cloth___init__ an_Cloth___init__ cd_Cloth___init__ ct_Cloth___init__), sl_Cloth___init__⟩)
    (cc_Cloth___init__ : PySem.W.codeIn K cd_Cloth___init__ "Cloth.__init__" = true)
    (k_Cloth___init__ : PySem.W.keepIn K (.ref f_Cloth___init__) = true)
    (l_Cloth___len__ : K.lookup f_Cloth___len__ = some ⟨oc_Cloth___len__, od_Cloth___len__, .func (PySem.W.fnOf "__len__" "Cloth.__len__" (defArgs st_Cloth___len__) (defBody st_Cloth___len__) (defScope st_Cloth___len__) .none kV_Cloth___len__ dc_Cloth___len__ pm_Cloth___len__ an_Cloth___len__ cd_Cloth___len__ ct_Cloth___len__), sl_Cloth___len__⟩)
    (cc_Cloth___len__ : PySem.W.codeIn K cd_Cloth___len__ "Cloth.__len__" = true)
    (k_Cloth___len__ : PySem.W.keepIn K (.ref f_Cloth___len__) = true)
    (l_Cloth___eq__ : K.lookup f_Cloth___eq__ = some ⟨oc_Cloth___eq__, od_Cloth___eq__, .func (PySem.W.fnOf "__eq__" "Cloth.__eq__" (defArgs st_Cloth___eq__) (defBody st_Cloth___eq__) (defScope st_Cloth___eq__) .none kV_Cloth___eq__ dc_Cloth___eq__ pm_Cloth___eq__ an_Cloth___eq__ cd_Cloth___eq__ ct_Cloth___eq__), sl_Cloth___eq__⟩)
    (cc_Cloth___eq__ : PySem.W.codeIn K cd_Cloth___eq__ "Cloth.__eq__" = true)
    (k_Cloth___eq__ : PySem.W.keepIn K (.ref f_Cloth___eq__) = true)
    (l_Cloth___str__ : K.lookup f_Cloth___str__ = some ⟨oc_Cloth___str__, od_Cloth___str__, .func (PySem.W.fnOf "__str__" "Cloth.__str__" (defArgs st_Cloth___str__) (defBody st_Cloth___str__) (defScope st_Cloth___str__) .none kV_Cloth___str__ dc_Cloth___str__ pm_Cloth___str__ an_Cloth___str__ cd_Cloth___str__ ct_Cloth___str__), sl_Cloth___str__⟩)
    (cc_Cloth___str__ : PySem.W.codeIn K cd_Cloth___str__ "Cloth.__str__" = true)
    (k_Cloth___str__ : PySem.W.keepIn K (.ref f_Cloth___str__) = true)
    (l_Cloth_read : K.lookup f_Cloth_read = some ⟨oc_Cloth_read, od_Cloth_read, .func (PySem.W.fnOf "read" "Cloth.read" (defArgs st_Cloth_read) (defBody st_Cloth_read) (defScope st_Cloth_read) .none kV_Cloth_read dc_Cloth_read pm_Cloth_read an_Cloth_read cd_Cloth_read ct_Cloth_read), sl_Cloth_read⟩)
    (cc_Cloth_read : PySem.W.codeIn K cd_Cloth_read "Cloth.read" = true)
    (k_Cloth_read : PySem.W.keepIn K (.ref f_Cloth_read) = true)
    (z_all : PySem.W.nsIn K mainGlobals "all" = some none)
    (z_enumerate : PySem.W.nsIn K mainGlobals "enumerate" = some none)
    (z_int : PySem.W.nsIn K mainGlobals "int" = some none)
    (z_isinstance : PySem.W.nsIn K mainGlobals "isinstance" = some none)
    (z_len : PySem.W.nsIn K mainGlobals "len" = some none)
    (z_list : PySem.W.nsIn K mainGlobals "list" = some none)
    (z_range : PySem.W.nsIn K mainGlobals "range" = some none)
    (z_repr : PySem.W.nsIn K mainGlobals "repr" = some none)
    (z_str : PySem.W.nsIn K mainGlobals "str" = some none)
    (z_sum : PySem.W.nsIn K mainGlobals "sum" = some none)
    (z_tuple : PySem.W.nsIn K mainGlobals "tuple" = some none)
    (iL : PySem.W.isClsIn K c_LoomError = true)
    (tyL : PySem.W.typeIn K (.ref c_LoomError) = some (.type "type"))
    (xL_BadCloth : K.lookup c_BadCloth = some (excClassObj nm_BadCloth qq_BadCloth c_BadCloth NN_BadCloth bs_BadCloth [.ref c_LoomError, .type "Exception", .type "BaseException", .type "object"] true sn_BadCloth sb_BadCloth ab_BadCloth co_BadCloth dd_BadCloth m0_BadCloth m1_BadCloth m2_BadCloth m3_BadCloth m5_BadCloth "Exception.__new__"))
    (sa_BadCloth : PySem.W.findIn K (.ref c_BadCloth) "__setattr__" = some (some (.builtin "object.__setattr__")))
    (ga_BadCloth : PySem.W.findIn K (.ref c_BadCloth) "__getattribute__" = some (some (.builtin "BaseException.__getattribute__")))
    (gg_BadCloth : PySem.W.findIn K (.ref c_BadCloth) "__getattr__" = some none)
    (noN_BadCloth : PySem.W.findIn K (.ref c_BadCloth) "part" = some none)
    (tkr_BadCloth : PySem.W.takerIn K c_BadCloth "part" = some none)
    (iC_BadCloth : PySem.W.findIn K (.ref c_BadCloth) "__init__" = some (some (.ref i_BadCloth)))
    (tI_BadCloth : PySem.W.typeIn K (.ref i_BadCloth) = some (.type "function"))
    (kC_BadCloth : PySem.W.keepIn K (.ref c_BadCloth) = true)
    (exC_BadCloth : PySem.W.subIn K (.ref c_BadCloth) (.type "BaseException") = some true)
    (tyC_BadCloth : PySem.W.typeIn K (.ref c_BadCloth) = some (.type "type"))
    (hdC_BadCloth : PySem.W.hasDictIn K c_BadCloth = true)
    (lI_BadCloth : K.lookup i_BadCloth = some ⟨oi_BadCloth, oe_BadCloth, .func (PySem.W.fnOf "__init__" "BadCloth.__init__" (PySem.XBadCloth.iA u1_BadCloth u2_BadCloth) (PySem.XBadCloth.iB v1_BadCloth v2_BadCloth v3_BadCloth v4_BadCloth) PySem.XBadCloth.iS .none .none di_BadCloth pi_BadCloth ai_BadCloth ci_BadCloth ti_BadCloth), si_BadCloth⟩)
    (cI_BadCloth : PySem.W.codeIn K ci_BadCloth "BadCloth.__init__" = true)
    (ha_BadCloth : PySem.W.findIn K (.ref c_BadCloth) "__class__" = some (some (.builtin "object.__class__")))
    (hn_BadCloth : PySem.W.specialIn K (.builtin "object.__class__") "__get__" = some (some (.builtin "getset_descriptor.__get__")))
    (ht_BadCloth : PySem.W.takesIn K (.builtin "object.__class__") = some true)
    (hm_BadCloth : PySem.W.mroIn K c_BadCloth (.type "object") = some true)
    (sL_BadCloth : PySem.W.subIn K (.ref c_BadCloth) (.ref c_LoomError) = some true)
    (su_BadCloth_BadCloth : PySem.W.subIn K (.ref c_BadCloth) (.ref c_BadCloth) = some true)
    (su_BadCloth_BadText : PySem.W.subIn K (.ref c_BadCloth) (.ref c_BadText) = some false)
    (xL_BadText : K.lookup c_BadText = some (excClassObj nm_BadText qq_BadText c_BadText NN_BadText bs_BadText [.ref c_LoomError, .type "Exception", .type "BaseException", .type "object"] true sn_BadText sb_BadText ab_BadText co_BadText dd_BadText m0_BadText m1_BadText m2_BadText m3_BadText m5_BadText "Exception.__new__"))
    (sa_BadText : PySem.W.findIn K (.ref c_BadText) "__setattr__" = some (some (.builtin "object.__setattr__")))
    (ga_BadText : PySem.W.findIn K (.ref c_BadText) "__getattribute__" = some (some (.builtin "BaseException.__getattribute__")))
    (gg_BadText : PySem.W.findIn K (.ref c_BadText) "__getattr__" = some none)
    (noN_BadText : PySem.W.findIn K (.ref c_BadText) "line" = some none)
    (tkr_BadText : PySem.W.takerIn K c_BadText "line" = some none)
    (iC_BadText : PySem.W.findIn K (.ref c_BadText) "__init__" = some (some (.ref i_BadText)))
    (tI_BadText : PySem.W.typeIn K (.ref i_BadText) = some (.type "function"))
    (kC_BadText : PySem.W.keepIn K (.ref c_BadText) = true)
    (exC_BadText : PySem.W.subIn K (.ref c_BadText) (.type "BaseException") = some true)
    (tyC_BadText : PySem.W.typeIn K (.ref c_BadText) = some (.type "type"))
    (hdC_BadText : PySem.W.hasDictIn K c_BadText = true)
    (lI_BadText : K.lookup i_BadText = some ⟨oi_BadText, oe_BadText, .func (PySem.W.fnOf "__init__" "BadText.__init__" (PySem.XBadText.iA u1_BadText u2_BadText) (PySem.XBadText.iB v1_BadText v2_BadText v3_BadText v4_BadText) PySem.XBadText.iS .none .none di_BadText pi_BadText ai_BadText ci_BadText ti_BadText), si_BadText⟩)
    (cI_BadText : PySem.W.codeIn K ci_BadText "BadText.__init__" = true)
    (ha_BadText : PySem.W.findIn K (.ref c_BadText) "__class__" = some (some (.builtin "object.__class__")))
    (hn_BadText : PySem.W.specialIn K (.builtin "object.__class__") "__get__" = some (some (.builtin "getset_descriptor.__get__")))
    (ht_BadText : PySem.W.takesIn K (.builtin "object.__class__") = some true)
    (hm_BadText : PySem.W.mroIn K c_BadText (.type "object") = some true)
    (sL_BadText : PySem.W.subIn K (.ref c_BadText) (.ref c_LoomError) = some true)
    (su_BadText_BadCloth : PySem.W.subIn K (.ref c_BadText) (.ref c_BadCloth) = some false)
    (su_BadText_BadText : PySem.W.subIn K (.ref c_BadText) (.ref c_BadText) = some true) :
    ∃ fd : FuncData, (∀ (s : Shared) (v : Value), BindsTo s fd ⟨[v], []⟩ [("_law_script", v)]) ∧ ∀ base : Heap, K.In base → base.Ns mainGlobals mg → FnG l.prog w K mg base 8 fa fd ["_law_script"] (spLaw K) := by
  have e := hfa.symm.trans (PySem.W.mg_of X G a_law)
  cases e
  have te_BadCloth := fun (b : Bool) (C : Addr) (h1 : PySem.W.subIn K (.ref C) (.ref c_BadCloth) = some b) => PySem.W.exm_ref (cls := .ref C) exC_BadCloth hdC_BadCloth tyC_BadCloth h1
  obtain ⟨ini_BadCloth, ovr_BadCloth⟩ := ini_of xL_BadCloth
  have te_BadText := fun (b : Bool) (C : Addr) (h1 : PySem.W.subIn K (.ref C) (.ref c_BadText) = some b) => PySem.W.exm_ref (cls := .ref C) exC_BadText hdC_BadText tyC_BadText h1
  obtain ⟨ini_BadText, ovr_BadText⟩ := ini_of xL_BadText
  obtain ⟨cl, e_LoomError, e_BadCloth, e_BadText, e_Cloth⟩ : ∃ cl : String → Addr, cl "LoomError" = c_LoomError ∧ cl "BadCloth" = c_BadCloth ∧ cl "BadText" = c_BadText ∧ cl "Cloth" = c_Cloth := ⟨fun s => if s = "LoomError" then c_LoomError else if s = "BadCloth" then c_BadCloth else if s = "BadText" then c_BadText else if s = "Cloth" then c_Cloth else 0, by simp, by simp, by simp, by simp⟩
  subst e_LoomError e_BadCloth e_BadText e_Cloth
  have T : Txt K cl mg { f_is_string_over := f_is_string_over, fd_is_string_over := PySem.W.fnOf "is_string_over" "is_string_over" (defArgs st_is_string_over) (defBody st_is_string_over) (defScope st_is_string_over) .none kV_is_string_over dc_is_string_over pm_is_string_over an_is_string_over cd_is_string_over ct_is_string_over, f_first_uneven := f_first_uneven, fd_first_uneven := PySem.W.fnOf "first_uneven" "first_uneven" (defArgs st_first_uneven) (defBody st_first_uneven) (defScope st_first_uneven) .none kV_first_uneven dc_first_uneven pm_first_uneven an_first_uneven cd_first_uneven ct_first_uneven, f_lines_of := f_lines_of, fd_lines_of := PySem.W.fnOf "lines_of" "lines_of" (defArgs st_lines_of) (defBody st_lines_of) (defScope st_lines_of) .none kV_lines_of dc_lines_of pm_lines_of an_lines_of cd_lines_of ct_lines_of, f__law_deck := f__law_deck, fd__law_deck := PySem.W.fnOf "_law_deck" "_law_deck" (defArgs st__law_deck) (defBody st__law_deck) (defScope st__law_deck) .none kV__law_deck dc__law_deck pm__law_deck an__law_deck cd__law_deck ct__law_deck, f__law_draw := f__law_draw, fd__law_draw := PySem.W.fnOf "_law_draw" "_law_draw" (defArgs st__law_draw) (defBody st__law_draw) (defScope st__law_draw) .none kV__law_draw dc__law_draw pm__law_draw an__law_draw cd__law_draw ct__law_draw, f__law_pick := f__law_pick, fd__law_pick := PySem.W.fnOf "_law_pick" "_law_pick" (defArgs st__law_pick) (defBody st__law_pick) (defScope st__law_pick) .none kV__law_pick dc__law_pick pm__law_pick an__law_pick cd__law_pick ct__law_pick, f__law_cloth := f__law_cloth, fd__law_cloth := PySem.W.fnOf "_law_cloth" "_law_cloth" (defArgs st__law_cloth) (defBody st__law_cloth) (defScope st__law_cloth) .none kV__law_cloth dc__law_cloth pm__law_cloth an__law_cloth cd__law_cloth ct__law_cloth, f__law_odd := f__law_odd, fd__law_odd := PySem.W.fnOf "_law_odd" "_law_odd" (defArgs st__law_odd) (defBody st__law_odd) (defScope st__law_odd) .none kV__law_odd dc__law_odd pm__law_odd an__law_odd cd__law_odd ct__law_odd, f__law_bent := f__law_bent, fd__law_bent := PySem.W.fnOf "_law_bent" "_law_bent" (defArgs st__law_bent) (defBody st__law_bent) (defScope st__law_bent) .none kV__law_bent dc__law_bent pm__law_bent an__law_bent cd__law_bent ct__law_bent, f__law_page_bent := f__law_page_bent, fd__law_page_bent := PySem.W.fnOf "_law_page_bent" "_law_page_bent" (defArgs st__law_page_bent) (defBody st__law_page_bent) (defScope st__law_page_bent) .none kV__law_page_bent dc__law_page_bent pm__law_page_bent an__law_page_bent cd__law_page_bent ct__law_page_bent, f__law_is_row := f__law_is_row, fd__law_is_row := PySem.W.fnOf "_law_is_row" "_law_is_row" (defArgs st__law_is_row) (defBody st__law_is_row) (defScope st__law_is_row) .none kV__law_is_row dc__law_is_row pm__law_is_row an__law_is_row cd__law_is_row ct__law_is_row, f__law_bad := f__law_bad, fd__law_bad := PySem.W.fnOf "_law_bad" "_law_bad" (defArgs st__law_bad) (defBody st__law_bad) (defScope st__law_bad) .none kV__law_bad dc__law_bad pm__law_bad an__law_bad cd__law_bad ct__law_bad, f__law_built := f__law_built, fd__law_built := PySem.W.fnOf "_law_built" "_law_built" (defArgs st__law_built) (defBody st__law_built) (defScope st__law_built) .none kV__law_built dc__law_built pm__law_built an__law_built cd__law_built ct__law_built, f__law_right := f__law_right, fd__law_right := PySem.W.fnOf "_law_right" "_law_right" (defArgs st__law_right) (defBody st__law_right) (defScope st__law_right) .none kV__law_right dc__law_right pm__law_right an__law_right cd__law_right ct__law_right, f__law_heard := f__law_heard, fd__law_heard := PySem.W.fnOf "_law_heard" "_law_heard" (defArgs st__law_heard) (defBody st__law_heard) (defScope st__law_heard) .none kV__law_heard dc__law_heard pm__law_heard an__law_heard cd__law_heard ct__law_heard, f__law_page_right := f__law_page_right, fd__law_page_right := PySem.W.fnOf "_law_page_right" "_law_page_right" (defArgs st__law_page_right) (defBody st__law_page_right) (defScope st__law_page_right) .none kV__law_page_right dc__law_page_right pm__law_page_right an__law_page_right cd__law_page_right ct__law_page_right, f__law_equals_right := f__law_equals_right, fd__law_equals_right := PySem.W.fnOf "_law_equals_right" "_law_equals_right" (defArgs st__law_equals_right) (defBody st__law_equals_right) (defScope st__law_equals_right) .none kV__law_equals_right dc__law_equals_right pm__law_equals_right an__law_equals_right cd__law_equals_right ct__law_equals_right, f_law := fa, fd_law := PySem.W.fnOf "law" "law" (defArgs st_law) (defBody st_law) (defScope st_law) .none kV_law dc_law pm_law an_law cd_law ct_law, f_Cloth___init__ := f_Cloth___init__, fd_Cloth___init__ := PySem.W.fnOf "__init__" "Cloth.__init__" (defArgs st_Cloth___init__) (defBody st_Cloth___init__) (defScope st_Cloth___init__) .none kV_Cloth___init__ dc_Cloth___init__ pm_Cloth___init__ an_Cloth___init__ cd_Cloth___init__ ct_Cloth___init__, f_Cloth___len__ := f_Cloth___len__, fd_Cloth___len__ := PySem.W.fnOf "__len__" "Cloth.__len__" (defArgs st_Cloth___len__) (defBody st_Cloth___len__) (defScope st_Cloth___len__) .none kV_Cloth___len__ dc_Cloth___len__ pm_Cloth___len__ an_Cloth___len__ cd_Cloth___len__ ct_Cloth___len__, f_Cloth___eq__ := f_Cloth___eq__, fd_Cloth___eq__ := PySem.W.fnOf "__eq__" "Cloth.__eq__" (defArgs st_Cloth___eq__) (defBody st_Cloth___eq__) (defScope st_Cloth___eq__) .none kV_Cloth___eq__ dc_Cloth___eq__ pm_Cloth___eq__ an_Cloth___eq__ cd_Cloth___eq__ ct_Cloth___eq__, f_Cloth___str__ := f_Cloth___str__, fd_Cloth___str__ := PySem.W.fnOf "__str__" "Cloth.__str__" (defArgs st_Cloth___str__) (defBody st_Cloth___str__) (defScope st_Cloth___str__) .none kV_Cloth___str__ dc_Cloth___str__ pm_Cloth___str__ an_Cloth___str__ cd_Cloth___str__ ct_Cloth___str__, f_Cloth_read := f_Cloth_read, fd_Cloth_read := PySem.W.fnOf "read" "Cloth.read" (defArgs st_Cloth_read) (defBody st_Cloth_read) (defScope st_Cloth_read) .none kV_Cloth_read dc_Cloth_read pm_Cloth_read an_Cloth_read cd_Cloth_read ct_Cloth_read, mc_Cloth := .type "type", p_Cloth_read := p_Cloth_read, i_BadCloth := i_BadCloth, i_BadText := i_BadText, t_SIGNS := t_SIGNS } := {
    F_is_string_over := fun_mk (st := st_is_string_over) l_is_string_over cc_is_string_over k_is_string_over,
    m_is_string_over := PySem.W.mg_of X G a_is_string_over,
    F_first_uneven := fun_mk (st := st_first_uneven) l_first_uneven cc_first_uneven k_first_uneven,
    m_first_uneven := PySem.W.mg_of X G a_first_uneven,
    F_lines_of := fun_mk (st := st_lines_of) l_lines_of cc_lines_of k_lines_of,
    m_lines_of := PySem.W.mg_of X G a_lines_of,
    F__law_deck := fun_mk (st := st__law_deck) l__law_deck cc__law_deck k__law_deck,
    m__law_deck := PySem.W.mg_of X G a__law_deck,
    F__law_draw := fun_mk (st := st__law_draw) l__law_draw cc__law_draw k__law_draw,
    m__law_draw := PySem.W.mg_of X G a__law_draw,
    F__law_pick := fun_mk (st := st__law_pick) l__law_pick cc__law_pick k__law_pick,
    m__law_pick := PySem.W.mg_of X G a__law_pick,
    F__law_cloth := fun_mk (st := st__law_cloth) l__law_cloth cc__law_cloth k__law_cloth,
    m__law_cloth := PySem.W.mg_of X G a__law_cloth,
    F__law_odd := fun_mk (st := st__law_odd) l__law_odd cc__law_odd k__law_odd,
    m__law_odd := PySem.W.mg_of X G a__law_odd,
    F__law_bent := fun_mk (st := st__law_bent) l__law_bent cc__law_bent k__law_bent,
    m__law_bent := PySem.W.mg_of X G a__law_bent,
    F__law_page_bent := fun_mk (st := st__law_page_bent) l__law_page_bent cc__law_page_bent k__law_page_bent,
    m__law_page_bent := PySem.W.mg_of X G a__law_page_bent,
    F__law_is_row := fun_mk (st := st__law_is_row) l__law_is_row cc__law_is_row k__law_is_row,
    m__law_is_row := PySem.W.mg_of X G a__law_is_row,
    F__law_bad := fun_mk (st := st__law_bad) l__law_bad cc__law_bad k__law_bad,
    m__law_bad := PySem.W.mg_of X G a__law_bad,
    F__law_built := fun_mk (st := st__law_built) l__law_built cc__law_built k__law_built,
    m__law_built := PySem.W.mg_of X G a__law_built,
    F__law_right := fun_mk (st := st__law_right) l__law_right cc__law_right k__law_right,
    m__law_right := PySem.W.mg_of X G a__law_right,
    F__law_heard := fun_mk (st := st__law_heard) l__law_heard cc__law_heard k__law_heard,
    m__law_heard := PySem.W.mg_of X G a__law_heard,
    F__law_page_right := fun_mk (st := st__law_page_right) l__law_page_right cc__law_page_right k__law_page_right,
    m__law_page_right := PySem.W.mg_of X G a__law_page_right,
    F__law_equals_right := fun_mk (st := st__law_equals_right) l__law_equals_right cc__law_equals_right k__law_equals_right,
    m__law_equals_right := PySem.W.mg_of X G a__law_equals_right,
    F_law := fun_mk (st := st_law) l_law cc_law k_law,
    m_law := PySem.W.mg_of X G a_law,
    F_Cloth___init__ := fun_mk (st := st_Cloth___init__) l_Cloth___init__ cc_Cloth___init__ k_Cloth___init__,
    F_Cloth___len__ := fun_mk (st := st_Cloth___len__) l_Cloth___len__ cc_Cloth___len__ k_Cloth___len__,
    F_Cloth___eq__ := fun_mk (st := st_Cloth___eq__) l_Cloth___eq__ cc_Cloth___eq__ k_Cloth___eq__,
    F_Cloth___str__ := fun_mk (st := st_Cloth___str__) l_Cloth___str__ cc_Cloth___str__ k_Cloth___str__,
    F_Cloth_read := fun_mk (st := st_Cloth_read) l_Cloth_read cc_Cloth_read k_Cloth_read,
    n_all := PySem.W.mg_none_of X G z_all,
    n_enumerate := PySem.W.mg_none_of X G z_enumerate,
    n_int := PySem.W.mg_none_of X G z_int,
    n_isinstance := PySem.W.mg_none_of X G z_isinstance,
    n_len := PySem.W.mg_none_of X G z_len,
    n_list := PySem.W.mg_none_of X G z_list,
    n_range := PySem.W.mg_none_of X G z_range,
    n_repr := PySem.W.mg_none_of X G z_repr,
    n_str := PySem.W.mg_none_of X G z_str,
    n_sum := PySem.W.mg_none_of X G z_sum,
    n_tuple := PySem.W.mg_none_of X G z_tuple,
    c_SIGNS := PySem.W.mg_of X G a_SIGNS,
    g_LoomError := PySem.W.mg_of X G g_LoomError,
    g_BadCloth := PySem.W.mg_of X G g_BadCloth,
    x_BadCloth := { gC := PySem.W.mg_of X G g_BadCloth, ini := ini_BadCloth, ovr := ovr_BadCloth, sa := sa_BadCloth, ga := ga_BadCloth, gg := gg_BadCloth, noN := noN_BadCloth, tkr := tkr_BadCloth, iC := iC_BadCloth, tI := tI_BadCloth, kC := kC_BadCloth, exC := exC_BadCloth, tyC := tyC_BadCloth, hdC := hdC_BadCloth, fn := ⟨_, _, _, _, _, _, _, _, _, _, _, _, _, _, lI_BadCloth, cI_BadCloth⟩ },
    e_BadCloth := ⟨ga_BadCloth, gg_BadCloth, exC_BadCloth, hdC_BadCloth, ha_BadCloth, hn_BadCloth, ht_BadCloth, hm_BadCloth⟩,
    ki_BadCloth := kit_of2 iL tyL sL_BadCloth,
    te_BadCloth_BadCloth := te_BadCloth _ _ su_BadCloth_BadCloth,
    te_BadCloth_BadText := te_BadText _ _ su_BadCloth_BadText,
    g_BadText := PySem.W.mg_of X G g_BadText,
    x_BadText := { gC := PySem.W.mg_of X G g_BadText, ini := ini_BadText, ovr := ovr_BadText, sa := sa_BadText, ga := ga_BadText, gg := gg_BadText, noN := noN_BadText, tkr := tkr_BadText, iC := iC_BadText, tI := tI_BadText, kC := kC_BadText, exC := exC_BadText, tyC := tyC_BadText, hdC := hdC_BadText, fn := ⟨_, _, _, _, _, _, _, _, _, _, _, _, _, _, lI_BadText, cI_BadText⟩ },
    e_BadText := ⟨ga_BadText, gg_BadText, exC_BadText, hdC_BadText, ha_BadText, hn_BadText, ht_BadText, hm_BadText⟩,
    ki_BadText := kit_of2 iL tyL sL_BadText,
    te_BadText_BadCloth := te_BadCloth _ _ su_BadText_BadCloth,
    te_BadText_BadText := te_BadText _ _ su_BadText_BadText,
    g_Cloth := PySem.W.mg_of X G g_Cloth,
    oc_Cloth := { cl := ⟨pg_Cloth, hd_Cloth, po_Cloth, sa_Cloth⟩, c1 := o1_Cloth, c2 := o2_Cloth, c3 := o3_Cloth, c4 := o4_Cloth, ty := ty_Cloth, self := se_Cloth, nb := (fun T hT => by
      simp only [List.mem_cons, List.mem_nil_iff, or_false] at hT
      rcases hT with rfl | rfl | rfl | rfl | rfl | rfl
      · exact nb_Cloth_bool
      · exact nb_Cloth_int
      · exact nb_Cloth_str
      · exact nb_Cloth_tuple
      · exact nb_Cloth_list
      · exact nb_Cloth_dict) },
    mk_Cloth := ⟨mk1_Cloth, mk2_Cloth, mk3_Cloth, mk4_Cloth⟩,
    na_Cloth_picks := na_Cloth_picks,
    na_Cloth_ends := na_Cloth_ends,
    s_Cloth___len__ := s_Cloth___len__,
    fn_Cloth___len__ := fn_Cloth___len__,
    s_Cloth___eq__ := s_Cloth___eq__,
    fn_Cloth___eq__ := fn_Cloth___eq__,
    s_Cloth___str__ := s_Cloth___str__,
    fn_Cloth___str__ := fn_Cloth___str__,
    cm_Cloth_read := ⟨cm1_Cloth_read, ⟨_, cm2_Cloth_read⟩, cm3_Cloth_read⟩,
    cr_Cloth := ⟨cr1_Cloth, cr2_Cloth⟩,
    ne_Cloth := ne_Cloth,
    so_Cloth := so_Cloth }
  exact ⟨PySem.W.fnOf "law" "law" (defArgs st_law) (defBody st_law) (defScope st_law) .none kV_law dc_law pm_law an_law cd_law ct_law, fun s v => .of_eq rfl, fun base _ _ => ok_law T law_true⟩
end C03
open PySem PySem.W PyProof.Rows in
set_option maxRecDepth 100000 in
set_option maxHeartbeats 0 in
theorem PySem.Challenge.cw_loomhold_k03_cloths_of_any_value_and_tex_holds : PySem.Challenge.rw_loomhold_k03_cloths_of_any_value_and_tex.Holds := by
  w_on; o_law; k_head; (case hw => w_witness2)
  k_fill
  refine DL.walk (l := PySem.Challenge.rw_loomhold_k03_cloths_of_any_value_and_tex) (k := 8) (by decide) (by decide) rfl rfl (fun w h Y => PySem.W.kIn_of Y) ?F
  case F =>
    intro w mg fa h KX G hmg
    refine' C03.all_mk KX G hmg ?g_LoomError ?g_BadCloth ?g_BadText ?g_Cloth ?a_SIGNS ?pg_Cloth ?hd_Cloth ?po_Cloth ?sa_Cloth ?o1_Cloth ?o2_Cloth ?o3_Cloth ?o4_Cloth ?ty_Cloth ?se_Cloth ?nb_Cloth_bool ?nb_Cloth_int ?nb_Cloth_str ?nb_Cloth_tuple ?nb_Cloth_list ?nb_Cloth_dict ?mk1_Cloth ?mk2_Cloth ?mk3_Cloth ?mk4_Cloth ?na_Cloth_picks ?na_Cloth_ends ?s_Cloth___len__ ?fn_Cloth___len__ ?s_Cloth___eq__ ?fn_Cloth___eq__ ?s_Cloth___str__ ?fn_Cloth___str__ ?cm1_Cloth_read ?cm2_Cloth_read ?cm3_Cloth_read ?cr1_Cloth ?cr2_Cloth ?ne_Cloth ?so_Cloth ?a_is_string_over ?l_is_string_over ?cc_is_string_over ?k_is_string_over ?a_first_uneven ?l_first_uneven ?cc_first_uneven ?k_first_uneven ?a_lines_of ?l_lines_of ?cc_lines_of ?k_lines_of ?a__law_deck ?l__law_deck ?cc__law_deck ?k__law_deck ?a__law_draw ?l__law_draw ?cc__law_draw ?k__law_draw ?a__law_pick ?l__law_pick ?cc__law_pick ?k__law_pick ?a__law_cloth ?l__law_cloth ?cc__law_cloth ?k__law_cloth ?a__law_odd ?l__law_odd ?cc__law_odd ?k__law_odd ?a__law_bent ?l__law_bent ?cc__law_bent ?k__law_bent ?a__law_page_bent ?l__law_page_bent ?cc__law_page_bent ?k__law_page_bent ?a__law_is_row ?l__law_is_row ?cc__law_is_row ?k__law_is_row ?a__law_bad ?l__law_bad ?cc__law_bad ?k__law_bad ?a__law_built ?l__law_built ?cc__law_built ?k__law_built ?a__law_right ?l__law_right ?cc__law_right ?k__law_right ?a__law_heard ?l__law_heard ?cc__law_heard ?k__law_heard ?a__law_page_right ?l__law_page_right ?cc__law_page_right ?k__law_page_right ?a__law_equals_right ?l__law_equals_right ?cc__law_equals_right ?k__law_equals_right ?a_law ?l_law ?cc_law ?k_law ?l_Cloth___init__ ?cc_Cloth___init__ ?k_Cloth___init__ ?l_Cloth___len__ ?cc_Cloth___len__ ?k_Cloth___len__ ?l_Cloth___eq__ ?cc_Cloth___eq__ ?k_Cloth___eq__ ?l_Cloth___str__ ?cc_Cloth___str__ ?k_Cloth___str__ ?l_Cloth_read ?cc_Cloth_read ?k_Cloth_read ?z_all ?z_enumerate ?z_int ?z_isinstance ?z_len ?z_list ?z_range ?z_repr ?z_str ?z_sum ?z_tuple ?iL ?tyL ?xL_BadCloth ?sa_BadCloth ?ga_BadCloth ?gg_BadCloth ?noN_BadCloth ?tkr_BadCloth ?iC_BadCloth ?tI_BadCloth ?kC_BadCloth ?exC_BadCloth ?tyC_BadCloth ?hdC_BadCloth ?lI_BadCloth ?cI_BadCloth ?ha_BadCloth ?hn_BadCloth ?ht_BadCloth ?hm_BadCloth ?sL_BadCloth ?su_BadCloth_BadCloth ?su_BadCloth_BadText ?xL_BadText ?sa_BadText ?ga_BadText ?gg_BadText ?noN_BadText ?tkr_BadText ?iC_BadText ?tI_BadText ?kC_BadText ?exC_BadText ?tyC_BadText ?hdC_BadText ?lI_BadText ?cI_BadText ?ha_BadText ?hn_BadText ?ht_BadText ?hm_BadText ?sL_BadText ?su_BadText_BadCloth ?su_BadText_BadText
    (case g_LoomError => k_is)
    (case g_BadCloth => k_is)
    (case g_BadText => k_is)
    (case g_Cloth => k_is)
    (case a_SIGNS => k_is)
    (case pg_Cloth => k_is)
    (case hd_Cloth => k_is)
    (case po_Cloth => k_is)
    (case sa_Cloth => k_is)
    (case o1_Cloth => k_is)
    (case o2_Cloth => k_is)
    (case o3_Cloth => k_is)
    (case o4_Cloth => k_is)
    (case ty_Cloth => k_is)
    (case se_Cloth => k_is)
    (case nb_Cloth_bool => k_is)
    (case nb_Cloth_int => k_is)
    (case nb_Cloth_str => k_is)
    (case nb_Cloth_tuple => k_is)
    (case nb_Cloth_list => k_is)
    (case nb_Cloth_dict => k_is)
    (case mk1_Cloth => k_is)
    (case mk2_Cloth => k_is)
    (case mk3_Cloth => k_is)
    (case mk4_Cloth => k_is)
    (case na_Cloth_picks => k_is)
    (case na_Cloth_ends => k_is)
    (case s_Cloth___len__ => k_is)
    (case fn_Cloth___len__ => k_is)
    (case s_Cloth___eq__ => k_is)
    (case fn_Cloth___eq__ => k_is)
    (case s_Cloth___str__ => k_is)
    (case fn_Cloth___str__ => k_is)
    (case cm1_Cloth_read => k_is)
    (case cm2_Cloth_read => k_is)
    (case cm3_Cloth_read => k_is)
    (case cr1_Cloth => k_is)
    (case cr2_Cloth => k_is)
    (case ne_Cloth => k_is)
    (case so_Cloth => k_is)
    (case a_is_string_over => k_is)
    (case l_is_string_over => k_is)
    (case cc_is_string_over => k_is)
    (case k_is_string_over => k_is)
    (case a_first_uneven => k_is)
    (case l_first_uneven => k_is)
    (case cc_first_uneven => k_is)
    (case k_first_uneven => k_is)
    (case a_lines_of => k_is)
    (case l_lines_of => k_is)
    (case cc_lines_of => k_is)
    (case k_lines_of => k_is)
    (case a__law_deck => k_is)
    (case l__law_deck => k_is)
    (case cc__law_deck => k_is)
    (case k__law_deck => k_is)
    (case a__law_draw => k_is)
    (case l__law_draw => k_is)
    (case cc__law_draw => k_is)
    (case k__law_draw => k_is)
    (case a__law_pick => k_is)
    (case l__law_pick => k_is)
    (case cc__law_pick => k_is)
    (case k__law_pick => k_is)
    (case a__law_cloth => k_is)
    (case l__law_cloth => k_is)
    (case cc__law_cloth => k_is)
    (case k__law_cloth => k_is)
    (case a__law_odd => k_is)
    (case l__law_odd => k_is)
    (case cc__law_odd => k_is)
    (case k__law_odd => k_is)
    (case a__law_bent => k_is)
    (case l__law_bent => k_is)
    (case cc__law_bent => k_is)
    (case k__law_bent => k_is)
    (case a__law_page_bent => k_is)
    (case l__law_page_bent => k_is)
    (case cc__law_page_bent => k_is)
    (case k__law_page_bent => k_is)
    (case a__law_is_row => k_is)
    (case l__law_is_row => k_is)
    (case cc__law_is_row => k_is)
    (case k__law_is_row => k_is)
    (case a__law_bad => k_is)
    (case l__law_bad => k_is)
    (case cc__law_bad => k_is)
    (case k__law_bad => k_is)
    (case a__law_built => k_is)
    (case l__law_built => k_is)
    (case cc__law_built => k_is)
    (case k__law_built => k_is)
    (case a__law_right => k_is)
    (case l__law_right => k_is)
    (case cc__law_right => k_is)
    (case k__law_right => k_is)
    (case a__law_heard => k_is)
    (case l__law_heard => k_is)
    (case cc__law_heard => k_is)
    (case k__law_heard => k_is)
    (case a__law_page_right => k_is)
    (case l__law_page_right => k_is)
    (case cc__law_page_right => k_is)
    (case k__law_page_right => k_is)
    (case a__law_equals_right => k_is)
    (case l__law_equals_right => k_is)
    (case cc__law_equals_right => k_is)
    (case k__law_equals_right => k_is)
    (case a_law => k_is)
    (case l_law => k_is)
    (case cc_law => k_is)
    (case k_law => k_is)
    (case l_Cloth___init__ => k_is)
    (case cc_Cloth___init__ => k_is)
    (case k_Cloth___init__ => k_is)
    (case l_Cloth___len__ => k_is)
    (case cc_Cloth___len__ => k_is)
    (case k_Cloth___len__ => k_is)
    (case l_Cloth___eq__ => k_is)
    (case cc_Cloth___eq__ => k_is)
    (case k_Cloth___eq__ => k_is)
    (case l_Cloth___str__ => k_is)
    (case cc_Cloth___str__ => k_is)
    (case k_Cloth___str__ => k_is)
    (case l_Cloth_read => k_is)
    (case cc_Cloth_read => k_is)
    (case k_Cloth_read => k_is)
    (case z_all => k_is)
    (case z_enumerate => k_is)
    (case z_int => k_is)
    (case z_isinstance => k_is)
    (case z_len => k_is)
    (case z_list => k_is)
    (case z_range => k_is)
    (case z_repr => k_is)
    (case z_str => k_is)
    (case z_sum => k_is)
    (case z_tuple => k_is)
    (case iL => k_is)
    (case tyL => k_is)
    (case xL_BadCloth => k_is)
    (case sa_BadCloth => k_is)
    (case ga_BadCloth => k_is)
    (case gg_BadCloth => k_is)
    (case noN_BadCloth => k_is)
    (case tkr_BadCloth => k_is)
    (case iC_BadCloth => k_is)
    (case tI_BadCloth => k_is)
    (case kC_BadCloth => k_is)
    (case exC_BadCloth => k_is)
    (case tyC_BadCloth => k_is)
    (case hdC_BadCloth => k_is)
    (case lI_BadCloth => k_is)
    (case cI_BadCloth => k_is)
    (case ha_BadCloth => k_is)
    (case hn_BadCloth => k_is)
    (case ht_BadCloth => k_is)
    (case hm_BadCloth => k_is)
    (case sL_BadCloth => k_is)
    (case su_BadCloth_BadCloth => k_is)
    (case su_BadCloth_BadText => k_is)
    (case xL_BadText => k_is)
    (case sa_BadText => k_is)
    (case ga_BadText => k_is)
    (case gg_BadText => k_is)
    (case noN_BadText => k_is)
    (case tkr_BadText => k_is)
    (case iC_BadText => k_is)
    (case tI_BadText => k_is)
    (case kC_BadText => k_is)
    (case exC_BadText => k_is)
    (case tyC_BadText => k_is)
    (case hdC_BadText => k_is)
    (case lI_BadText => k_is)
    (case cI_BadText => k_is)
    (case ha_BadText => k_is)
    (case hn_BadText => k_is)
    (case ht_BadText => k_is)
    (case hm_BadText => k_is)
    (case sL_BadText => k_is)
    (case su_BadText_BadCloth => k_is)
    (case su_BadText_BadText => k_is)
