import PyProof.Rows.All
import Wide.All
import OpenK.AllK
import Wide.FinOn
import HandS.ForMost
import HandS.ForExc
import HandS.ExcInit
import HandS.ExcField
import KE.KExcInit
import HandS.Walk
import KE.GoesMore
import HandS.ExcIs
import HandS.SetFor
import HandS.IsInst
import HandS.OwnEq
import HandS.Words
import KE.KCallOwn
import PyProof.StrLawsRepr
import HandS.ClsMeth
import KE.GoesEnumKw
import HandS.ReplaceLit
import HandS.ReplaceList
import PyProof.StrBlock2
import HandS.Style
import HandS.Flow
import HandS.TupAny
import HandS.Deep
import HandS.Text
import HandS.Star
import PyProof.Rows.ReprOcc
import PyProof.StrLawsChain
import HandS.RaiseMore
import HandS.Zip
import HandS.Conv
import HandS.TupMul
import PyProof.Rows.IntBool
import PyProof.ReprLen
import KE.KStrOpen
import HandS.Replace
import HandS.ListItems
import KE.KEqDict
import HandS.DictEq
import HandS.Strs
import PyProof.Rows.SetFrom
import PyProof.NeKinds
import PySem.Challenge.RW_loomhold_k01_looms_of_any_value
set_option Elab.async false
set_option linter.all false
set_option maxRecDepth 100000
set_option maxHeartbeats 4000000
/-! own exceptions over Exception (with own classes between), with one field stored by __init__ -/
namespace PySem
namespace Lw
open PySem.W PySem.Calls PyProof.Rows PySem.HandSPX Builtin Builtin.ObjectAttr
abbrev exTail : List Value := [.type "Exception", .type "BaseException", .type "object"]
section
variable {prog : Program} {w : World} {A : Around} {R : Result → Shared → Prop}
/-- the first store into such an exception: its dict is made -/
theorem store_first {K : Frag} {hp : Heap} {g : Array GenState} {dr : Drawn} {t : Nat} {os : OsState} {fld : Str} {tk : Tok} {v : Value} {x C : Addr} {t0 : Addr}
    (X : K.In hp) (ho : excOver K C exTail = true) (hh : hasDictIn K C = true) (ht : takerIn K C fld = some none)
    (hx : hp.get? x = some (excO C t0))
    (hq : ∀ h' tk' dx, (∀ b o, b ≠ x → hp.get? b = some o → h'.get? b = some o) → hp.objs.size ≤ dx → dx ≠ x →
      h'.get? x = some { cls := .ref C, dict := some dx, data := .fields #[.ref t0, .none, .none, .none, .bool false, .none] } →
      h'.Ns1 dx (fun y => if y = fld then some v else none) → R (.ok (.ret .none)) ⟨h', g, dr, tk', os⟩) :
    codeAny (model prog w) A (.call (.builtin "object.__setattr__") ⟨[.ref x, .str fld tk, v], []⟩) R ⟨hp, g, dr, t, os⟩ := by
  have hxs : x ≠ hp.objs.size := Nat.ne_of_lt (Heap.lt_size hx)
  refine osa_openX (s := ⟨hp, g, dr, t, os⟩) (od := none) PySem.F.store_Exception X ⟨hx, rfl, rfl, trivial⟩ ho ht fun b => ?_
  obtain ⟨cd, hc, hd'⟩ := any_some hh
  refine wpAny_bind (wpAny_pure (wpAny_bind (instanceDict_exc hx (looks_clsIn X hc) hd' ?_)))
  show wpAny _ _ (storeInDict hp.objs.size (.str fld tk) fld v) _ _ _
  refine store_in_new ?_ ?_
  · exact ⟨_, #[], _, (Heap.get?_update_ne _ _ _ _ hxs.symm).trans (Heap.get?_push_at rfl rfl), rfl, fun e he => absurd he (by simp), fun _ => rfl⟩
  · intro h' tk' hn' hs
    have hx1 : (hp.push (dictOf [] 0)).get? x = some (excO C t0) := Heap.get?_push_of_some _ hx
    refine hq h' tk' hp.objs.size (fun b o hb hob => ?_) (Nat.le_refl _) hxs.symm ?_ hn'
    · exact (hs.2 b (Nat.ne_of_lt (Heap.lt_size hob))).trans ((Heap.get?_update_ne _ _ _ _ hb).trans (Heap.get?_push_of_some _ hob))
    · exact (hs.2 x hxs).trans (Heap.get?_update_self _ hx1 rfl)
end

theorem one_size (v : Value) : [v].length ≤ sizeLine := by
  rw [sizeLine_eq]
  exact (by decide : 1 ≤ 16777216)
theorem ldC {M : Model} {A : Around} {E : Value → Shared → Prop} {s : Shared} {name : Str} {scope : Scope} {L a : Addr} {cd : Value} {m : Str → Option Value} {x : Str} {pos : Pos} {v : Value} {Q : Value → Shared → Prop} (hn : s.heap.Ns L m) (hv : m x = some v) (h : Q v s)
    (hk : scope.kind = .function := by rfl) (hl : (envOfC name scope L a cd).kindOf x = some .local := by rfl) (hd : (x == ("__debug__" : Str)) = false := by decide) :
    wpAny M A (eval (.Name x pos) (envOfC name scope L a cd)) Q E s := wpAny_Name (wpAny_loadName_local hk hl hn hv h) hd
/-- what __init__ leaves of a fresh exception at x -/
structure InitEnd (fld : Str) (h h' : Heap) (x C dx t1 : Addr) (v : Value) : Prop where
  keep : ∀ b o, b ≠ x → h.get? b = some o → h'.get? b = some o
  obj : h'.get? x = some { cls := .ref C, dict := some dx, data := .fields #[.ref t1, .none, .none, .none, .bool false, .none] }
  dbig : h.objs.size ≤ dx
  dne : dx ≠ x
  ns : h'.Ns1 dx (fun y => if y = fld then some v else none)
/-- a made one -/
structure OwnMade (fld : Str) (h h' : Heap) (e C d : Addr) (v : Value) : Prop where
  keep : ∀ b o, h.get? b = some o → h'.get? b = some o
  new : h.objs.size ≤ e
  obj : ∃ t1 : Addr, h'.get? e = some { cls := .ref C, dict := some d, data := .fields #[.ref t1, .none, .none, .none, .bool false, .none] }
  dbig : h.objs.size ≤ d
  dne : d ≠ e
  ns : h'.Ns1 d (fun y => if y = fld then some v else none)
theorem OwnMade.of {fld : Str} {hp h' : Heap} {C dx t1 : Addr} {v : Value} {o1 o2 : Obj} (I : InitEnd fld ((hp.push o1).push o2) h' (hp.objs.size + 1) C dx t1 v)
    (k : ∀ b o, hp.get? b = some o → ((hp.push o1).push o2).get? b = some o) : OwnMade fld hp h' (hp.objs.size + 1) C dx v := by
  obtain ⟨k', hx, dn, dne, hns⟩ := I
  have old : ∀ b o, hp.get? b = some o → h'.get? b = some o := fun b o e => k' b o (Nat.ne_of_lt (Nat.lt_succ_of_lt (Heap.lt_size e))) (k b o e)
  have z : hp.objs.size + 1 + 1 ≤ dx := by
    have q := dn
    rw [Heap.size_push, Heap.size_push] at q
    exact q
  exact ⟨old, Nat.le_succ _, ⟨_, hx⟩, Nat.le_trans (Nat.le_trans (Nat.le_succ _) (Nat.le_succ _)) z, dne, hns⟩
end Lw
end PySem
namespace L2
open PySem PySem.Spec PyProof.Rows
theorem relO_one {fld : Str} {v : V} {v' : Value} (r : RelV v v') (f : Str) : RelO (List.lookup f [(fld, v)]) (if f = fld then some v' else none) := by
  by_cases hw : f = fld
  · subst hw
    rw [if_pos rfl]
    have q : List.lookup f [(f, v)] = some v := by simp [List.lookup]
    rw [q]
    exact r
  · rw [if_neg hw]
    have qw : (f == fld) = false := by simpa using hw
    have q2 : List.lookup f [(fld, v)] = none := by simp [List.lookup, qw]
    rw [q2]
    trivial
/-- C(e), e one argument kept as fld -/
def tMk1 (fld : Str) (C : Addr) (ta : TA) : St → Hp → XK → Prop := fun σ H Q => ta σ H fun vs H1 => ∃ v, vs = [v] ∧ ∀ d, H1 d = none → Q (.ref C) (some d) (upd H1 d (.xd [(fld, v)]))
def tRaise1 (fld : Str) (C : Addr) (W : WX) (ta : TA) : TS := fun _ σ H => tMk1 fld C ta σ H fun cls d H' => W cls d σ H'
theorem mk1_of {X : Cx} {C : Addr} {fld : Str} {pins : List (Addr × Obj)} {σ : St} {H1 : Hp} {Q : XK} {hp h' : Heap} {g : Array GenState} {dr : Drawn} {tk tk' : Nat} {os : OsState} {e d : Addr} {v : V} {v' : Value}
    (I1 : Inv X pins σ H1 ⟨hp, g, dr, tk, os⟩) (hR : Raises X (.ref C)) (rv : RelV v v') (M : PySem.Lw.OwnMade fld hp h' e C d v') (q1 : ∀ d, H1 d = none → Q (.ref C) (some d) (upd H1 d (.xd [(fld, v)]))) :
    MkP X pins σ Q (.ref e) ⟨h', g, dr, tk', os⟩ := by
  obtain ⟨t1, hoe⟩ := M.obj
  have hns := M.ns
  obtain ⟨G', g1, g2⟩ := restrict h' fun b => decide (b ≠ e)
  have gk : ∀ b, b ≠ e → G'.get? b = h'.get? b := fun b hb => g1 b (decide_eq_true hb)
  have ge : G'.get? e = none := g2 e (by simp)
  have old : ∀ b o, hp.get? b = some o → G'.get? b = some o := fun b o q => (gk b (Nat.ne_of_lt (Nat.lt_of_lt_of_le (Heap.lt_size q) M.new))).trans (M.keep b o q)
  have ob : ObjOk X.prog X.w (upd H1 d (.xd [(fld, v)])) G' d (.xd [(fld, v)]) :=
    ⟨_, hns.at (fun o q => (gk d M.dne).trans q), fun f => relO_one rv f⟩
  have J : Inv X pins σ (upd H1 d (.xd [(fld, v)])) ⟨G', g, dr, tk', os⟩ := I1.laid (t' := tk') old M.dbig ob
  refine ⟨e, _, _, ⟨G', g, dr, tk', os⟩, _, .ref C, some d, rfl, J, fun b o q => ?_, ge, hoe, ⟨rfl, rfl⟩, rfl, rfl, ?_, rfl, I1.bare, hR, q1 d (I1.hok.fresh M.dbig)⟩
  · by_cases hb : b = e
    · have q' : G'.get? b = some o := q
      rw [hb, ge] at q'; cases q'
    · exact (gk b hb).symm.trans q
  · rw [upd_ne (Ne.symm M.dne)]
    exact I1.hok.fresh M.new
end L2
set_option Elab.async false
set_option linter.all false
set_option maxRecDepth 100000
set_option maxHeartbeats 4000000
/-! promises of defs that are called where no repr is under way (guards = some []) -/
namespace L2
open PySem PySem.Spec PyProof.Rows

/-- a promise: as the layer's, but told of calls within no guard; an exception lies as L2.CX says -/
structure FnG (P : Program) (w : World) (K : PySem.W.Frag) (mg : Str → Option Value) (base : Heap) (k : Nat) (f : Addr) (fd : FuncData) (ps : List Str) (sp : Sp) : Prop where
  arity : ∀ vs H Q E, sp vs H Q E → vs.length = ps.length
  runs : ∀ (A : Around) (outer : List Env) (s : Shared) (H : Hp) (args : Args) (us : List Value) (vs : List V) (Q : VK) (E : XK), Room k A → A.guards = some [] → Env0 P w K mg base A outer s H →
    BindsTo s fd args (ps.zip us) → Vals vs us → sp vs H Q E → codeAny (model P w) A (.call (.ref f) args) (CR (L2.CX P w) outer P w H s Q E) s
theorem FnG.up {P : Program} {w : World} {K : PySem.W.Frag} {mg : Str → Option Value} {base : Heap} {j k : Nat} {f : Addr} {fd : FuncData} {ps : List Str} {sp : Sp} (F : FnG P w K mg base j f fd ps sp) (h : j ≤ k) :
    FnG P w K mg base k f fd ps sp := ⟨F.arity, fun A o s H a us vs Q E r => F.runs A o s H a us vs Q E (r.mono h)⟩
theorem FnG.imp {P : Program} {w : World} {K : PySem.W.Frag} {mg : Str → Option Value} {base : Heap} {k : Nat} {f : Addr} {fd : FuncData} {ps : List Str} {sp sp' : Sp} (F : FnG P w K mg base k f fd ps sp)
    (h : ∀ vs H Q E, sp' vs H Q E → sp vs H Q E) : FnG P w K mg base k f fd ps sp' :=
  ⟨fun vs H Q E q => F.arity vs H Q E (h _ _ _ _ q), fun A o s H a us vs Q E r g e b v q => F.runs A o s H a us vs Q E r g e b v (h _ _ _ _ q)⟩

section
variable {X : Cx} {k : Nat} {f C : Addr} {fd : FuncData} {ps ks : List Str} {sp : Sp} {dvs : List V} {ds : List Value} {E : St → XK} {x m : Str} {p pos apos : Pos} {e o : Expr} {es : List Expr} {kws : List Keyword} {ta : TE} {t tk : TA}

/-- the callee runs, by any arguments that bind -/
theorem runG {pins : List (Addr × Obj)} {σ : St} {H : Hp} {s : Shared} {Q : VK} {args : Args} {us : List Value} {vs : List V} (F : FnG X.prog X.w X.K X.mg X.base k f fd ps sp) (hr : Room k X.A) (hgd : X.A.guards = some [])
    (hx : PassesAt (L2.CX X.prog X.w) X σ (E σ)) (I : Inv X pins σ H s) (hb : BindsTo s fd args (ps.zip us)) (r : Vals vs us) (h : sp vs H Q (E σ)) :
    codeAny (model X.prog X.w) X.A (.call (.ref f) args) (fun r s' => match r with | .ok (.ret v) => EP X pins σ Q v s' | .ok _ => False | .error e => X.xe e s') s := by
  refine codeAny_mono (F.runs X.A X.stack s H args us vs Q (E σ) hr hgd I.env0 hb r h) fun r s' q => ?_
  rcases r with e | (_ | _ | _ | u)
  · exact hx pins H s e s' I q
  · exact False.elim q
  · exact False.elim q
  · exact False.elim q
  · exact I.after q

/-- f(..), what is raised wished for at the slots -/
def tCallG (sp : Sp) (dvs : List V) (E : St → XK) (t : TA) : TE := fun σ H Q => t σ H fun vs H1 => sp (vs ++ dvs) H1 Q (E σ)
def tCallKG (sp : Sp) (gV : List V → List V → List V) (E : St → XK) (t tk : TA) : TE := fun σ H Q => t σ H fun vs H1 => tk σ H1 fun zs H2 => sp (gV vs zs) H2 Q (E σ)
def tMethG (C : Addr) (m : Str) (sp : Sp) (dvs : List V) (E : St → XK) (ta : TE) (t : TA) : TE := fun σ H Q => ta σ H fun x H1 => ∃ a dx fs, x = .ref a ∧ H1 a = some (.ins C dx fs) ∧ fs.lookup m = none ∧
  t σ H1 fun vs H2 => sp (x :: (vs ++ dvs)) H2 Q (E σ)

theorem callG_at {pins : List (Addr × Obj)} {σ : St} {H : Hp} {s : Shared} {Q : VK} {us : List Value} {vs : List V} (F : FnG X.prog X.w X.K X.mg X.base k f fd ps sp) (hr : Room k X.A) (hgd : X.A.guards = some [])
    (hb : Binds X.K fd ps ds) (hd : Vals dvs ds) (hx : PassesAt (L2.CX X.prog X.w) X σ (E σ)) (I : Inv X pins σ H s) (r : Vals vs us) (h : sp (vs ++ dvs) H Q (E σ)) : wpAny (model X.prog X.w) X.A (call (.ref f) us) (EP X pins σ Q) X.xe s := by
  have r2 : Vals (vs ++ dvs) (us ++ ds) := r.append hd
  refine wpAny_call (codeAny_mono (runG F hr hgd hx I (hb s us I.kIn (r2.length.symm.trans (F.arity _ _ _ _ h))) r2 h) fun r s' q => ?_)
  rcases r with e | (_ | _ | _ | u) <;> exact q
theorem pe_callG (F : FnG X.prog X.w X.K X.mg X.base k f fd ps sp) (hr : Room k X.A) (hgd : X.A.guards = some []) (hg : Gl X x) (hm : X.mg x = some (.ref f)) (hk : PySem.W.keepIn X.K (.ref f) = true) (hb : Binds X.K fd ps ds) (hd : Vals dvs ds)
    (hx : ∀ σ, PassesAt (L2.CX X.prog X.w) X σ (E σ)) (ha : PA X (e :: es) t) (hdb : (x == ("__debug__" : Str)) = false := by decide) (he : starEach (e :: es) X.env = (false, eval e X.env) :: starEach es X.env := by rfl)
    (hpl : (backTo pos (starEach es X.env)).any (·.1) = false := by rfl) : PE X (.Call (.Name x p) (e :: es) [] pos) (tCallG sp dvs E t) :=
  ⟨fun pins s σ H Q I h => wpAny_Call_Name_kw (ld_glob I hg hm (PySem.W.callWith_K (h₀ := X.base) I.ok.mod.kin hk (thn (ha.run pos pins s σ H _ I h) fun us s1 ⟨vs, H1, I1, r, q⟩ => ⟨I1.kIn, callG_at F hr hgd hb hd (hx σ) I1 r q⟩) he hpl) hdb)⟩
theorem pe_call0G (F : FnG X.prog X.w X.K X.mg X.base k f fd ps sp) (hr : Room k X.A) (hgd : X.A.guards = some []) (hg : Gl X x) (hm : X.mg x = some (.ref f)) (hk : PySem.W.keepIn X.K (.ref f) = true) (hb : Binds X.K fd ps ds) (hd : Vals dvs ds)
    (hx : ∀ σ, PassesAt (L2.CX X.prog X.w) X σ (E σ)) (hdb : (x == ("__debug__" : Str)) = false := by decide) : PE X (.Call (.Name x p) [] [] pos) (tCallG sp dvs E tNil) :=
  ⟨fun pins s σ H Q I h => wpAny_Call_Name_kw (ld_glob I hg hm (PySem.W.callWith_K0 I.kIn hk (callG_at (us := []) (vs := []) F hr hgd hb hd (hx σ) I .nil h)) hdb)⟩
variable {g : List Value → List Value → List Value} {gV : List V → List V → List V}
theorem callKG_at {pins : List (Addr × Obj)} {σ : St} {H : Hp} {s : Shared} {Q : VK} {us ws : List Value} {vs zs : List V} (F : FnG X.prog X.w X.K X.mg X.base k f fd ps sp) (hr : Room k X.A) (hgd : X.A.guards = some [])
    (hb : KBinds X.K fd ps ks g gV) (hx : PassesAt (L2.CX X.prog X.w) X σ (E σ)) (I : Inv X pins σ H s) (r : Vals vs us) (rz : Vals zs ws) (h : sp (gV vs zs) H Q (E σ)) :
    wpAny (model X.prog X.w) X.A (call (.ref f) us (ks.zip ws)) (EP X pins σ Q) X.xe s := by
  have r2 := hb.rel r rz
  refine wpAny_call (codeAny_mono (runG F hr hgd hx I (hb.to s us ws I.kIn (r2.length.symm.trans (F.arity _ _ _ _ h))) r2 h) fun r s' q => ?_)
  rcases r with e | (_ | _ | _ | u) <;> exact q
theorem pe_callKG (F : FnG X.prog X.w X.K X.mg X.base k f fd ps sp) (hr : Room k X.A) (hgd : X.A.guards = some []) (hg : Gl X x) (hm : X.mg x = some (.ref f)) (hk : PySem.W.keepIn X.K (.ref f) = true) (hb : KBinds X.K fd ps ks g gV)
    (hx : ∀ σ, PassesAt (L2.CX X.prog X.w) X σ (E σ)) (ha : PA X (e :: es) t) (hkw : PK X kws tk) (hall : (backToKw pos (keywordEach kws X.env)).all (·.1.isSome) = true := by rfl) (hks : (backToKw pos (keywordEach kws X.env)).filterMap (·.1) = ks := by rfl)
    (hdb : (x == ("__debug__" : Str)) = false := by decide) (he : starEach (e :: es) X.env = (false, eval e X.env) :: starEach es X.env := by rfl)
    (hpl : ((backTo pos (starEach (e :: es) X.env)).any (·.1) || (backToKw pos (keywordEach kws X.env)).any (·.1.isNone)) = false := by rfl) :
    PE X (.Call (.Name x p) (e :: es) kws pos) (tCallKG sp gV E t tk) := by
  refine ⟨fun pins s σ H Q I h => wpAny_Call_Name_kw (ld_glob I hg hm ?_ hdb)⟩
  refine PySem.W.callWith_KW (h₀ := X.base) I.ok.mod.kin hk hall (thn (ha.run pos pins s σ H _ I h) fun us s1 ⟨vs, H1, I1, r, q⟩ => ?_) hpl he
  refine thn (hkw.run pos pins s1 σ H1 _ I1 q) fun ws s2 ⟨zs, H2, I2, rz, q2⟩ => ⟨I2.kIn, ?_⟩
  rw [hks]
  exact callKG_at F hr hgd hb (hx σ) I2 r rz q2
theorem pe_callK0G (F : FnG X.prog X.w X.K X.mg X.base k f fd ps sp) (hr : Room k X.A) (hgd : X.A.guards = some []) (hg : Gl X x) (hm : X.mg x = some (.ref f)) (hk : PySem.W.keepIn X.K (.ref f) = true) (hb : KBinds X.K fd ps ks g gV)
    (hx : ∀ σ, PassesAt (L2.CX X.prog X.w) X σ (E σ)) (hkw : PK X kws tk) (hall : (backToKw pos (keywordEach kws X.env)).all (·.1.isSome) = true := by rfl) (hks : (backToKw pos (keywordEach kws X.env)).filterMap (·.1) = ks := by rfl)
    (hdb : (x == ("__debug__" : Str)) = false := by decide)
    (hpl : ((backTo pos (starEach [] X.env)).any (·.1) || (backToKw pos (keywordEach kws X.env)).any (·.1.isNone)) = false := by rfl) :
    PE X (.Call (.Name x p) [] kws pos) (tCallKG sp gV E tNil tk) := by
  refine ⟨fun pins s σ H Q I h => wpAny_Call_Name_kw (ld_glob I hg hm ?_ hdb)⟩
  refine PySem.W.callWith_KW0 (h₀ := X.base) I.ok.mod.kin hk hall (thn (hkw.run pos pins s σ H _ I h) fun ws s2 ⟨zs, H2, I2, rz, q2⟩ => ⟨I2.kIn, ?_⟩) hpl
  rw [hks]
  exact callKG_at (us := []) (vs := []) F hr hgd hb (hx σ) I2 .nil rz q2
/-- o.m(..) of an own instance -/
theorem methG_at {pins : List (Addr × Obj)} {σ : St} {H : Hp} {s : Shared} {Q : VK} {a : Addr} {us : List Value} {vs : List V} (F : FnG X.prog X.w X.K X.mg X.base k f fd ps sp) (hr : Room k X.A) (hgd : X.A.guards = some [])
    (hb : Binds X.K fd ps ds) (hd : Vals dvs ds) (hx : PassesAt (L2.CX X.prog X.w) X σ (E σ)) (I : Inv X pins σ H s) (r : Vals vs us) (h : sp (.ref a :: (vs ++ dvs)) H Q (E σ)) :
    wpAny (model X.prog X.w) X.A (call (.ref f) (Value.ref a :: us)) (EP X pins σ Q) X.xe s :=
  callG_at (us := .ref a :: us) (vs := .ref a :: vs) F hr hgd hb hd hx I (.cons rfl r) h
theorem pe_methG {pl : Sem Bool} (he : PE X o ta) (c : Cls X.K C) (hm : Meth X.K C m f) (F : FnG X.prog X.w X.K X.mg X.base k f fd ps sp) (hr : Room k X.A) (hgd : X.A.guards = some []) (hb : Binds X.K fd ps ds) (hd : Vals dvs ds)
    (hx : ∀ σ, PassesAt (L2.CX X.prog X.w) X σ (E σ)) (ha : PA X (e :: es) t)
    (hst : starEach (e :: es) X.env = (false, eval e X.env) :: starEach es X.env := by rfl) (hpl : (backTo pos (starEach es X.env)).any (·.1) = false := by rfl)
    (ht : eval (.Call (.Attribute o m apos) (e :: es) [] pos) X.env = (do
      let ov ← eval o X.env
      standAt apos.atName
      let (f, first) ← holding [ov] (getMethod ov m pl)
      callWith pos f first (backTo pos (starEach (e :: es) X.env)) (backToKw pos (keywordEach [] X.env))) := by rfl) :
    PE X (.Call (.Attribute o m apos) (e :: es) [] pos) (tMethG C m sp dvs E ta t) := by
  refine ⟨fun pins s σ H Q I h => PySem.W.methodCall_KW (pl := pl) (thn (he.run pins s σ H _ I h) fun u s1 ⟨x, H1, I1, rx, a, dx, fs, ex, ea, l, q⟩ => ?_) ht⟩
  subst ex
  obtain rfl : u = Value.ref a := rx
  refine getmeth_ok I1 ea c hm l ?_
  exact PySem.W.callWith_K (h₀ := X.base) (first := [.ref a]) I1.ok.mod.kin hm.kp (thn (ha.run pos pins _ σ H1 _ (I1.tok _) q) fun us s2 ⟨vs, H2, I2, r, q2⟩ => ⟨I2.kIn, methG_at F hr hgd hb hd (hx σ) I2 r q2⟩) hst hpl
end
/-- nothing is raised -/
theorem noX {X : Cx} : ∀ σ : St, PassesAt (L2.CX X.prog X.w) X σ E0 := fun σ pins H s e s' I c => passL pins σ H s e s' I c

/-! ### a body keeps the promise -/
section
variable {P : Program} {w : World} {K : PySem.W.Frag} {mg : Str → Option Value} {base : Heap}
theorem fnG_of {k : Nat} {f : Addr} {name qual : Str} {params : Arguments} {body : List Stmt} {scope : Scope} {dV kV doc pm cdv ct oc : Value} {an od : Option Addr} {osl : Array (Option Value)} {N ps : List Str} {sp : Sp}
    (lk : K.lookup f = some ⟨oc, od, .func (PySem.W.fnOf name qual params body scope dV kV doc pm an cdv ct), osl⟩) (hcd : PySem.W.codeIn K cdv qual = true) (S : FnScope N ps scope) (len : ∀ vs H Q E, sp vs H Q E → vs.length = ps.length)
    (hbody : ∀ (A : Around) (outer : List Env) (s : Shared) (H : Hp) (vs : List V) (Q : VK) (E : XK), Room k (A.deeper (envOfC qual scope s.heap.objs.size f cdv)) → A.guards = some [] → sp vs H Q E →
      ∃ t, PSs (cxOf (L2.CX P w) P w K mg base N qual scope f cdv A outer s H E) body t ∧ t { nx := fun _ H' => Q .non H', rt := Q } (start N vs) H) :
    FnG P w K mg base (k + 1) f (PySem.W.fnOf name qual params body scope dV kV doc pm an cdv ct) ps sp := by
  refine ⟨len, fun A outer s H args us vs Q E hr hgd e0 hb r hsp => ?_⟩
  have old : ∀ b o, base.get? b = some o → s.heap.get? b = some o := fun b o e => (e0.bs b o e).1
  have KX : K.In s.heap := e0.mod.kin.keeps old
  have kinds : ∀ y ∈ ps.zip us, scope.names.lookup y.1 = some .local ∨ (scope.names.lookup y.1 = some .cell ∧ ((cellsFrom (s.heap.objs.size + 1) scope.names []).lookup y.1).isSome = true) := by
    intro y hy
    have hp := S.par y.1 (List.of_mem_zip hy).1
    exact hp.imp id fun q => ⟨q, PySem.W.cellsFrom_some _ _ _ (.inl q)⟩
  refine codeAny_call_function hr.depth (KX _ _ lk) rfl S.co S.gen rfl (PySem.W.codeRec_of KX hcd) (hb _ _ _ _ (wpAny_newFunctionEnv_cells S.kind kinds fun env he s1 x => ?_))
  subst he
  refine ⟨(e0.mod.nolimit.keeps old).keeps x.toInCall.keep, codeAny_func ?_⟩
  obtain ⟨t, ht, hq⟩ := hbody A outer s H vs Q E (hr.deeper _) hgd hsp
  have I : Inv (cxOf (L2.CX P w) P w K mg base N qual scope f cdv A outer s H E) [] (start N vs) H s1 := inv_start S hr.hd e0 (len _ _ _ _ hsp) r x
  refine wpAny_mono (ht.run [] s1 (start N vs) H _ I hq) (fun fl s' hs => ?_) fun e s' hs => hs
  rcases fl with _ | _ | _ | u
  · obtain ⟨_, H', J, q⟩ := hs
    exact ⟨.non, H', J.os, J.bare, J.base, J.hok, rfl, q⟩
  · exact hs.choose_spec.choose_spec.2.elim
  · exact hs.choose_spec.choose_spec.2.elim
  · obtain ⟨v, _, H', J, rv, q⟩ := hs
    exact ⟨v, H', J.os, J.bare, J.base, J.hok, rv, q⟩
/-- a def that lets nothing out -/
theorem Fun.okG {x qual : Str} {st : Stmt} {f : Addr} {fd : FuncData} {N ps : List Str} {k : Nat} {sp : Sp} (F : Fun K x qual st f fd) (S : FnScope N ps (defScope st)) (len : ∀ vs H Q E, sp vs H Q E → vs.length = ps.length)
    (hbody : ∀ (cdv : Value) (A : Around) (outer : List Env) (s : Shared) (H : Hp) (vs : List V) (Q : VK) (E : XK), Room k (A.deeper (envOfC qual (defScope st) s.heap.objs.size f cdv)) → A.guards = some [] → sp vs H Q E →
      ∃ t, PSs (cxOf (L2.CX P w) P w K mg base N qual (defScope st) f cdv A outer s H E).nox (defBody st) t ∧ t { nx := fun _ H' => Q .non H', rt := Q } (start N vs) H) : FnG P w K mg base (k + 1) f fd ps sp := by
  obtain ⟨oc, od, kV, doc, pm, an, cdv, ct, osl, rfl, lk, hcd⟩ := F.ex
  refine fnG_of lk hcd S len fun A outer s H vs Q E hr hgd hsp => ?_
  obtain ⟨t, h, q⟩ := hbody cdv A outer s H vs Q E hr hgd hsp
  exact ⟨t, h.nox, q⟩
/-- a def that may raise -/
theorem Fun.okXG {x qual : Str} {st : Stmt} {f : Addr} {fd : FuncData} {N ps : List Str} {k : Nat} {sp : Sp} (F : Fun K x qual st f fd) (S : FnScope N ps (defScope st)) (len : ∀ vs H Q E, sp vs H Q E → vs.length = ps.length)
    (hbody : ∀ (cdv : Value) (A : Around) (outer : List Env) (s : Shared) (H : Hp) (vs : List V) (Q : VK) (E : XK), Room k (A.deeper (envOfC qual (defScope st) s.heap.objs.size f cdv)) → A.guards = some [] → sp vs H Q E →
      ∃ t, PSs (cxOf (L2.CX P w) P w K mg base N qual (defScope st) f cdv A outer s H E) (defBody st) t ∧ t { nx := fun _ H' => Q .non H', rt := Q } (start N vs) H) : FnG P w K mg base (k + 1) f fd ps sp := by
  obtain ⟨oc, od, kV, doc, pm, an, cdv, ct, osl, rfl, lk, hcd⟩ := F.ex
  exact fnG_of lk hcd S len fun A outer s H vs Q E hr hgd hsp => hbody cdv A outer s H vs Q E hr hgd hsp
end

/-! ### the end: the law called -/
theorem lawG_call {P : Program} {w : World} {K : PySem.W.Frag} {mg mb : Str → Option Value} {k : Nat} {fa a : Addr} {fd : FuncData} {x : Str} {sp : Sp} {s1 : Shared} {vs : List Value} {ns : List Int}
    (KX : K.In s1.heap) (hns : s1.heap.Ns mainGlobals mg) (hb : s1.heap.Ns builtinsNs mb) (hbb : ∀ x : Str, x ≠ "__name__" → mb x = bootBuiltins x) (hlim : s1.heap.NoLimit) (hg : s1.gens = #[])
    (ha : s1.heap.get? a = some { cls := .type "list", data := .seq vs.toArray }) (hi : IntsAre vs ns) (hl : ns.length ≤ sizeLine) (hr : Room k callerA)
    (F : ∀ base : Heap, K.In base → base.Ns mainGlobals mg → FnG P w K mg base k fa fd [x] sp) (hbind : ∀ (s : Shared) (u : Value), BindsTo s fd ⟨[u], []⟩ [(x, u)])
    (hsp : ∀ H : Hp, Only H → SqL K H a (ns.map V.int) → sp [.ref a] H (fun v _ => v = .bl true) fun _ _ _ => False) :
    codeAny (model P w) callerA (.call (.ref fa) ⟨[.ref a], []⟩) (fun r s' => r = .ok (.ret (.bool true)) ∧ OldK s1.heap s'.heap ∧ s'.os = s1.os ∧ AllBare s'.gens) s1 := by
  have zs : ns.length = vs.length := hi.length.symm
  have rel := vals_ints hi
  suffices from_ : ∀ H : Hp, Only H → SqL K H a (ns.map V.int) → HOk P w H s1.heap → (∀ b o, H b = some o → b = a ∧ K.lookup a = none) →
      codeAny (model P w) callerA (.call (.ref fa) ⟨[.ref a], []⟩) (fun r s' => r = .ok (.ret (.bool true)) ∧ OldK s1.heap s'.heap ∧ s'.os = s1.os ∧ AllBare s'.gens) s1 by
    cases hk : K.lookup a with
    | none =>
      have at_a : ∀ {b : Addr} {o : HO}, (if b = a then some (HO.frz { cls := .type "list", data := .seq vs.toArray } (.lst (ns.map V.int))) else none) = some o → b = a ∧ o = HO.frz { cls := .type "list", data := .seq vs.toArray } (.lst (ns.map V.int)) := fun {b o} e => by
        by_cases q : b = a
        · rw [if_pos q] at e
          exact ⟨q, (Option.some.inj e).symm⟩
        · rw [if_neg q] at e
          cases e
      refine from_ (fun b => if b = a then some (.frz { cls := .type "list", data := .seq vs.toArray } (.lst (ns.map V.int))) else none) (fun b => ?_) (.inl (.inr ⟨_, if_pos rfl⟩)) (fun b u e => ?_) fun b o e => ⟨(at_a e).1, hk⟩
      · rcases Decidable.em (b = a) with q | q
        · exact .inr ⟨_, _, if_pos q⟩
        · exact .inl (if_neg q)
      · obtain ⟨q1, q2⟩ := at_a e
        subst q1 q2
        exact ⟨ha, by rw [List.length_map]; exact hl, vs, _, rel, ha⟩
    | some o =>
      obtain rfl : o = { cls := .type "list", data := .seq vs.toArray } := Option.some.inj ((KX a o hk).symm.trans ha)
      exact from_ (fun _ => none) (fun _ => .inl rfl) (.inr ⟨_, vs.toArray, _, hk, rfl, rfl, rfl, by rw [List.size_toArray, ← zs]; exact hl, by simpa using rel⟩) (fun b u z => by cases (show (none : Option HO) = some u from z)) (fun b o z => by cases (show (none : Option HO) = some o from z))
  intro H hO hS hok hA
  have free : ∀ {b : Addr} {o : Obj}, s1.heap.get? b = some o → (∀ q, o ≠ { cls := .type "list", data := .seq q } ) → H b = none := fun {b o} e ne => by
    cases q : H b with
    | none => rfl
    | some u =>
      obtain rfl := (hA b u q).1
      exact absurd (Option.some.inj (e.symm.trans ha)) (ne _)
  have nsK : ∀ {b : Addr} {m : Str → Option Value}, s1.heap.Ns b m → (hidT s1.heap H).Ns b m := fun {b m} n => by
    obtain ⟨o, es, ep, e, d, r⟩ := n
    refine ⟨o, es, ep, hidT_get e (free e fun q z => ?_), d, r⟩
    rw [z] at d
    cases d
  have hKb : K.In (hidT s1.heap H) := fun b o e => hidT_get (KX b o e) (by
    cases q : H b with
    | none => rfl
    | some u =>
      obtain ⟨q1, q2⟩ := hA b u q
      subst q1
      rw [q2] at e
      cases e)
  have hM : Mod K mg (hidT s1.heap H) := ⟨hKb, nsK hns, ⟨mb, nsK hb, hbb⟩, let ⟨mc, h1, h2⟩ := hlim; ⟨mc, nsK h1, h2⟩⟩
  have e0 : Env0 P w K mg (hidT s1.heap H) callerA [] s1 H := ⟨rfl, hM, fun b o e => of_hidT e, Nat.le_of_eq (hidT_size _ _), trivial, (fun b hb => absurd (show b ∈ ([] : List Addr) from hb) (by simp)), hok, .of_eq hg⟩
  refine codeAny_mono ((F _ hKb (nsK hns)).runs callerA [] s1 H ⟨[.ref a], []⟩ [.ref a] [.ref a] _ _ hr rfl e0 (hbind s1 (.ref a)) (.cons rfl .nil) (hsp H hO hS)) fun r s' h => ?_
  rcases r with e | (_ | _ | _ | u)
  · obtain ⟨_, _, _, _, _, _, _, _, _, _, _, _, z⟩ := h
    exact z.elim
  · exact False.elim h
  · exact False.elim h
  · exact False.elim h
  · obtain ⟨v, H', os, bare, un, hok', r', q⟩ := h
    obtain rfl : v = .bl true := q
    obtain rfl : u = Value.bool true := r'
    refine ⟨rfl, OldK.of_keep fun b o e => ?_, os, bare⟩
    rcases hO b with z | ⟨ob, xs, z⟩
    · exact un.keep b o e z (fun m => absurd (show b ∈ ([] : List Addr) from m) (by simp)) (by simp)
    · have e1 := (hok b _ z).1
      have e2 := (hok' b _ (un.frzs b ob _ z)).1
      rw [e] at e1
      cases e1
      exact e2
theorem walkG_of {l : PySem.W.OpenLaw} {n k : Nat} {q : Program} {loose : List Str} {XP : (Str → Option Value) → Heap → Prop} {YP : World → Heap → Prop} {d : DefRec} {K : Params → PySem.W.Frag} {sp : PySem.W.Frag → Sp} {x : Str}
    (hn : l.most = some n) (hn2 : n ≤ sizeLine) (hdf : d.params.defaults = []) (hr : Room k callerA) (hY : ∀ (w : World) (h : Heap), YP w h → (K w.params).In h)
    (F : ∀ (w : World) (mg : Str → Option Value) (fa : Addr) (h : Heap), (K w.params).In h → h.Ns mainGlobals mg → mg d.name = some (.ref fa) →
      ∃ fd : FuncData, (∀ (s : Shared) (u : Value), BindsTo s fd ⟨[u], []⟩ [(x, u)]) ∧
        ∀ base : Heap, (K w.params).In base → base.Ns mainGlobals mg → FnG l.prog w (K w.params) mg base k fa fd [x] (sp (K w.params)))
    (hsp : ∀ (K : PySem.W.Frag) (H : Hp) (a : Addr) (ns : List Int), ns.length ≤ n → Only H → SqL K H a (ns.map V.int) → sp K [.ref a] H (fun v _ => v = .bl true) fun _ _ _ => False) :
    PySem.W.WalkO q loose XP YP l.row.toRowW d [] (fun f vs => PySem.call f vs) := by
  refine Att.attach_call hn hdf fun w s₀ s₁ mg mb fa o pm cd doc a vs ns G Y ho hd hcd hmg hobj hints hlen hg => ?_
  obtain ⟨fd, hb, hF⟩ := F w mg fa _ (hY w _ Y) G.T.g hmg
  exact lawG_call (hY w _ Y) G.T.g G.T.b G.T.builtins G.T.nolimit hg hobj hints (Nat.le_trans hlen hn2) hr hF hb fun H hO hS => hsp _ H a ns hlen hO hS
end L2
set_option Elab.async false
set_option linter.all false
set_option maxRecDepth 100000
set_option maxHeartbeats 4000000
/-! repr of data; enumerate of a text -/
namespace L2
open PySem PySem.Spec PyProof.Rows

/-- data without dicts, or an empty dict -/
def Rp (K : PySem.W.Frag) (H : Hp) (v : V) (d : PyData) : Prop := (Dp K H v d ∧ d.hasDict = false) ∨ ∃ a, v = .ref a ∧ H a = some (.dK []) ∧ d = .dict []
def rRepr (K : PySem.W.Frag) : List V → Hp → VK → Prop := fun xs H Q => ∃ v d, xs = [v] ∧ Rp K H v d ∧ d.showable = true ∧ d.depth ≤ 60 ∧ d.shown.length ≤ sizeLine ∧ Q (.str d.shown) H
section
variable {X : Cx}
theorem Rp.reads {pins : List (Addr × Obj)} {σ : St} {H : Hp} {s : Shared} {v : V} {u : Value} {d : PyData} (I : Inv X pins σ H s) (h : Rp X.K H v d) (r : RelV v u) : ∃ as, Reads s.heap u d as ∧ (d.hasDict = true → sysModules ∉ as) := by
  rcases h with ⟨h, hd⟩ | ⟨a, rfl, ha, rfl⟩
  · obtain ⟨as, q⟩ := Dp.reads I d v u h r
    exact ⟨as, q, fun z => by rw [hd] at z; cases z⟩
  · obtain rfl : u = Value.ref a := r
    obtain ⟨_, hs, vs, kv, m⟩ : ([] : List (Key × V)).length ≤ sizeLine ∧ (a == sysModules) = false ∧ ∃ vs, KV ([] : List (Key × V)) vs ∧ s.heap.DictOf (mixKind X.prog X.w) a vs := I.hok a _ ha
    cases kv
    obtain ⟨o, es, n, e1, e2, e3, e4⟩ := m
    have e5 : es.toList = [] := by
      have q := e4.2.1
      generalize es.toList = l at q
      cases q
      rfl
    refine ⟨[a], ?_, fun _ z => ?_⟩
    · have z := Reads.dict (h := s.heap) (kvs := []) (as := []) (bs := []) e1 e2.1 e3 (by rw [e5]; exact ReadsAll.nil) (by rw [e5]; exact ReadsAll.nil)
      simpa using z
    · rw [List.mem_singleton.mp z] at hs
      simp at hs
theorem call_reprD (hgd : X.A.guards = some []) (hu : X.A.units + 64 < cLine) : CallR X (.builtin "repr") (rRepr X.K) := by
  intro pins s σ H xs us Q I r h
  obtain ⟨v, d, rfl, hv, hs, hdp, hz, q⟩ := h
  obtain ⟨u, rfl, ru⟩ := vals1 r
  obtain ⟨as, rd, hsm⟩ := Rp.reads I hv ru
  cases rd with
  | none => exact PySem.P.repr_of_none ⟨.str _, H, I.tok _, ⟨_, rfl⟩, q⟩
  | bool b => exact PySem.P.repr_of_bool ⟨.str _, H, I.tok _, ⟨_, rfl⟩, q⟩
  | int i t => exact PySem.P.repr_of_int (by simpa [PyData.showable] using hs) ⟨.str _, H, I.tok _, ⟨_, rfl⟩, q⟩
  | str x t => exact PySem.P.repr_of_str ⟨.str _, H, I.tok _, ⟨_, rfl⟩, q⟩ (by simpa only [PyData.shown] using hz)
  | list h1 h2 h3 h4 =>
    exact repr_of_reads' (Reads.list h1 h2 h3 h4) hs hsm hgd (by omega) (fun _ _ e => e) (fun h' u tk hk => ⟨.str _, H, I.kept hk, ⟨_, rfl⟩, q⟩) hz
  | tuple h1 h2 h3 h4 =>
    exact repr_of_reads' (Reads.tuple h1 h2 h3 h4) hs hsm hgd (by omega) (fun _ _ e => e) (fun h' u tk hk => ⟨.str _, H, I.kept hk, ⟨_, rfl⟩, q⟩) hz
  | dict h1 h2 h3 h4 h5 =>
    exact repr_of_reads' (Reads.dict h1 h2 h3 h4 h5) hs hsm hgd (by omega) (fun _ _ e => e) (fun h' u tk hk => ⟨.str _, H, I.kept hk, ⟨_, rfl⟩, q⟩) hz
end

/-! ### enumerate of a text -/
/-- each sign in a new pair behind its place -/
def Ites (x : Str) : It := ⟨fun i _ => i < x.cps.size, fun i H v H' => ∃ T c, v = .ref T ∧ H T = none ∧ x.cps[i]? = some c ∧ H' = upd H T (.tup [.int (i : Nat), .str ⟨#[c]⟩]), fun i _ => i = x.cps.size⟩
theorem turn_enumS {P : Program} {w : World} {K : PySem.W.Frag} {elts : List Expr} {kk : Nat} {tpos : Pos} (x : Str) (t : Tok) (e it : Addr) (hne : e ≠ it) :
    Turn P w K (.Tuple elts kk tpos) (Ites x) [e, it] e (fun i h => (∃ old, IsEnum h e it ((i : Nat) : Int) old) ∧ h.IsStrIter it (strIterType x) x t i) where
  mem := List.mem_cons_self ..
  obj := fun i h st b hb => by
    obtain ⟨⟨old, he⟩, o, ho, _, hd⟩ := st
    rcases List.mem_cons.mp hb with rfl | hb
    · exact ⟨_, he, fun v q => nomatch q⟩
    · rw [List.mem_singleton.mp hb]
      exact ⟨o, ho, fun v q => by rw [hd] at q; cases q⟩
  keep := fun i h h' st k => by
    obtain ⟨⟨old, he⟩, o, ho, r⟩ := st
    exact ⟨⟨old, k e (by simp) _ he⟩, o, k it (by simp) o ho, r⟩
  item := by
    intro X hP hw hK hc i pins s σ H E I hfree st hgo
    subst hP hw hK
    obtain ⟨⟨old, he⟩, hit⟩ := st
    have hel : e < s.heap.objs.size := Heap.lt_size he
    have hil : it < s.heap.objs.size := by obtain ⟨_, q, _⟩ := hit; exact Heap.lt_size q
    refine wpAny_pyNext_enum_itemD (Draws.text (A := X.A.in1) (I.ok.hd hc) it x t) he hit hgo hne (by simpa using hne) fun u h' tk hu ho hit' hT hsz hk => ?_
    obtain ⟨c, t', hcx, rfl⟩ := hu
    refine ⟨_, rfl, wpAny_letOwnedTupleGo_enum (s := { s with heap := h', toks := tk + 1 }) ho fun h2 he' sb => ?_⟩
    have hT2 : h2.get? s.heap.objs.size = some { cls := .type "tuple", data := .seq #[.int i tk, .str ⟨#[c]⟩ t'] } := (sb.2 _ (Nat.ne_of_gt hel)).trans hT
    have new : ObjOk X.prog X.w (upd H s.heap.objs.size (.tup [.int (i : Nat), .str ⟨#[c]⟩])) h2 s.heap.objs.size (.tup [.int (i : Nat), .str ⟨#[c]⟩]) :=
      ⟨by show 2 ≤ sizeLine; decide, [.int i tk, .str ⟨#[c]⟩ t'], .cons ⟨_, rfl⟩ (.cons ⟨_, rfl⟩ .nil), ⟨_, hT2, rfl, _, rfl⟩⟩
    have I1 : Inv X pins σ (upd H s.heap.objs.size (.tup [.int (i : Nat), .str ⟨#[c]⟩])) { s with heap := h2, toks := tk + 1 } :=
      I.turnedNew (ch := [e, it]) (fun b ob hb q => by
        have n1 : b ≠ e := fun z => hb (by simp [z])
        have n2 : b ≠ it := fun z => hb (by simp [z])
        exact (sb.2 b n1).trans (hk b ob n1 n2 q)) hfree (Nat.le_refl _) new
    obtain ⟨oi, hoi, ri⟩ := hit'
    refine ⟨.ref s.heap.objs.size, _, I1, rfl, ⟨_, c, rfl, I.hok.fresh (Nat.le_refl _), hcx, rfl⟩, ⟨⟨.str ⟨#[c]⟩ t', ?_⟩, oi, (sb.2 it (Ne.symm hne)).trans hoi, ri⟩, fun b hb => ?_⟩
    · have e1 : ((i + 1 : Nat) : Int) = (i : Int) + 1 := by omega
      rw [e1]; exact he'
    · have hb' : b < s.heap.objs.size := by
        rcases List.mem_cons.mp hb with rfl | hb
        · exact hel
        · rw [List.mem_singleton.mp hb]; exact hil
      rw [upd_ne (Nat.ne_of_lt hb')]
      exact (hfree b hb).1
  done := by
    intro X hP hw hK hc i pins s σ H E I hfree st hst
    subst hP hw hK
    obtain ⟨⟨old, he⟩, hit⟩ := st
    obtain ⟨f0, f1, f2, f3, f4, f5⟩ := hfree it (by simp)
    obtain rfl : i = x.cps.size := hst
    exact wpAny_pyNext_enum_endD (Draws.text (A := X.A.in1) (I.ok.hd hc) it x t) he hit fun h' eb => ⟨rfl, I.turned (t' := s.toks) (fun b o hb q => eb b o hb q) f0 f1 f3 f4 f5⟩
  self := fun A i s Q E st h => by
    obtain ⟨⟨old, he⟩, _⟩ := st
    exact wpAny_pyIter_enum he h
def iEnumS (ta : TA) : TI := fun σ H R => ta σ H fun vs H1 => ∃ x, vs = [.str x] ∧ R (Ites x) H1
theorem pi_enumS {X : Cx} {e : Expr} {ta : TA} {p pos tpos : Pos} {elts : List Expr} {kk : Nat} (hg : Gl X "enumerate") (hm : X.mg "enumerate" = none) (ha : PA X [e] ta) (hs : starEach [e] X.env = [(false, eval e X.env)] := by rfl) :
    PI X (.Tuple elts kk tpos) (.Call (.Name "enumerate" p) [e] [] pos) (iEnumS ta) := by
  refine ⟨fun pins s σ H R I h => Call_ (ld_blt I hg hm boot_enumerate (PyProof.Rows.callWith_type1 (thn (ha.run pos pins s σ H _ I h) fun us s1 ⟨vs, H1, I1, r1, x, ex, q⟩ => ?_) hs rfl))⟩
  subst ex
  obtain ⟨u, rfl, t, rfl⟩ := vals1 r1
  refine call_enumerate_str fun h' he hit hsz hk => wpAny_pyIter_enum he ?_
  have I2 : Inv X pins σ H1 { s1 with heap := h' } := I1.kept (t' := s1.toks) hk
  refine ⟨s1.heap.objs.size + 1, [s1.heap.objs.size + 1, s1.heap.objs.size], _, _, H1, rfl, I2, turn_enumS x t (s1.heap.objs.size + 1) s1.heap.objs.size (Nat.succ_ne_self _), ⟨⟨.none, he⟩, hit⟩, fun b hb => ?_, q⟩
  have hle : s1.heap.objs.size ≤ b := by
    rcases List.mem_cons.mp hb with rfl | z
    · exact Nat.le_succ _
    · rw [List.mem_singleton.mp z]; exact Nat.le_refl _
  exact I1.fpOk hle (I1.hok.fresh hle)
theorem walk_enumS {z : Str} : Walk (Ites z) z.cps.size (fun _ => True) (fun i H v H' => ∃ T c, v = .ref T ∧ H T = none ∧ z.cps[i]? = some c ∧ H' = upd H T (.tup [.int (i : Nat), .str ⟨#[c]⟩])) :=
  ⟨fun _ _ hi _ => hi, fun _ _ => rfl, fun _ _ _ _ _ _ y => y⟩
end L2
set_option Elab.async false
set_option linter.all false
set_option maxRecDepth 100000
set_option maxHeartbeats 4000000
/-! isinstance of a caught own error that has a dict -/
namespace PySem
namespace Lw
open PySem.W PySem.Calls PyProof.Rows PySem.HandSPX PySem.Spec
section
variable {prog : Program} {w : World} {A : Around} {E : Value → Shared → Prop} {s : Shared} {K : Frag} {x D : Addr} {ox : Obj} {od : Option Obj}
theorem found_data {C : Addr} {name : Str} {a g : Value} (hc : (clsIn K C).isSome = true) (ha : findIn K (.ref C) name = some (some a)) (hg : specialIn K a "__get__" = some (some g)) (ht : takesIn K a = some true) :
    findObj K C od name = some (Builtin.ObjectAttr.Found.bind g a) := by
  obtain ⟨cd, hc⟩ := Option.isSome_iff_exists.mp hc
  unfold findObj
  rw [hc, Option.bind_some, ha, Option.bind_some]
  simp [hg, ht]
theorem cls_of_exc {Q : Option Value → Shared → Prop} (C : L2.ExcC K D) (X : K.In s.heap) (I : InstAt s.heap x ox D od) (h : Q (some (.ref D)) { s with toks := s.toks + 1 }) : wpAny (model prog w) A (getAttr? (.ref x) "__class__") Q E s := by
  obtain ⟨hga, hgt, hsub, hdct, ha, hn, htk, hm⟩ := C
  have hf : findObj K D od "__class__" = some (.bind (.builtin "getset_descriptor.__get__") (.builtin "object.__class__")) := found_data (by obtain ⟨cd, hc, _⟩ := any_some hdct; rw [hc]; rfl) ha hn htk
  obtain ⟨hp, g, d, t, os⟩ := s
  have T0 := I.type (M := model prog w)
  have isB : Looks (model prog w) hp (isInstance (.ref x) (.type "BaseException")) true := T0.andThen (looks_subIn X hsub)
  have notO : (Value.builtin "BaseException.__getattribute__" == Value.builtin "object.__getattribute__") = false := by decide +kernel
  unfold getAttr? getAttrBy? getAttrBy
  refine wpAny_bind (wpAny_mkText (wpAny_bind (wpAny_attempt (wpAny_holding (wpAny_bind (T0.at (wpAny_bind ((looks_findIn X hga).at ?_))))))))
  show wpAny _ _ (if (onTheHeap (Value.ref D) && Value.builtin "BaseException.__getattribute__" == Value.builtin "object.__getattribute__") = true then _ else _) _ _ _
  rw [notO, Bool.and_false, if_neg Bool.false_ne_true]
  unfold getAttrByItsOwn hookBefore
  refine wpAny_bind ?_
  rw [if_pos (show onTheHeap (Value.ref D) = true from rfl)]
  refine (looks_findIn X hgt).at (wpAny_bind (wpAny_attempt (wpAny_holding ?_)))
  unfold callGetattribute
  rw [show (false && onTheHeap (Value.builtin "BaseException.__getattribute__")) = false from rfl, if_neg Bool.false_ne_true]
  unfold boundAndCalled
  rw [PySem.F.excAttr_ValueError.ga.bind (.ref x)]
  refine wpAny_bind (wpAny_pure ?_)
  show wpAny _ _ (call (.builtin "BaseException.__getattribute__") [.ref x, .str "__class__" t]) _ _ _
  refine wpAny_call (codeAny_call_builtin PySem.F.excAttr_ValueError.ga.plain PySem.F.entry_bexc_ga (@check_slot (model prog w) _ _ ⟨hp, g, d, t + 1, os⟩ "BaseException.__getattribute__" "BaseException" "__getattribute__" (.ref x) [.str "__class__" t] [] _ (by decide +kernel) (by decide +kernel) isB (PySem.F.args_bexc_ga (.ref x) (.str "__class__" t)) ?_))
  unfold Builtin.«object.__getattribute__»
  refine wpAny_bind (wpAny_of_eq (a := ((Value.ref x : Value), [Value.str "__class__" t])) (by first | rfl | (simp only [slotArgs]; rfl)) (wpAny_bind (wpAny_pure (wpAny_bind (T0.at (wpAny_bind ((looks_find X I hf).at ?_)))))))
  show wpAny _ _ (holding [Value.builtin "object.__class__"] (call (.builtin "getset_descriptor.__get__") [.builtin "object.__class__", .ref x, .ref D]) >>= ret) _ _ _
  refine wpAny_bind (wpAny_holding (wpAny_call (class_get (s := ⟨hp, g, d, t + 1, os⟩) (ox := ox) (od := od) X I hm (wpAny_pure ?_))))
  show wpAny _ _ (handedOut (.ref D)) _ _ _
  rw [handedOut_of (v := .ref D) rfl]
  first
    | exact wpAny_pure (wpAny_pure h)
    | exact wpAny_pure h
    | exact wpAny_pure (wpAny_bind (wpAny_pure (wpAny_pure h)))
theorem kit_exc (C : L2.ExcC K D) : KitX K (.ref x) (.ref D) (fun h => InstAt h x ox D od) where
  ty := fun _ _ _ I => I.type
  it := fun M h X I => by
    obtain ⟨cd, hc, _⟩ := any_some C.hd
    unfold clsIn at hc
    split at hc
    · rename_i c' d' cd' sl' ho
      intro A' Q' E' s' k q
      unfold isType loadHead
      exact wpAny_bind (wpAny_loadPart (k _ _ (X _ _ ho)) (wpAny_pure q))
    · cases hc
  ne := (handS_kitx_exc (x := x) (ox := ox) C.hg C.hk C.hs C.hd C.ha C.hn C.ht C.hm).ne
  ca := fun X I k => cls_of_exc C X I k
end
end Lw
end PySem
namespace L2
open PySem PySem.Spec PyProof.Rows
theorem call_isED {X : Cx} {a D : Addr} {oe : Obj} {cls : Value} {dd : Option Addr} {pn : List (Addr × Obj)} (C : ExcC X.K D) (hz : Zc cls dd oe) (hf : ∃ vs, oe.data = .fields vs) :
    CallR (X.suite a ((a, oe) :: pn)) (.builtin "isinstance") (fun xs H Q => cls = .ref D ∧ (∃ d fs, dd = some d ∧ H d = some (.xd fs)) ∧ rIsE X.K D a xs H Q) := by
  intro pins s σ H xs us Q I r h
  obtain ⟨rfl, ⟨d, fs, rfl, hd⟩, c, cv, b, rfl, hcv, e, q⟩ := h
  cases r with
  | cons rx rr =>
    cases rr with
    | cons rt rr =>
      cases rr
      cases rx
      obtain rfl := hcv _ rt
      obtain ⟨hget, _⟩ := I.pin (a, oe) (List.mem_append.mpr (.inl List.mem_cons_self))
      obtain ⟨vs, hv⟩ := hf
      obtain ⟨mA, ⟨o, es, ep, ho, _⟩, _⟩ := (show ObjOk X.prog X.w H s.heap d (.xd fs) from I.hok d _ hd)
      have J : PySem.W.InstAt s.heap a oe D (some o) := by
        obtain ⟨oc, od, oda, osl⟩ := oe
        obtain ⟨h1, h2⟩ := hz
        dsimp only at h1 h2 hv
        subst h1 h2 hv
        exact ⟨hget, rfl, rfl, ho⟩
      exact PySem.W.kia_one (PySem.Lw.kit_exc C) I.kIn J e (fun z => nomatch z) fun tk => ⟨.bl b, H, I.kept (t' := tk) fun _ _ z => z, rfl, q⟩
end L2
set_option Elab.async false
set_option linter.all false
set_option maxRecDepth 100000
set_option maxHeartbeats 4000000
/-! list.count of flat items; isinstance of what is no text; text times a number -/
namespace L2
open PySem PySem.Spec PyProof.Rows
def rCountV (K : PySem.W.Frag) : V → List V → Hp → VK → Prop := fun x vs H Q => ∃ (p : Addr) (xs : List V) (y : V), x = .ref p ∧ vs = [y] ∧ SqL K H p xs ∧ flatV y = true ∧ xs.all flatV = true ∧ Q (.int (xs.countP (fun z => eqV z y) : Nat)) H
theorem countP_eqU {x : V} : ∀ {xs : List V} {us : List Value}, Vals xs us → xs.all flatV = true → us.countP (eqU x) = xs.countP fun y => eqV y x
  | _, _, .nil, _ => rfl
  | y :: xs, u :: us, .cons r t, f => by
    rw [List.all_cons, Bool.and_eq_true] at f
    rw [List.countP_cons, List.countP_cons, eqU_of r f.1, countP_eqU t f.2]
theorem mt_countV {X : Cx} : MtR X "list.count" (rCountV X.K) := by
  intro pins s σ H x vs v us Q I rx rv h
  obtain ⟨p, xs, y, rfl, rfl, hs, fy, fs, q⟩ := h
  obtain rfl : v = Value.ref p := rx
  obtain ⟨u, rfl, ru⟩ := vals1 rv
  obtain ⟨its, r, ⟨⟨cls, dd, data, sl⟩, n, ho, hc, hdn, hd⟩, hlen⟩ := I.list hs
  simp only at hc hd
  subst hc hd
  refine call_meets PySem.F.slot_list_count ⟨_, ho, rfl⟩ PySem.F.entry_list_count (PySem.F.args_list_count_2 _ _)
    (SeqAt.list_countAt p its.toArray n dd sl u (eqU y)) ⟨ho, fun z hz => mem_eqAt ru fy r fs z (by simpa using hz), ?_⟩
  refine ⟨.int (xs.countP (fun z => eqV z y) : Nat), H, I.tok _, ⟨s.toks, ?_⟩, q⟩
  show Value.int ((its.toArray.toList.countP (eqU y) : Nat) : Int) s.toks = _
  rw [show its.toArray.toList = its by simp, countP_eqU r fs]
/-- a value of a type that is not str -/
def NotStr (K : PySem.W.Frag) (H : Hp) (v : V) : Prop := ∃ t, TyX K H v t ∧ PySem.W.kitOne K t (.type "str") = some false
theorem isi_str {K : PySem.W.Frag} {H : Hp} {v : V} {x : Str} {Q : VK} (h : v = .str x) (q : Q (.bl true) H) : rIsi K [v, .ty "str"] H Q :=
  ⟨v, .ty "str", .type "str", .type "str", true, rfl, .ty _, by rw [h]; exact .base (.str x), kit_ty (by decide +kernel), q⟩
theorem isi_notStr {K : PySem.W.Frag} {H : Hp} {v : V} {Q : VK} (h : NotStr K H v) (q : Q (.bl false) H) : rIsi K [v, .ty "str"] H Q := by
  obtain ⟨t, h1, h2⟩ := h
  exact ⟨v, .ty "str", t, .type "str", false, rfl, .ty _, h1, h2, q⟩
theorem NotStr.non {K : PySem.W.Frag} {H : Hp} : NotStr K H .non := ⟨_, .base .non, kit_ty (by decide +kernel)⟩
theorem NotStr.bl {K : PySem.W.Frag} {H : Hp} {b : Bool} : NotStr K H (.bl b) := ⟨_, .base (.bl b), kit_ty (by decide +kernel)⟩
theorem NotStr.int {K : PySem.W.Frag} {H : Hp} {i : Int} : NotStr K H (.int i) := ⟨_, .base (.int i), kit_ty (by decide +kernel)⟩
theorem NotStr.lst {K : PySem.W.Frag} {H : Hp} {a : Addr} {xs : List V} (h : H a = some (.lst xs)) : NotStr K H (.ref a) := ⟨_, .base (.lst h), kit_ty (by decide +kernel)⟩
theorem NotStr.tup {K : PySem.W.Frag} {H : Hp} {a : Addr} {xs : List V} (h : H a = some (.tup xs)) : NotStr K H (.ref a) := ⟨_, .base (.tup h), kit_ty (by decide +kernel)⟩
theorem NotStr.dK {K : PySem.W.Frag} {H : Hp} {a : Addr} {kvs : List (Key × V)} (h : H a = some (.dK kvs)) : NotStr K H (.ref a) := ⟨_, .base (.dK h), kit_ty (by decide +kernel)⟩
end L2
set_option Elab.async false
set_option linter.all false
set_option maxRecDepth 100000
set_option maxHeartbeats 4000000
/-! own classes: len, str, ==, != of an instance by the class's own methods -/
namespace PySem
namespace Lw
open PySem.W PySem.Calls PyProof.Rows PySem.HandSPX PySem.Spec
section
variable {prog : Program} {w : World} {A : Around} {E : Value → Shared → Prop} {s : Shared} {K : Frag} {x C f : Addr} {ox : Obj} {od : Option Obj} {b tb : Value}
theorem ne_entry {Q : Fin → Shared → Prop} (hu : A.units < cLine) (X : K.In s.heap) (I : InstAt s.heap x ox C od) (he : findIn K (.ref C) "__eq__" = some (some (.ref f))) (hf : isFn K (.ref f) = true)
    (h : wpAny (model prog w) A (call (.ref f) [.ref x, b]) (fun v s' => ∃ c, v = .bool c ∧ Q (.done (.ret (.bool (!c)))) s') E s) :
    wpAny (model prog w) A (Builtin.«object.__ne__» ⟨[.ref x, b], []⟩) Q E s := by
  unfold Builtin.«object.__ne__»
  repeat (first
    | with_reducible refine wpAny_cRoomFor hu ?_
    | (refine wpAny_bind (m := callSpecialIfBound? (.ref x) "__eq__" [b])
        (ifBound_K X I he hf (wpAny_mono h (fun r s' hr => by
          obtain ⟨c, rfl, hq⟩ := hr
          repeat (first | exact hq | exact wpAny_pure hq | exact wpAny_truthy_bool hq | (refine wpAny_bind (m := truthy (.bool _)) (wpAny_truthy_bool ?_)) | wp_step)) fun _ _ e => e)))
    | wp_step)
theorem ne_K {Q : Value → Shared → Prop} (hu : A.units + 1 < cLine) (X : K.In s.heap) (I : InstAt s.heap x ox C od) (hb : Looks (model prog w) s.heap (typeOf b) tb) (hn : notFirst K C tb = true)
    (hs : findIn K (.ref C) "__ne__" = some (some (.builtin "object.__ne__"))) (he : findIn K (.ref C) "__eq__" = some (some (.ref f))) (hf : isFn K (.ref f) = true) (ho : subIn K (.ref C) (.type "object") = some true)
    (h : wpAny (model prog w) A.in1 (call (.ref f) [.ref x, b]) (fun v s' => ∃ c, v = .bool c ∧ Q (.bool (!c)) s') E s) : wpAny (model prog w) A (richCompare .NotEq (.ref x) b) Q E s := by
  have one : wpAny (model prog w) A (tryCompare (.ref x) "__ne__" b) (fun r s' => ∃ v, r = some v ∧ Q v s') E s := by
    unfold tryCompare
    refine wpAny_bind ?_
    simp only [callSpecialIfBound?, bindSpecialIfBound?]
    refine wpAny_holding (wpAny_bind (wpAny_bind (wpAny_bind (I.type.here ((looks_findIn X hs).here ?_)))))
    simp only [F.cmp_object.ne.bind]
    refine wpAny_bind (wpAny_askSetting (wpAny_ite ?_))
    have isO : Looks (model prog w) s.heap (isInstance (.ref x) (.type "object")) true := I.type.andThen (looks_subIn X ho)
    have core : wpAny (model prog w) A (call (.builtin "object.__ne__") [.ref x, b]) (fun v s' => ∃ c, v = .bool c ∧ Q v s') E s := by
      refine wpAny_call (codeAny_call_builtin F.cmp_object.ne.plain F.cmpEntry_ne (@check_slot (model prog w) _ _ s "object.__ne__" "object" "__ne__" (.ref x) [b] [] _ (by decide +kernel) (by decide +kernel) isO (F.cmpArgs_ne _ _) ?_))
      refine ne_entry (A := A.in1) ?_ X I he hf (wpAny_mono h (fun v s' hv => ?_) fun _ _ e => e)
      · exact hu
      · obtain ⟨c, rfl, hq⟩ := hv
        exact ⟨c, rfl, ⟨!c, rfl, hq⟩⟩
    have fin : wpAny (model prog w) A (call (.builtin "object.__ne__") ([.ref x] ++ [b]) >>= fun v => pure (some v)) (fun v s' => ∃ c, v = some (.bool c) ∧ Q (.bool c) s') E s :=
      wpAny_bind (wpAny_mono core (fun v s' h' => by obtain ⟨c, rfl, hq⟩ := h'; exact wpAny_pure ⟨c, rfl, hq⟩) fun _ _ h' => h')
    split
    · refine wpAny_bind (wpAny_pure (wpAny_pure (wpAny_mono fin (fun v s' h' => ?_) fun _ _ e => e)))
      obtain ⟨c, rfl, hq⟩ := h'
      exact wpAny_pure ⟨_, rfl, hq⟩
    · refine wpAny_tryCatch (wpAny_bind (wpAny_pure (wpAny_pure (wpAny_mono fin (fun v s' h' => ?_) fun _ _ e => e))))
      obtain ⟨c, rfl, hq⟩ := h'
      exact wpAny_pure ⟨_, rfl, hq⟩
  unfold richCompare
  simp only [oneThing_ref]
  refine wpAny_holding (wpAny_bind (wpAny_cRoomFor (Nat.lt_of_succ_lt hu) ?_))
  rw [cmpInfo_NotEq]
  dsimp only
  refine wpAny_bind (I.type.here (wpAny_bind (hb.here ?_)))
  split
  · rename_i q
    have e : subIn K tb (.ref C) = some false := by
      rcases Bool.or_eq_true_iff.mp hn with e | e
      · rw [beq_iff_eq.mp e] at q; simp at q
      · exact beq_iff_eq.mp e
    refine wpAny_bind ((looks_subIn X e).here ?_)
    simp only [Bool.false_eq_true, if_false]
    refine wpAny_bind (wpAny_mono one (fun r s' z => ?_) fun _ _ e => e)
    obtain ⟨v, rfl, hq⟩ := z
    exact wpAny_pure hq
  · refine wpAny_bind (wpAny_pure ?_)
    simp only [Bool.false_eq_true, if_false]
    refine wpAny_bind (wpAny_mono one (fun r s' z => ?_) fun _ _ e => e)
    obtain ⟨v, rfl, hq⟩ := z
    exact wpAny_pure hq
end
end Lw
end PySem
namespace L2
open PySem PySem.Spec PyProof.Rows
section
variable {X : Cx} {n : Nat} {C f : Addr} {fd : FuncData} {ps : List Str} {sp : Sp}
theorem own_runG {pins : List (Addr × Obj)} {σ : St} {H : Hp} {s : Shared} {Q : VK} {A : Around} {us : List Value} {vs : List V} (F : FnG X.prog X.w X.K X.mg X.base n f fd ps sp) (hb : Binds X.K fd ps []) (sb : Sub X n A) (hgd : A.guards = some [])
    (I : Inv X pins σ H s) (r : Vals vs us) (h : sp vs H Q E0) : wpAny (model X.prog X.w) A (call (.ref f) us) (EP X pins σ Q) X.xe s := by
  have e0 : Env0 X.prog X.w X.K X.mg X.base A X.stack s H := by
    have e := I.env0
    exact ⟨by rw [sb.fr]; exact e.frames, e.mod, e.bs, e.bsz, e.funs, e.frf, e.hok, e.bare⟩
  have hl := F.arity _ _ _ _ h
  refine wpAny_call (codeAny_mono (F.runs A X.stack s H ⟨us, []⟩ us vs _ E0 sb.room hgd e0 (by
    have := hb s us I.kIn (by rw [List.append_nil, ← r.length]; exact hl)
    simpa using this) r h) fun r s' hq => ?_)
  cases r with
  | error e =>
    obtain ⟨_, _, _, _, _, _, _, _, _, _, _, _, z⟩ := hq
    exact z.elim
  | ok fl =>
    cases fl with
    | ret w => exact I.after hq
    | next => exact False.elim hq
    | brk => exact False.elim hq
    | cont => exact False.elim hq
/-- len(x) by the class's own __len__ -/
theorem call_lenOwn (F : FnG X.prog X.w X.K X.mg X.base n f fd ps sp) (hr : Room (n + 1) X.A) (hgd : X.A.guards = some []) (hb : Binds X.K fd ps []) (hs : PySem.W.findIn X.K (.ref C) "__len__" = some (some (.ref f))) (hf : PySem.W.isFn X.K (.ref f) = true) :
    CallR X (.builtin "len") (fun xs H Q => ∃ y dx fs, xs = [.ref y] ∧ H y = some (.ins C dx fs) ∧ sp [.ref y] H (fun v H' => ∃ k : Nat, v = .int k ∧ k < 4611686018427387904 ∧ Q (.int k) H') E0) := by
  intro pins s σ H xs us Q I r h
  obtain ⟨y, dx, fs, rfl, hy, h⟩ := h
  obtain ⟨u, rfl, ru⟩ := vals1 r
  cases ru
  obtain ⟨m, J, _⟩ := ins_get I.hok hy
  obtain ⟨od, J, _⟩ := J.look
  obtain ⟨mf, hF⟩ := I.fr
  refine PySem.W.len_K hF I.ok.mod.kin J hs hf ?_
  refine wpAny_mono (own_runG (vs := [.ref y]) F hb ⟨hr.in1, rfl⟩ hgd I (.cons rfl .nil) h) (fun v s' q => ?_) fun _ _ e => e
  obtain ⟨z, H', I', rz, k, ez, hk, q⟩ := q
  subst ez
  obtain ⟨t, rfl⟩ := rz
  exact ⟨⟨by omega, by omega⟩, ⟨.int k, H', I'.tok _, ⟨_, rfl⟩, q⟩⟩
/-- str(x) by the class's own __str__ -/
theorem call_strOwn (F : FnG X.prog X.w X.K X.mg X.base n f fd ps sp) (hr : Room (n + 2) X.A) (hgd : X.A.guards = some []) (hb : Binds X.K fd ps []) (hs : PySem.W.findIn X.K (.ref C) "__str__" = some (some (.ref f))) (hf : PySem.W.isFn X.K (.ref f) = true) :
    CallR X (.type "str") (fun xs H Q => ∃ y dx fs, xs = [.ref y] ∧ H y = some (.ins C dx fs) ∧ sp [.ref y] H (fun v H' => ∃ x, v = .str x ∧ Q (.str x) H') E0) := by
  intro pins s σ H xs us Q I r h
  obtain ⟨y, dx, fs, rfl, hy, h⟩ := h
  obtain ⟨u, rfl, ru⟩ := vals1 r
  cases ru
  obtain ⟨m, J, _⟩ := ins_get I.hok hy
  obtain ⟨od, J, _⟩ := J.look
  refine PySem.W.kso_call hr.in1.in1.units0 I.kIn J hs hf ?_
  refine wpAny_mono (own_runG (vs := [.ref y]) F hb ⟨hr.in1.in1, rfl⟩ hgd I (.cons rfl .nil) h) (fun v s' q => ?_) fun _ _ e => e
  obtain ⟨z, H', I', rz, x, ez, q⟩ := q
  subst ez
  obtain ⟨t, rfl⟩ := rz
  exact ⟨.str x, H', I', ⟨_, rfl⟩, q⟩
/-- what an own == or != asks: an instance on the left, any value of a known type on the right -/
def rOwnCmp (K : PySem.W.Frag) (C : Addr) (sp : Sp) (g : Bool → Bool) : R2 := fun x y H Q => ∃ a dx fs ty, x = .ref a ∧ H a = some (.ins C dx fs) ∧ TyX K H y ty ∧ PySem.W.notFirst K C ty = true ∧ sp [x, y] H (fun v H' => ∃ b, v = .bl b ∧ Q (.bl (g b)) H') E0
theorem op_eqOwn (F : FnG X.prog X.w X.K X.mg X.base n f fd ps sp) (hr : Room n X.A) (hgd : X.A.guards = some []) (hb : Binds X.K fd ps []) (hs : PySem.W.findIn X.K (.ref C) "__eq__" = some (some (.ref f))) (hf : PySem.W.isFn X.K (.ref f) = true) :
    OpR X (compareOp .Eq) (rOwnCmp X.K C sp fun b => b) := by
  intro pins s σ H x y v u Q I rx ry h
  obtain ⟨a, dx, fs, ty, rfl, ha, hty, hnf, h⟩ := h
  cases rx
  obtain ⟨m, J, _⟩ := ins_get I.hok ha
  obtain ⟨od, J, _⟩ := J.look
  obtain ⟨mf, hF⟩ := I.fr
  obtain ⟨P, kx, hP, _⟩ := kit_of I ry hty
  show wpAny (model X.prog X.w) X.A (richCompare .Eq (.ref a) u) (EP X pins σ Q) X.xe s
  refine PySem.W.cmp_K (op := .Eq) hr.units0 hF I.ok.mod.kin J (kx.ty _ _ I.kIn hP) hnf hs hf ?_
  refine wpAny_mono (own_runG (vs := [.ref a, y]) F hb ⟨hr, rfl⟩ hgd I (.cons rfl (.cons ry .nil)) h) (fun v s' q => ?_) fun _ _ e => e
  obtain ⟨z, H', I', rz, b, ez, q⟩ := q
  subst ez
  cases rz
  exact ⟨.bl b, H', I', rfl, q⟩
theorem op_neOwn (F : FnG X.prog X.w X.K X.mg X.base n f fd ps sp) (hr : Room (n + 1) X.A) (hgd : X.A.guards = some []) (hb : Binds X.K fd ps []) (hn : PySem.W.findIn X.K (.ref C) "__ne__" = some (some (.builtin "object.__ne__"))) (hs : PySem.W.findIn X.K (.ref C) "__eq__" = some (some (.ref f))) (hf : PySem.W.isFn X.K (.ref f) = true)
    (ho : PySem.W.subIn X.K (.ref C) (.type "object") = some true) : OpR X (compareOp .NotEq) (rOwnCmp X.K C sp fun b => !b) := by
  intro pins s σ H x y v u Q I rx ry h
  obtain ⟨a, dx, fs, ty, rfl, ha, hty, hnf, h⟩ := h
  cases rx
  obtain ⟨m, J, _⟩ := ins_get I.hok ha
  obtain ⟨od, J, _⟩ := J.look
  obtain ⟨P, kx, hP, _⟩ := kit_of I ry hty
  show wpAny (model X.prog X.w) X.A (richCompare .NotEq (.ref a) u) (EP X pins σ Q) X.xe s
  refine PySem.Lw.ne_K (Nat.lt_of_le_of_lt (by omega) hr.units) I.kIn J (kx.ty _ _ I.kIn hP) hnf hn hs hf ho ?_
  refine wpAny_mono (own_runG (vs := [.ref a, y]) F hb ⟨hr.in1, rfl⟩ hgd I (.cons rfl (.cons ry .nil)) h) (fun v s' q => ?_) fun _ _ e => e
  obtain ⟨z, H', I', rz, b, ez, q⟩ := q
  subst ez
  cases rz
  exact ⟨b, rfl, ⟨.bl (!b), H', I', rfl, q⟩⟩
end
end L2
set_option Elab.async false
set_option linter.all false
set_option maxRecDepth 100000
set_option maxHeartbeats 4000000
/-! data stays data; how long a repr is -/
namespace L2
open PySem PySem.Spec PyProof.Rows
theorem Same.seqT {K : PySem.W.Frag} {H H' : Hp} {a : Addr} {xs : List V} (e : Same H H') (h : SqT K H a xs) : SqT K H' a xs := by
  rcases h with (h | ⟨o, h⟩) | h
  · exact .inl (.inl (e _ _ h))
  · exact .inl (.inr ⟨o, e _ _ h⟩)
  · exact .inr h
mutual
theorem Dp.same {K : PySem.W.Frag} {H H' : Hp} (e : Same H H') : ∀ {v : V} {d : PyData}, Dp K H v d → Dp K H' v d
  | _, _, .non => .non
  | _, _, .bl b => .bl b
  | _, _, .int i => .int i
  | _, _, .str x => .str x
  | _, _, .lst h r => .lst (e.seq h) (DpAll.same e r)
  | _, _, .tup h r => .tup (e.seqT h) (DpAll.same e r)
theorem DpAll.same {K : PySem.W.Frag} {H H' : Hp} (e : Same H H') : ∀ {vs : List V} {ds : List PyData}, DpAll K H vs ds → DpAll K H' vs ds
  | _, _, .nil => .nil
  | _, _, .cons h r => .cons (Dp.same e h) (DpAll.same e r)
end
theorem Rp.same {K : PySem.W.Frag} {H H' : Hp} (e : Same H H') {v : V} {d : PyData} (h : Rp K H v d) : Rp K H' v d := by
  rcases h with ⟨h, z⟩ | ⟨a, h1, h2, h3⟩
  · exact .inl ⟨h.same e, z⟩
  · exact .inr ⟨a, h1, e _ _ h2, h3⟩
theorem listText_len (ts : List Str) : (PySem.listText ts).length ≤ piled ts + 2 := by
  cases ts with
  | nil => decide
  | cons t ts =>
    have e : PySem.listText (t :: ts) = textFrom 1 ("[" ++ "" ++ t) ts ++ "]" := rfl
    rw [e, Str.length_append, textFrom_length_pos _ _ _ (by decide), piled_cons, Str.length_append, Str.length_append]
    have e1 : (Str.ofString "[").length = 1 := rfl
    have e2 : (Str.ofString "").length = 0 := rfl
    have e3 : (Str.ofString "]").length = 1 := rfl
    show _ + _ + _ + _ + (Str.ofString "]").length ≤ _
    omega
theorem TyOf.same {K : PySem.W.Frag} {H H' : Hp} (e : Same H H') {v : V} {t : Value} (h : TyOf K H v t) : TyOf K H' v t := by
  cases h with
  | non => exact .non
  | bl x => exact .bl x
  | int x => exact .int x
  | str x => exact .str x
  | flt x => exact .flt x
  | lst h => exact .lst (e _ _ h)
  | frz h => exact .frz (e _ _ h)
  | tup h => exact .tup (e _ _ h)
  | dK h => exact .dK (e _ _ h)
  | dT h => exact .dT (e _ _ h)
  | ins h cl a b c d => exact .ins (e _ _ h) cl a b c d
theorem TyX.same {K : PySem.W.Frag} {H H' : Hp} (e : Same H H') {v : V} {t : Value} (h : TyX K H v t) : TyX K H' v t := by
  cases h with
  | base h => exact .base (TyOf.same e h)
  | byt b => exact .byt b
  | set h => exact .set (e _ _ h)
  | kList h c => exact .kList h c
  | kTuple h c => exact .kTuple h c
  | kDict h c => exact .kDict h c
  | fTuple h => exact .fTuple (e _ _ h)
  | fDict h => exact .fDict (e _ _ h)
theorem NotStr.same {K : PySem.W.Frag} {H H' : Hp} (e : Same H H') {v : V} (h : NotStr K H v) : NotStr K H' v := by
  obtain ⟨t, h1, h2⟩ := h
  exact ⟨t, TyX.same e h1, h2⟩
/-- None, or a list of a number and True -/
def tellD : Option Int → PyData
  | none => .none
  | some k => .list [.int k, .bool true]
theorem tellD_flat {r : Option Int} : (tellD r).hasDict = false ∧ (tellD r).depth ≤ 1 := by
  cases r with
  | none => exact ⟨rfl, Nat.zero_le _⟩
  | some k => exact ⟨rfl, Nat.le_refl _⟩
theorem tellD_ok {r : Option Int} (h : ∀ k, r = some k → k.natAbs.log2 < 1920) : (tellD r).showable = true ∧ (tellD r).shown.length ≤ 2000 := by
  cases r with
  | none => exact ⟨rfl, by decide⟩
  | some k =>
    have hk := h k rfl
    refine ⟨by simpa [tellD, PyData.showable, PyData.showableAll] using hk, ?_⟩
    show (PySem.listText [Str.ofString (toString k), "True"]).length ≤ 2000
    have := listText_len [Str.ofString (toString k), "True"]
    have h1 := int_text_len_1921 hk
    rw [piled_cons, piled_cons, piled_nil] at this
    have e1 : (Str.ofString "True").length = 4 := rfl
    omega
/-- two of them in a list -/
theorem two_ok {d : PyData} (h : d.hasDict = false ∧ d.depth ≤ 1) (hs : d.showable = true ∧ d.shown.length ≤ 2000) : (PyData.list [d, d]).hasDict = false ∧ (PyData.list [d, d]).showable = true ∧ (PyData.list [d, d]).depth ≤ 60 ∧ (PyData.list [d, d]).shown.length ≤ sizeLine := by
  refine ⟨?_, ?_, ?_, ?_⟩
  · simp [PyData.hasDict, PyData.hasDictAll, h.1]
  · simp [PyData.showable, PyData.showableAll, hs.1]
  · show max d.depth (max d.depth 0) + 1 ≤ 60
    omega
  · show (PySem.listText [d.shown, d.shown]).length ≤ sizeLine
    have := listText_len [d.shown, d.shown]
    rw [piled_cons, piled_cons, piled_nil] at this
    exact Nat.le_trans (show _ ≤ 5000 by omega) (by decide)
end L2
set_option Elab.async false
set_option linter.all false
set_option maxRecDepth 100000
set_option maxHeartbeats 4000000
/-! own classes: C(e, ..), C(k = v) with an __init__ that may raise -/
namespace L2
open PySem PySem.Spec PyProof.Rows
theorem make_guards {A : Around} {C : Addr} {us : List Value} {kw : List (Str × Value)} : (A.under (.builtin "type.__call__" ⟨.ref C :: us, kw⟩)).guards = A.guards := by
  first | rfl | simp [Around.under, Code.weight, Code.isCreation, Code.isGuard, Code.isCaller, Code.frames, Code.isFrame, guardIds]
/-- C(e, .., k = v, ..): a new instance and its dict, then __init__; gV puts the values in order behind self -/
def tMakeG (C : Addr) (sp : Sp) (gV : List V → List V → List V) (E : St → XK) (tf : TE) (t tk : TA) : TE := fun σ H Q => tf σ H fun c H0 => c = .ref C ∧ t σ H0 fun vs H1 => tk σ H1 fun zs H2 => ∀ x dx, H2 x = none → H2 dx = none → dx ≠ x →
  sp (gV (.ref x :: vs) zs) (upd (upd H2 dx (.own x)) x (.ins C dx [])) (fun v H3 => v = .non ∧ Q (.ref x) H3) (E σ)
section
variable {X : Cx} {k : Nat} {f C : Addr} {fd : FuncData} {ps ks : List Str} {sp : Sp} {E : St → XK} {x : Str} {p pos : Pos} {e : Expr} {es : List Expr} {kws : List Keyword} {tf : TE} {t tk : TA} {g : List Value → List Value → List Value} {gV : List V → List V → List V}
theorem run_makeG {pins : List (Addr × Obj)} {σ : St} {H : Hp} {s : Shared} {Q : VK} {us ws : List Value} {vs zs : List V} (M : Mk X.K C f) (F : FnG X.prog X.w X.K X.mg X.base k f fd ps sp) (hr : Room (k + 1) X.A) (hgd : X.A.guards = some []) (hb : KBinds X.K fd ps ks g gV)
    (hx : PassesAt (L2.CX X.prog X.w) X σ (E σ)) (I : Inv X pins σ H s) (r : Vals vs us) (rz : Vals zs ws)
    (h : ∀ x dx, H x = none → H dx = none → dx ≠ x → sp (gV (.ref x :: vs) zs) (upd (upd H dx (.own x)) x (.ins C dx [])) (fun v H2 => v = .non ∧ Q (.ref x) H2) (E σ)) :
    wpAny (model X.prog X.w) X.A (call (.ref C) us (ks.zip ws)) (EP X pins σ Q) X.xe s := by
  have hq := h (s.heap.objs.size + 1) s.heap.objs.size (I.hok.fresh (Nat.le_succ _)) (I.hok.fresh (Nat.le_refl _)) (Nat.ne_of_lt (Nat.lt_succ_self _))
  have I2 := Inv.made (C := C) I
  have r1 : Vals (V.ref (s.heap.objs.size + 1) :: vs) (Value.ref (s.heap.objs.size + 1) :: us) := .cons rfl r
  have r2 := hb.rel r1 rz
  have hl : (g (Value.ref (s.heap.objs.size + 1) :: us) ws).length = ps.length := by rw [← r2.length]; exact F.arity _ _ _ _ hq
  refine wpAny_call (make_map (f := f) I.kIn M.makes M.init (beq_iff_eq.mp M.fn) (codeAny_mono (F.runs _ X.stack _ _ ⟨Value.ref (s.heap.objs.size + 1) :: us, ks.zip ws⟩ (g (Value.ref (s.heap.objs.size + 1) :: us) ws) _ _ (E σ) (hr.make C us (ks.zip ws)) (make_guards.trans hgd)
    (I2.env0.make C us (ks.zip ws)) (hb.to _ (Value.ref (s.heap.objs.size + 1) :: us) ws I2.kIn hl) r2 hq) fun r s' hq' => ?_))
  cases r with
  | error e => exact hx pins _ _ e s' I2 hq'
  | ok fl =>
    cases fl with
    | ret u =>
      obtain ⟨v, H', I3, rv, ev, q3⟩ := I2.after hq'
      subst ev
      exact ⟨rv, ⟨V.ref (s.heap.objs.size + 1), H', I3, rfl, q3⟩⟩
    | next => exact False.elim hq'
    | brk => exact False.elim hq'
    | cont => exact False.elim hq'
/-- C(e, ..) -/
theorem pe_makeG (M : Mk X.K C f) (F : FnG X.prog X.w X.K X.mg X.base k f fd ps sp) (hr : Room (k + 1) X.A) (hgd : X.A.guards = some []) (hb : KBinds X.K fd ps [] g gV) (hx : ∀ σ, PassesAt (L2.CX X.prog X.w) X σ (E σ)) (hf : PE X (.Name x p) tf) (ha : PA X (e :: es) t)
    (he : starEach (e :: es) X.env = (false, eval e X.env) :: starEach es X.env := by rfl) (hpl : (backTo pos (starEach es X.env)).any (·.1) = false := by rfl) :
    PE X (.Call (.Name x p) (e :: es) [] pos) (tMakeG C sp gV E tf t tNil) := by
  refine ⟨fun pins s σ H Q I h => ?_⟩
  refine wpAny_Call_Name_kw (thn (hf.run pins s σ H _ I h) fun u s1 ⟨c, H1, I1, rc, ec, q1⟩ => ?_)
  subst ec
  obtain rfl : u = Value.ref C := rc
  refine PySem.W.callWith_K (h₀ := X.base) I1.ok.mod.kin M.kp (thn (ha.run pos pins s1 σ H1 _ I1 q1) fun us s2 ⟨vs, H2, I2, r, q⟩ => ⟨I2.kIn, ?_⟩) he hpl
  exact run_makeG (ws := []) (zs := []) M F hr hgd hb (hx σ) I2 r .nil q
/-- C(k = v, ..) -/
theorem pe_makeK0G (M : Mk X.K C f) (F : FnG X.prog X.w X.K X.mg X.base k f fd ps sp) (hr : Room (k + 1) X.A) (hgd : X.A.guards = some []) (hb : KBinds X.K fd ps ks g gV) (hx : ∀ σ, PassesAt (L2.CX X.prog X.w) X σ (E σ)) (hf : PE X (.Name x p) tf) (hkw : PK X kws tk)
    (hall : (backToKw pos (keywordEach kws X.env)).all (·.1.isSome) = true := by rfl) (hks : (backToKw pos (keywordEach kws X.env)).filterMap (·.1) = ks := by rfl)
    (hpl : ((backTo pos (starEach [] X.env)).any (·.1) || (backToKw pos (keywordEach kws X.env)).any (·.1.isNone)) = false := by rfl) :
    PE X (.Call (.Name x p) [] kws pos) (tMakeG C sp gV E tf tNil tk) := by
  refine ⟨fun pins s σ H Q I h => ?_⟩
  refine wpAny_Call_Name_kw (thn (hf.run pins s σ H _ I h) fun u s1 ⟨c, H1, I1, rc, ec, q1⟩ => ?_)
  subst ec
  obtain rfl : u = Value.ref C := rc
  refine PySem.W.callWith_KW0 (h₀ := X.base) I1.ok.mod.kin M.kp hall (thn (hkw.run pos pins s1 σ H1 _ I1 q1) fun ws s2 ⟨zs, H2, I2, rz, q2⟩ => ⟨I2.kIn, ?_⟩) hpl
  rw [hks]
  exact run_makeG (us := []) (vs := []) M F hr hgd hb (hx σ) I2 .nil rz q2
end
end L2
set_option Elab.async false
set_option linter.all false
set_option maxRecDepth 100000
set_option maxHeartbeats 4000000
/-! classmethods: C.m(e, ..), C.m(k = v) -/
namespace L2
open PySem PySem.Spec PyProof.Rows ClX
def tCMethG (C : Addr) (sp : Sp) (gV : List V → List V → List V) (E : St → XK) (ta : TE) (t tk : TA) : TE := fun σ H Q => ta σ H fun x H1 => x = .ref C ∧ t σ H1 fun vs H2 => tk σ H2 fun zs H3 => sp (gV (.ref C :: vs) zs) H3 Q (E σ)
section
variable {X : Cx} {k : Nat} {C p g : Addr} {mc : Value} {fd : FuncData} {ps ks : List Str} {sp : Sp} {E : St → XK} {o e : Expr} {es : List Expr} {m : Str} {pos apos : Pos} {kws : List Keyword} {ta : TE} {t tk : TA} {pl : Sem Bool} {gf : List Value → List Value → List Value} {gV : List V → List V → List V}
theorem run_cmG {pins : List (Addr × Obj)} {σ : St} {H : Hp} {s : Shared} {q : Addr} {Q : VK} {us ws : List Value} {vs zs : List V} (F : FnG X.prog X.w X.K X.mg X.base k g fd ps sp) (hr : Room k X.A) (hgd : X.A.guards = some []) (hb : KBinds X.K fd ps ks gf gV) (hx : PassesAt (L2.CX X.prog X.w) X σ (E σ))
    (I : Inv X ((q, PySem.W.methodObj (.ref g) (.ref C)) :: pins) σ H s) (r : Vals vs us) (rz : Vals zs ws) (h : sp (gV (.ref C :: vs) zs) H Q (E σ)) : wpAny (model X.prog X.w) X.A (call (.ref q) us (ks.zip ws)) (EP X pins σ Q) X.xe s := by
  have r2 := hb.rel (Paired.cons (show RelV (.ref C) (.ref C) from rfl) r) rz
  have hl : (gf (.ref C :: us) ws).length = ps.length := by rw [← r2.length]; exact F.arity _ _ _ _ h
  have z : wpAny (model X.prog X.w) X.A (call (.ref q) us (ks.zip ws)) (EP X ((q, PySem.W.methodObj (.ref g) (.ref C)) :: pins) σ Q) X.xe s := by
    refine wpAny_call (PySem.W.method_call (pin_at I) (codeAny_mono (F.runs X.A X.stack s H ⟨.ref C :: us, ks.zip ws⟩ (gf (.ref C :: us) ws) _ Q (E σ) hr hgd I.env0 (hb.to s (.ref C :: us) ws I.kIn hl) r2 h) fun r s' hq => ?_))
    cases r with
    | error e => exact hx _ H s e s' I hq
    | ok fl =>
      cases fl with
      | ret u => exact I.after hq
      | next => exact False.elim hq
      | brk => exact False.elim hq
      | cont => exact False.elim hq
  exact thn z fun _ _ y => unpinE y
theorem pe_cmethG (he : PE X o ta) (r : CRead X.K C mc) (c : CMet X.K C mc m p g) (F : FnG X.prog X.w X.K X.mg X.base k g fd ps sp) (hr : Room k X.A) (hgd : X.A.guards = some []) (hb : KBinds X.K fd ps [] gf gV) (hx : ∀ σ, PassesAt (L2.CX X.prog X.w) X σ (E σ)) (ha : PA X (e :: es) t)
    (hst : starEach (e :: es) X.env = (false, eval e X.env) :: starEach es X.env := by rfl) (hpl : (backTo pos (starEach es X.env)).any (·.1) = false := by rfl)
    (ht : eval (.Call (.Attribute o m apos) (e :: es) [] pos) X.env = (do
      let ov ← eval o X.env
      standAt apos.atName
      let (f, first) ← holding [ov] (getMethod ov m pl)
      callWith pos f first (backTo pos (starEach (e :: es) X.env)) (backToKw pos (keywordEach [] X.env))) := by rfl) :
    PE X (.Call (.Attribute o m apos) (e :: es) [] pos) (tCMethG C sp gV E ta t tNil) := by
  refine ⟨fun pins s σ H Q I h => ?_⟩
  refine PySem.W.methodCall_KW (pl := pl) (thn (he.run pins s σ H _ I h) fun u s1 ⟨x, H1, I1, rx, ex, q⟩ => ?_) ht
  subst ex
  obtain rfl : u = Value.ref C := rx
  refine getmethcm_ok I1 r c fun s2 I2 => ?_
  refine callwith_cm I2 (base_none I1 (Nat.le_refl _)) c.fi (thn (ha.run pos _ s2 σ H1 _ I2 q) fun us s3 ⟨vs, H2, I3, rv, q2⟩ => ⟨⟨pin_at I3, I3.kIn⟩, ?_⟩) hst hpl
  exact run_cmG (ws := []) (zs := []) F hr hgd hb (hx σ) I3 rv .nil q2
theorem pe_cmethK0G (he : PE X o ta) (r : CRead X.K C mc) (c : CMet X.K C mc m p g) (F : FnG X.prog X.w X.K X.mg X.base k g fd ps sp) (hr : Room k X.A) (hgd : X.A.guards = some []) (hb : KBinds X.K fd ps ks gf gV) (hx : ∀ σ, PassesAt (L2.CX X.prog X.w) X σ (E σ)) (hkw : PK X kws tk)
    (hall : (backToKw pos (keywordEach kws X.env)).all (·.1.isSome) = true := by rfl) (hks : (backToKw pos (keywordEach kws X.env)).filterMap (·.1) = ks := by rfl)
    (hpl : ((backTo pos (starEach [] X.env)).any (·.1) || (backToKw pos (keywordEach kws X.env)).any (·.1.isNone)) = false := by rfl)
    (ht : eval (.Call (.Attribute o m apos) [] kws pos) X.env = (do
      let ov ← eval o X.env
      standAt apos.atName
      let (f, first) ← holding [ov] (getMethod ov m pl)
      callWith pos f first (backTo pos (starEach [] X.env)) (backToKw pos (keywordEach kws X.env))) := by rfl) :
    PE X (.Call (.Attribute o m apos) [] kws pos) (tCMethG C sp gV E ta tNil tk) := by
  refine ⟨fun pins s σ H Q I h => ?_⟩
  refine PySem.W.methodCall_KW (pl := pl) (thn (he.run pins s σ H _ I h) fun u s1 ⟨x, H1, I1, rx, ex, q⟩ => ?_) ht
  subst ex
  obtain rfl : u = Value.ref C := rx
  refine getmethcm_ok I1 r c fun s2 I2 => ?_
  refine PySem.W.callWith_of hpl (PySem.W.keeps_M c.fi) (PyProof.Rows.evalArgs_kw2_nil hall (thn (hkw.run pos _ s2 σ H1 _ I2 q) fun ws s3 ⟨zs, H2, I3, rz, q2⟩ => ⟨(⟨pin_at I3, I3.kIn⟩ : PySem.W.MethP X.K _ g (.ref C) s3.heap), ?_⟩))
  rw [hks]
  exact run_cmG (us := []) (vs := []) F hr hgd hb (hx σ) I3 .nil rz q2
end
end L2
set_option Elab.async false
set_option linter.all false
set_option maxRecDepth 100000
set_option maxHeartbeats 4000000
/-! any data, dicts at any depth: reading and repr (asks of dicts alone that they are not the modules' table) -/
namespace L2
open PySem PySem.Spec PyProof.Rows
mutual
/-- u stands for d in h -/
inductive Sd (h : Heap) : Value → PyData → Prop
  | non : Sd h .none .none
  | bl (b : Bool) : Sd h (.bool b) (.bool b)
  | int (i : Int) (t : Tok) : Sd h (.int i t) (.int i)
  | str (x : Str) (t : Tok) : Sd h (.str x t) (.str x)
  | lst {a : Addr} {o : Obj} {us : Array Value} {n : Nat} {ds : List PyData} (e : h.get? a = some o) (c : o.cls = .type "list") (q : o.data = .seq us n) (r : SdAll h us.toList ds) : Sd h (.ref a) (.list ds)
  | tup {a : Addr} {o : Obj} {us : Array Value} {n : Nat} {ds : List PyData} (e : h.get? a = some o) (c : o.cls = .type "tuple") (q : o.data = .seq us n) (r : SdAll h us.toList ds) : Sd h (.ref a) (.tuple ds)
  | dct {a : Addr} {o : Obj} {es : Array DictEntry} {n : Nat} {kvs : List (PyData × PyData)} (e : h.get? a = some o) (c : o.cls = .type "dict") (q : o.data = .dict es n) (low : (a == sysModules) = false)
      (rk : SdAll h (es.toList.map (·.key)) (kvs.map (·.1))) (rv : SdAll h (es.toList.map (·.val)) (kvs.map (·.2))) : Sd h (.ref a) (.dict kvs)
inductive SdAll (h : Heap) : List Value → List PyData → Prop
  | nil : SdAll h [] []
  | cons {u : Value} {us : List Value} {d : PyData} {ds : List PyData} (r : Sd h u d) (rs : SdAll h us ds) : SdAll h (u :: us) (d :: ds)
end
section
variable {prog : Program} {w : World} {h : Heap}
mutual
theorem Sd.rd : ∀ {u : Value} {d : PyData}, Sd h u d → ∃ as, Reads h u d as
  | _, _, .non => ⟨_, .none⟩
  | _, _, .bl b => ⟨_, .bool b⟩
  | _, _, .int i t => ⟨_, .int i t⟩
  | _, _, .str x t => ⟨_, .str x t⟩
  | _, _, .lst e c q r => let ⟨_, z⟩ := SdAll.rd r; ⟨_, .list e c q z⟩
  | _, _, .tup e c q r => let ⟨_, z⟩ := SdAll.rd r; ⟨_, .tuple e c q z⟩
  | _, _, .dct e c q _ rk rv => let ⟨_, z⟩ := SdAll.rd rk; let ⟨_, y⟩ := SdAll.rd rv; ⟨_, .dict e c q z y⟩
theorem SdAll.rd : ∀ {us : List Value} {ds : List PyData}, SdAll h us ds → ∃ as, ReadsAll h us ds as
  | _, _, .nil => ⟨_, .nil⟩
  | _, _, .cons r rs => let ⟨_, z⟩ := Sd.rd r; let ⟨_, y⟩ := SdAll.rd rs; ⟨_, .cons z y⟩
end
/-- what the repr of a list, tuple, dict asks of its items -/
structure Rk (prog : Program) (w : World) (h : Heap) (d : PyData) (u : Value) : Prop where
  ex : ∃ bs, ReadAtMost h d.depth bs ∧ ReprK prog w bs h d.depth u d.shown
structure RkAll (prog : Program) (w : World) (h : Heap) (ds : List PyData) (us : List Value) : Prop where
  ex : ∃ bs, ReadAtMost h (PyData.depthAll ds) bs ∧ ReprAllK prog w bs h (PyData.depthAll ds) us (PyData.shownAll ds)
theorem rk_flat {u : Value} {d : PyData} (hr : ReprK prog w [] h d.depth u d.shown) : Rk prog w h d u := ⟨[], (fun _ z => nomatch z), hr⟩
theorem rkAll_cons {u : Value} {us : List Value} {d : PyData} {ds : List PyData} (a : Rk prog w h d u) (b : RkAll prog w h ds us) : RkAll prog w h (d :: ds) (u :: us) := by
  obtain ⟨bs, hb, kb⟩ := a.ex
  obtain ⟨cs, hc, kc⟩ := b.ex
  have l1 : d.depth ≤ PyData.depthAll (d :: ds) := by simp only [PyData.depthAll]; exact Nat.le_max_left ..
  have l2 : PyData.depthAll ds ≤ PyData.depthAll (d :: ds) := by simp only [PyData.depthAll]; exact Nat.le_max_right ..
  refine ⟨⟨bs ++ cs, (hb.mono l1).append (hc.mono l2), ?_⟩⟩
  have e : PyData.shownAll (d :: ds) = d.shown :: PyData.shownAll ds := by simp only [PyData.shownAll]
  rw [e]
  exact .cons ((kb.more fun _ z => List.mem_append_left _ z).level_le l1) (kc.more_le (fun _ z => List.mem_append_right _ z) l2)
/-- the pieces of a list's repr -/
theorem rk_list {a : Addr} {o : Obj} {us : Array Value} {n : Nat} {ds : List PyData} (e : h.get? a = some o) (c : o.cls = .type "list") (q : o.data = .seq us n) (r : SdAll h us.toList ds) (hk : RkAll prog w h ds us.toList) :
    Rk prog w h (.list ds) (.ref a) := by
  obtain ⟨bs, hb, kb⟩ := hk.ex
  obtain ⟨as, ra⟩ := SdAll.rd r
  have rr : Reads h (.ref a) (.list ds) (a :: as) := Reads.list e c q ra
  have dl : PyData.depthAll ds < (PyData.list ds).depth := by simp only [PyData.depth]; exact Nat.lt_succ_self _
  have na : a ∉ bs := not_mem_of_deeper rr dl hb
  refine ⟨a :: bs, ReadAtMost.cons rr (Nat.le_of_lt dl) hb, ?_⟩
  have e1 : (PyData.list ds).shown = PySem.listText (PyData.shownAll ds) := by simp only [PyData.shown]
  have e2 : (PyData.list ds).depth = PyData.depthAll ds + 1 := by simp only [PyData.depth]
  rw [e1, e2]
  obtain ⟨l⟩ := us
  cases l with
  | nil =>
    cases r
    have e3 : PySem.listText (PyData.shownAll []) = ("[]" : Str) := by decide +kernel
    rw [e3]
    exact ReprK.listEmpty e c q
  | cons x l => exact ReprK.list e c q na (by have := kb.length_eq; simpa using this) fun i y z => kb.item i y (by simpa using z)
theorem rk_tup {a : Addr} {o : Obj} {us : Array Value} {n : Nat} {ds : List PyData} (e : h.get? a = some o) (c : o.cls = .type "tuple") (q : o.data = .seq us n) (r : SdAll h us.toList ds) (hk : RkAll prog w h ds us.toList) :
    Rk prog w h (.tuple ds) (.ref a) := by
  obtain ⟨bs, hb, kb⟩ := hk.ex
  obtain ⟨as, ra⟩ := SdAll.rd r
  have rr : Reads h (.ref a) (.tuple ds) as := Reads.tuple e c q ra
  have dl : PyData.depthAll ds < (PyData.tuple ds).depth := by simp only [PyData.depth]; exact Nat.lt_succ_self _
  have na : a ∉ bs := not_mem_of_deeper rr dl hb
  refine ⟨a :: bs, ReadAtMost.cons rr (Nat.le_of_lt dl) hb, ?_⟩
  have e1 : (PyData.tuple ds).shown = tupleText (PyData.shownAll ds) := by simp only [PyData.shown]
  have e2 : (PyData.tuple ds).depth = PyData.depthAll ds + 1 := by simp only [PyData.depth]
  rw [e1, e2]
  exact ReprK.tuple e c q na kb
/-- the entries of a dict's repr -/
theorem ents_dict {es : Array DictEntry} {kvs : List (PyData × PyData)} (k1 : RkAll prog w h (kvs.map (·.1)) (es.toList.map (·.key))) (k2 : RkAll prog w h (kvs.map (·.2)) (es.toList.map (·.val))) :
    ∃ bs, ReadAtMost h (PyData.depthKv kvs) bs ∧ ReprEntriesK prog w bs h (PyData.depthKv kvs) es.toList (PyData.shownKv kvs) := by
  obtain ⟨bs, hb, kb⟩ := k1.ex
  obtain ⟨cs, hc, kc⟩ := k2.ex
  have l1 := PyData.depthAll_keys_le kvs
  have l2 := PyData.depthAll_vals_le kvs
  refine ⟨bs ++ cs, (hb.mono l1).append (hc.mono l2), ?_⟩
  rw [PyData.shownKv_eq]
  exact ReprEntriesK.of_two _ _ _ (kb.more_le (fun _ z => List.mem_append_left _ z) l1) (kc.more_le (fun _ z => List.mem_append_right _ z) l2)
theorem rk_dict {a : Addr} {o : Obj} {es : Array DictEntry} {n : Nat} {kvs : List (PyData × PyData)} (e : h.get? a = some o) (c : o.cls = .type "dict") (q : o.data = .dict es n) (low : (a == sysModules) = false)
    (rk : SdAll h (es.toList.map (·.key)) (kvs.map (·.1))) (rv : SdAll h (es.toList.map (·.val)) (kvs.map (·.2)))
    (k1 : RkAll prog w h (kvs.map (·.1)) (es.toList.map (·.key))) (k2 : RkAll prog w h (kvs.map (·.2)) (es.toList.map (·.val))) : Rk prog w h (.dict kvs) (.ref a) := by
  obtain ⟨bs, hb, kb⟩ := ents_dict k1 k2
  obtain ⟨as1, ra1⟩ := SdAll.rd rk
  obtain ⟨as2, ra2⟩ := SdAll.rd rv
  have rr := Reads.dict e c q ra1 ra2
  have dl : PyData.depthKv kvs < (PyData.dict kvs).depth := by simp only [PyData.depth]; exact Nat.lt_succ_self _
  have na : a ∉ bs := not_mem_of_deeper rr dl hb
  refine ⟨a :: bs, ReadAtMost.cons rr (Nat.le_of_lt dl) hb, ?_⟩
  have e1 : (PyData.dict kvs).shown = dictText (PyData.shownKv kvs) := by simp only [PyData.shown]
  have e2 : (PyData.dict kvs).depth = PyData.depthKv kvs + 1 := by simp only [PyData.depth]
  rw [e1, e2]
  exact ReprK.dict e c q low na kb
mutual
/-- texts within are short enough, numbers too -/
theorem Sd.rk : ∀ {u : Value} {d : PyData}, Sd h u d → d.showable = true → d.shown.length ≤ sizeLine → Rk prog w h d u
  | _, _, .non, _, _ => rk_flat (by simp only [PyData.shown]; exact .of_is ReprIs.none _ _ _)
  | _, _, .bl b, _, _ => rk_flat (by simp only [PyData.shown]; exact .of_is (ReprIs.bool b) _ _ _)
  | _, _, .int i t, hs, _ => rk_flat (by simp only [PyData.shown]; exact .of_is (ReprIs.int t (by simpa [PyData.showable] using hs)) _ _ _)
  | _, _, .str x t, _, hz => rk_flat (by simp only [PyData.shown] at hz ⊢; exact .of_is (ReprIs.str x t hz) _ _ _)
  | _, _, .lst e c q r, hs, hz => rk_list e c q r (SdAll.rk r (by simpa [PyData.showable] using hs) fun t ht => Nat.le_trans (listText_mem_le ht) (by simpa only [PyData.shown] using hz))
  | _, _, .tup e c q r, hs, hz => rk_tup e c q r (SdAll.rk r (by simpa [PyData.showable] using hs) fun t ht => Nat.le_trans (tupleText_mem_le ht) (by simpa only [PyData.shown] using hz))
  | _, _, .dct (kvs := kvs) e c q low rk rv, hs, hz => by
    have hz2 : (dictText (PyData.shownKv kvs)).length ≤ sizeLine := by simpa only [PyData.shown] using hz
    obtain ⟨s1, s2⟩ := PyData.showableKv_split kvs (by simpa [PyData.showable] using hs)
    refine rk_dict e c q low rk rv (SdAll.rk rk s1 fun t ht => ?_) (SdAll.rk rv s2 fun t ht => ?_)
    · obtain ⟨p, hp, hl⟩ := PyData.shownKv_key_le kvs t ht
      exact Nat.le_trans (Nat.le_trans hl (dictText_mem_le hp)) hz2
    · obtain ⟨p, hp, hl⟩ := PyData.shownKv_val_le kvs t ht
      exact Nat.le_trans (Nat.le_trans hl (dictText_mem_le hp)) hz2
theorem SdAll.rk : ∀ {us : List Value} {ds : List PyData}, SdAll h us ds → PyData.showableAll ds = true → (∀ t ∈ PyData.shownAll ds, t.length ≤ sizeLine) → RkAll prog w h ds us
  | _, _, .nil, _, _ => ⟨[], (fun _ z => nomatch z), by simp only [PyData.shownAll]; exact .nil⟩
  | _, _, .cons (d := d) (ds := ds) r rs, hs, hz => by
    have hs2 : d.showable = true ∧ PyData.showableAll ds = true := by simpa [PyData.showableAll] using hs
    have e : PyData.shownAll (d :: ds) = d.shown :: PyData.shownAll ds := by simp only [PyData.shownAll]
    rw [e] at hz
    exact rkAll_cons (Sd.rk r hs2.1 (hz _ List.mem_cons_self)) (SdAll.rk rs hs2.2 fun t ht => hz t (List.mem_cons_of_mem _ ht))
end
/-- repr(u) -/
theorem call_repr_sd {A : Around} {E : Value → Shared → Prop} {s : Shared} {Q : Value → Shared → Prop} {u : Value} {d : PyData} (r : Sd s.heap u d) (hs : d.showable = true) (hz : d.shown.length ≤ sizeLine) (hg : A.guards = some []) (hu : A.units + (d.depth + 1) < cLine)
    (hQ : ∀ h' t tk, (∀ b o, s.heap.get? b = some o → h'.get? b = some o) → Q (.str d.shown t) { s with heap := h', toks := tk }) : wpAny (model prog w) A (call (.builtin "repr") [u]) Q E s := by
  cases r with
  | non => exact PySem.P.repr_of_none (hQ s.heap _ _ fun _ _ z => z)
  | bl b => exact PySem.P.repr_of_bool (hQ s.heap _ _ fun _ _ z => z)
  | int i t => exact PySem.P.repr_of_int (by simpa [PyData.showable] using hs) (hQ s.heap _ _ fun _ _ z => z)
  | str x t => exact PySem.P.repr_of_str (hQ s.heap _ _ fun _ _ z => z) (by simpa only [PyData.shown] using hz)
  | lst e c q r =>
    rename_i a o us n ds
    have hz2 : (PySem.listText (PyData.shownAll ds)).length ≤ sizeLine := by simpa only [PyData.shown] using hz
    obtain ⟨bs, hb, kb⟩ := (SdAll.rk (prog := prog) (w := w) r (by simpa [PyData.showable] using hs) fun t ht => Nat.le_trans (listText_mem_le ht) hz2).ex
    obtain ⟨as, ra⟩ := SdAll.rd r
    have na : a ∉ bs := not_mem_of_deeper (Reads.list e c q ra) (by simp only [PyData.depth]; omega) hb
    simp only [PyData.depth] at hu
    simp only [PyData.shown] at hQ
    refine call_repr_slot (by omega) ⟨o, e, c⟩ F.slot_list_repr.toG ?_
    obtain ⟨l⟩ := us
    cases l with
    | nil =>
      cases r
      have e3 : PySem.listText (PyData.shownAll []) = ("[]" : Str) := by decide +kernel
      rw [e3] at hQ
      exact call_list_repr_empty ⟨o, e, c⟩ e q ⟨_, _, rfl, hQ s.heap _ _ fun _ _ z => z⟩
    | cons x l =>
      exact call_list_reprK e c q na (by have := kb.length_eq; simpa using this) (fun i y z => kb.item i y (by simpa using z)) hg (fun b _ => Clear.nil b) (by show A.units + 1 + _ < cLine; omega) (fun _ _ z => z) (fun h' t tk hk => ⟨_, _, rfl, hQ h' t tk hk⟩) hz2
  | tup e c q r =>
    rename_i a o us n ds
    have hz2 : (tupleText (PyData.shownAll ds)).length ≤ sizeLine := by simpa only [PyData.shown] using hz
    obtain ⟨bs, hb, kb⟩ := (SdAll.rk (prog := prog) (w := w) r (by simpa [PyData.showable] using hs) fun t ht => Nat.le_trans (tupleText_mem_le ht) hz2).ex
    obtain ⟨as, ra⟩ := SdAll.rd r
    have na : a ∉ bs := not_mem_of_deeper (Reads.tuple e c q ra) (by simp only [PyData.depth]; omega) hb
    simp only [PyData.depth] at hu
    simp only [PyData.shown] at hQ
    refine call_repr_slot (by omega) ⟨o, e, c⟩ F.slot_tuple_repr ?_
    exact call_tuple_reprK e c q na kb hg (fun b _ => Clear.nil b) (by show A.units + 1 + _ < cLine; omega) (fun _ _ z => z) (fun h' t tk hk => ⟨_, _, rfl, hQ h' t tk hk⟩) hz2
  | dct e c q low rk rv =>
    rename_i a o es n kvs
    have hz2 : (dictText (PyData.shownKv kvs)).length ≤ sizeLine := by simpa only [PyData.shown] using hz
    obtain ⟨s1, s2⟩ := PyData.showableKv_split kvs (by simpa [PyData.showable] using hs)
    obtain ⟨bs, hb, kb⟩ := ents_dict (prog := prog) (w := w) (SdAll.rk rk s1 fun t ht => (by
      obtain ⟨p, hp, hl⟩ := PyData.shownKv_key_le kvs t ht
      exact Nat.le_trans (Nat.le_trans hl (dictText_mem_le hp)) hz2)) (SdAll.rk rv s2 fun t ht => (by
      obtain ⟨p, hp, hl⟩ := PyData.shownKv_val_le kvs t ht
      exact Nat.le_trans (Nat.le_trans hl (dictText_mem_le hp)) hz2))
    obtain ⟨as1, ra1⟩ := SdAll.rd rk
    obtain ⟨as2, ra2⟩ := SdAll.rd rv
    have na : a ∉ bs := not_mem_of_deeper (Reads.dict e c q ra1 ra2) (by simp only [PyData.depth]; omega) hb
    simp only [PyData.depth] at hu
    simp only [PyData.shown] at hQ
    refine call_repr_slot (by omega) ⟨o, e, c⟩ F.slot_dict_repr ?_
    exact call_dict_reprK e c q low na kb hg (fun b _ => Clear.nil b) (by show A.units + 1 + _ < cLine; omega) (fun _ _ z => z) (fun h' t tk hk => ⟨_, _, rfl, hQ h' t tk hk⟩) hz2
end
mutual
/-- v stands for d: None, bools, numbers, texts, lists, tuples, the empty dict, at any depth -/
inductive Av (K : PySem.W.Frag) (H : Hp) : V → PyData → Prop
  | non : Av K H .non .none
  | bl (b : Bool) : Av K H (.bl b) (.bool b)
  | int (i : Int) : Av K H (.int i) (.int i)
  | str (x : Str) : Av K H (.str x) (.str x)
  | lst {a : Addr} {xs : List V} {ds : List PyData} (e : SqL K H a xs) (r : AvAll K H xs ds) : Av K H (.ref a) (.list ds)
  | tup {a : Addr} {xs : List V} {ds : List PyData} (e : SqT K H a xs) (r : AvAll K H xs ds) : Av K H (.ref a) (.tuple ds)
  | dct {a : Addr} (e : H a = some (.dK [])) : Av K H (.ref a) (.dict [])
inductive AvAll (K : PySem.W.Frag) (H : Hp) : List V → List PyData → Prop
  | nil : AvAll K H [] []
  | cons {v : V} {vs : List V} {d : PyData} {ds : List PyData} (r : Av K H v d) (rs : AvAll K H vs ds) : AvAll K H (v :: vs) (d :: ds)
end
section
variable {K : PySem.W.Frag} {H H' : Hp}
mutual
theorem Av.same (e : Same H H') : ∀ {v : V} {d : PyData}, Av K H v d → Av K H' v d
  | _, _, .non => .non
  | _, _, .bl b => .bl b
  | _, _, .int i => .int i
  | _, _, .str x => .str x
  | _, _, .lst h r => .lst (e.seq h) (AvAll.same e r)
  | _, _, .tup h r => .tup (e.seqT h) (AvAll.same e r)
  | _, _, .dct h => .dct (e _ _ h)
theorem AvAll.same (e : Same H H') : ∀ {vs : List V} {ds : List PyData}, AvAll K H vs ds → AvAll K H' vs ds
  | _, _, .nil => .nil
  | _, _, .cons h r => .cons (Av.same e h) (AvAll.same e r)
end
theorem AvAll.length : ∀ {vs : List V} {ds : List PyData}, AvAll K H vs ds → vs.length = ds.length
  | _, _, .nil => rfl
  | _, _, .cons _ r => by rw [List.length_cons, List.length_cons, AvAll.length r]
theorem AvAll.app : ∀ {vs ws : List V} {ds es : List PyData}, AvAll K H vs ds → AvAll K H ws es → AvAll K H (vs ++ ws) (ds ++ es)
  | _, _, _, _, .nil, s => s
  | _, _, _, _, .cons h r, s => .cons h (AvAll.app r s)
end
section
variable {X : Cx} {pins : List (Addr × Obj)} {σ : St} {H : Hp} {s : Shared}
mutual
theorem Av.sd (I : Inv X pins σ H s) : ∀ {v : V} {d : PyData} {u : Value}, Av X.K H v d → RelV v u → Sd s.heap u d
  | _, _, _, .non, r => by cases r; exact .non
  | _, _, _, .bl b, r => by cases r; exact .bl b
  | _, _, _, .int i, r => by obtain ⟨t, rfl⟩ := r; exact .int i t
  | _, _, _, .str x, r => by obtain ⟨t, rfl⟩ := r; exact .str x t
  | _, _, _, .lst e a, r => by
    cases r
    obtain ⟨its, rv, ⟨o, n, ho, hc, _, hd⟩, _⟩ := I.list e
    exact .lst ho hc hd (AvAll.sd I a (by simpa using rv))
  | _, _, _, .tup e a, r => by
    cases r
    obtain ⟨its, rv, ⟨o, ho, hc, n, hd⟩, _⟩ := I.tuple e
    exact .tup ho hc hd (AvAll.sd I a (by simpa using rv))
  | _, _, _, .dct (a := a) e, r => by
    obtain rfl : _ = Value.ref a := r
    obtain ⟨_, low, vs, kv, m⟩ : ([] : List (Key × V)).length ≤ sizeLine ∧ (a == sysModules) = false ∧ ∃ vs, KV ([] : List (Key × V)) vs ∧ s.heap.DictOf (mixKind X.prog X.w) a vs := I.hok a _ e
    cases kv
    obtain ⟨o, es, n, e1, e2, e3, e4⟩ := m
    have e5 : es.toList = [] := by
      have q := e4.2.1
      generalize es.toList = l at q
      cases q
      rfl
    exact .dct e1 e2.1 e3 low (by rw [e5]; exact .nil) (by rw [e5]; exact .nil)
theorem AvAll.sd (I : Inv X pins σ H s) : ∀ {vs : List V} {ds : List PyData} {us : List Value}, AvAll X.K H vs ds → Vals vs us → SdAll s.heap us ds
  | _, _, _, .nil, r => by cases r; exact .nil
  | _, _, _, .cons a b, r => by
    cases r with
    | cons r1 r2 => exact .cons (Av.sd I a r1) (AvAll.sd I b r2)
end
end
def rReprV (K : PySem.W.Frag) : List V → Hp → VK → Prop := fun xs H Q => ∃ v d, xs = [v] ∧ Av K H v d ∧ d.showable = true ∧ d.depth ≤ 60 ∧ d.shown.length ≤ sizeLine ∧ Q (.str d.shown) H
theorem call_reprV {X : Cx} (hgd : X.A.guards = some []) (hu : X.A.units + 64 < cLine) : CallR X (.builtin "repr") (rReprV X.K) := by
  intro pins s σ H xs us Q I r h
  obtain ⟨v, d, rfl, hv, hs, hdp, hz, q⟩ := h
  obtain ⟨u, rfl, ru⟩ := vals1 r
  exact call_repr_sd (Av.sd I hv ru) hs hz hgd (by omega) fun h' t tk hk => ⟨.str _, H, I.kept hk, ⟨_, rfl⟩, q⟩
end L2
set_option Elab.async false
set_option linter.all false
set_option maxRecDepth 100000
set_option maxHeartbeats 4000000
/-! a tuple of any items compared to () -/
namespace GQ
open PySem PySem.SeqAt
open AutoSeq1 (wpAny_loadPart')
open MeetsSeq MeetsSeq2 MeetsSeq3 SeqRoads2
section
variable {prog : Program} {w : World} {A : Around} {R : Result → Shared → Prop}
theorem tup_nilG {l b : Addr} {its : Array Value} {n n2 : Nat} {dd dd2 : Option Addr} {sl sl2 : Array (Option Value)} {s : Shared} (h1 : s.heap.get? l = some { cls := .type "tuple", dict := dd, data := .seq its n, slots := sl })
    (h2 : s.heap.get? b = some { cls := .type "tuple", dict := dd2, data := .seq #[] n2, slots := sl2 }) (fin : ∀ t, R (.ok (.ret (.bool (its.size == 0)))) { s with toks := t }) :
    wpAny (model prog w) A.in1 (Builtin.«tuple.__eq__» ⟨[.ref l, .ref b], []⟩) (FinOf prog w A R) (fun e s' => R (.error e) s') s := by
  have sub2 := AutoSeq1.sub_tuple_tuple
  obtain ⟨hp, g, d, tk, os⟩ := s
  wp_walk using wpAny_loadPart' h1, wpAny_loadPart' h2, wpAny_forIn_list _ (fun rest b s' => b.1 = none ∧ rest = [] ∧ s' = ⟨hp, g, d, tk, os⟩) _
  case turn =>
    rintro ⟨y, x⟩ rest b s' ⟨_, z, _⟩
    cases z
  case fin =>
    rintro ⟨b1, b2⟩ s' ⟨z1, _, z3⟩
    simp only at z1
    subst z1 z3
    have z := fin tk
    wp_walk
    simp [Builtin.Tuple.tupleCompareSizes]
    exact z
  case h =>
    exact ⟨rfl, by simp, rfl⟩
theorem rc_tupNil {l b : Addr} {its : Array Value} {E : Value → Shared → Prop} {s : Shared} {Q : Value → Shared → Prop} (hu : A.units < cLine) (hl : s.heap.IsTuple l its) (hb : s.heap.IsTuple b #[]) (fin : ∀ t, Q (.bool (its.size == 0)) { s with toks := t }) :
    wpAny (model prog w) A (richCompare .Eq (.ref l) (.ref b)) Q E s := by
  obtain ⟨⟨c1, d1, q1, s1⟩, o1, k1, n1, e1⟩ := id hl
  obtain ⟨⟨c2, d2, q2, s2⟩, o2, k2, n2, e2⟩ := id hb
  simp only at k1 e1 k2 e2
  subst k1 e1 k2 e2
  refine wpAny_richCompare_same_room (op := .Eq) ⟨_, o1, rfl⟩ ⟨_, o2, rfl⟩ F.slot_tuple_eq (call_here F.slot_tuple_eq ⟨_, o1, rfl⟩ F.entry_tuple_eq (F.args_tuple_eq_2 _ _) ?_) hu
  exact tup_nilG (R := wants (fun v s' => v ≠ .notImplemented ∧ Q v s') E) o1 o2 fun t => ⟨(fun x => nomatch x), fin t⟩
end
end GQ
namespace L2
open PySem PySem.Spec PyProof.Rows
/-- xs == (), xs any tuple -/
def rEqNilT (K : PySem.W.Frag) : R2 := fun x y H Q => ∃ a b xs, x = .ref a ∧ y = .ref b ∧ SqT K H a xs ∧ SqT K H b [] ∧ Q (.bl xs.isEmpty) H
theorem op_eqNilT {X : Cx} (hu : X.A.units + 64 < cLine) : OpR X (compareOp .Eq) (rEqNilT X.K) := by
  intro pins s σ H x y v u Q I rx ry h
  obtain ⟨a, b, xs, rfl, rfl, ha, hb, q⟩ := h
  cases rx
  cases ry
  obtain ⟨its, r, t1, _⟩ := I.tuple ha
  obtain ⟨its2, r2, t2, _⟩ := I.tuple hb
  cases r2
  show wpAny (model X.prog X.w) X.A (richCompare .Eq (.ref a) (.ref b)) (EP X pins σ Q) X.xe s
  refine GQ.rc_tupNil (Nat.lt_of_le_of_lt (by omega) hu) t1 t2 fun t => ⟨.bl xs.isEmpty, H, I.tok t, ?_, q⟩
  show Value.bool _ = Value.bool _
  congr 1
  have e := r.length
  rw [List.size_toArray, ← e]
  cases xs <;> rfl
end L2

set_option Elab.async false
set_option linter.all false
set_option maxRecDepth 100000
set_option maxHeartbeats 4000000
/-! enumerate of a tuple; enumerate of a list from a written number on -/
namespace PySem
open Sem (wp)
set_option maxHeartbeats 1000000 in
theorem meets_enum1 {v : Value} {o : Obj} {H : Heap → Prop} (B : Begins v o H) :
    Meets (Builtin.«enumerate.__new__» ⟨[.type "enumerate", v], []⟩) (fun _ R s => H s.heap ∧
      R (.ok (.ret (.ref (s.heap.push o).objs.size))) { s with heap := (s.heap.push o).push { cls := .type "enumerate", data := .fields #[.none, .bool false, .ref s.heap.objs.size, rawInt 0, .none, .none] } }) :=
  .of_wp fun prog w A R ⟨hp, gs, dr, tk, os⟩ z => by
    obtain ⟨hH, hR⟩ := z
    have sb := sub_enumerate
    have it : ∀ {A' : Around} {E : Value → Shared → Prop} {Q : Value → Shared → Prop}, Q (.ref hp.objs.size) ⟨hp.push o, gs, dr, tk, os⟩ → wpAny (model prog w) A' (pyIter v) Q E ⟨hp, gs, dr, tk, os⟩ := fun q => B.iter prog w _ _ ⟨hp, gs, dr, tk, os⟩ _ hH q
    wp_walk using it
    refine wpAny_stack_any fun _ => wpAny_pure ?_
    split
    · rename_i c _ _ _ _ _
      cases (c == Value.type "enumerate") <;> (wp_walk using it; exact ⟨_, rfl, hR⟩)
    · wp_walk using it
      exact ⟨_, rfl, hR⟩
theorem enum_begins1 {prog : Program} {w : World} {A : Around} {E : Value → Shared → Prop} {s : Shared} {v : Value} {o : Obj} {H : Heap → Prop} {Q : Value → Shared → Prop} (B : Begins v o H) (hH : H s.heap)
    (fin : ∀ h', IsEnum h' (s.heap.objs.size + 1) s.heap.objs.size 0 .none → h'.get? s.heap.objs.size = some o → (∀ b o, s.heap.get? b = some o → h'.get? b = some o) → Q (.ref (s.heap.objs.size + 1)) { s with heap := h' }) :
    wpAny (model prog w) A (call (.type "enumerate") [v]) Q E s := by
  refine callType_new F.called_enumerate (by decide) (F.typeCall_enumerate_1 _) (F.newCall_enumerate_1 _) (fun obj => F.args_object_init_2 obj _) F.entry_enumerate_new (meets_enum1 B) ⟨hH, ?_⟩
  have sz : (s.heap.push o).objs.size = s.heap.objs.size + 1 := Heap.size_push ..
  rw [sz]
  have e : IsEnum ((s.heap.push o).push { cls := .type "enumerate", data := .fields #[.none, .bool false, .ref s.heap.objs.size, rawInt 0, .none, .none] }) (s.heap.objs.size + 1) s.heap.objs.size 0 .none := by
    have z := Heap.get?_push_size (s.heap.push o) (o := { cls := .type "enumerate", data := .fields #[.none, .bool false, .ref s.heap.objs.size, rawInt 0, .none, .none] }) rfl
    rw [sz] at z
    exact z
  exact ⟨⟨_, e, rfl⟩, fin _ e (Heap.get?_push_of_some _ (Heap.get?_push_size _ B.free)) fun b u x => Heap.get?_push_of_some _ (Heap.get?_push_of_some _ x)⟩
end PySem
namespace L2
open PySem PySem.Spec PyProof.Rows
/-- enumerate from k0 on of the tuple at a: each item in a new pair behind its number -/
def ItqT (K : PySem.W.Frag) (k0 : Int) (a : Addr) : It :=
  ⟨fun i H => ∃ (xs : List V) (x : V), SqT K H a xs ∧ xs[i]? = some x, fun i H v H' => ∃ T x, v = .ref T ∧ H T = none ∧ H' = upd H T (.tup [.int (k0 + (i : Nat)), x]) ∧ ∀ xs, SqT K H a xs → xs[i]? = some x, fun i H => ∃ xs : List V, SqT K H a xs ∧ xs.length = i⟩
theorem turnQT {P : Program} {w : World} {K : PySem.W.Frag} {elts : List Expr} {kk : Nat} {tpos : Pos} (k0 : Int) (a e it : Addr) :
    Turn P w K (.Tuple elts kk tpos) (ItqT K k0 a) [e, it] e (fun i h => (∃ old, IsEnum h e it (k0 + (i : Nat)) old) ∧ h.IsTupleIter it a i ∧ (e ≠ it ∧ a ≠ it ∧ a ≠ e)) where
  mem := List.mem_cons_self ..
  obj := fun i h st b hb => by
    obtain ⟨⟨old, he⟩, ⟨o, ho, _, hd⟩, _⟩ := st
    rcases List.mem_cons.mp hb with rfl | hb
    · exact ⟨_, he, fun v q => nomatch q⟩
    · rw [List.mem_singleton.mp hb]
      exact ⟨o, ho, fun v q => by rw [hd] at q; cases q⟩
  keep := fun i h h' st k => by
    obtain ⟨⟨old, he⟩, hi, hne⟩ := st
    exact ⟨⟨old, k e (by simp) _ he⟩, hi.at fun o q => k it (by simp) o q, hne⟩
  item := by
    intro X hP hw hK hc i pins s σ H E I hfree st hgo
    subst hP hw hK
    obtain ⟨⟨old, he⟩, hit, hne⟩ := st
    obtain ⟨xs, x, hq, hx⟩ := hgo
    obtain ⟨its, rv, p, hz⟩ := I.tuple hq
    obtain ⟨u, hu, ru⟩ := rv.get hx
    have hel : e < s.heap.objs.size := Heap.lt_size he
    have hil : it < s.heap.objs.size := by obtain ⟨_, q, _⟩ := hit; exact Heap.lt_size q
    have lt : i < its.toArray.size := by
      have z := (List.getElem?_eq_some_iff.mp hu).1
      rw [List.size_toArray]; exact z
    refine wpAny_pyNext_enum_itemC (Draws.tuple (A := X.A.in1) (I.ok.hd hc) it a hne.2.1 its.toArray) he ⟨hit, p⟩ lt hne.1 (by simpa using ⟨hne.1, fun z => hne.2.2 z.symm⟩) fun v h' tk hv ho hit' hT hsz hk => ?_
    have ev : v = u := by
      have z : its[i]? = some v := by simpa using hv
      exact Option.some.inj (z.symm.trans hu)
    subst ev
    refine ⟨_, rfl, wpAny_letOwnedTupleGo_enum (s := { s with heap := h', toks := tk + 1 }) ho fun h2 he' sb => ?_⟩
    have hT2 : h2.get? s.heap.objs.size = some { cls := .type "tuple", data := .seq #[.int (k0 + (i : Nat)) tk, v] } := (sb.2 _ (Nat.ne_of_gt hel)).trans hT
    have new : ObjOk X.prog X.w (upd H s.heap.objs.size (.tup [.int (k0 + (i : Nat)), x])) h2 s.heap.objs.size (.tup [.int (k0 + (i : Nat)), x]) :=
      ⟨by show 2 ≤ sizeLine; decide, [.int (k0 + (i : Nat)) tk, v], .cons ⟨_, rfl⟩ (.cons ru .nil), ⟨_, hT2, rfl, _, rfl⟩⟩
    have I1 : Inv X pins σ (upd H s.heap.objs.size (.tup [.int (k0 + (i : Nat)), x])) { s with heap := h2, toks := tk + 1 } :=
      I.turnedNew (ch := [e, it]) (fun b ob hb q => by
        have n1 : b ≠ e := fun z => hb (by simp [z])
        have n2 : b ≠ it := fun z => hb (by simp [z])
        exact (sb.2 b n1).trans (hk b ob n1 n2 q)) hfree (Nat.le_refl _) new
    refine ⟨.ref s.heap.objs.size, _, I1, rfl, ⟨_, x, rfl, I.hok.fresh (Nat.le_refl _), rfl, fun ys hy => by rw [I.tuple_inj hy hq]; exact hx⟩, ⟨⟨v, ?_⟩, hit'.1.at fun o q => (sb.2 it (Ne.symm hne.1)).trans q, hne⟩, fun b hb => ?_⟩
    · have e1 : k0 + ((i + 1 : Nat) : Int) = k0 + (i : Nat) + 1 := by omega
      rw [e1]; exact he'
    · have hb' : b < s.heap.objs.size := by
        rcases List.mem_cons.mp hb with rfl | hb
        · exact hel
        · rw [List.mem_singleton.mp hb]; exact hil
      rw [upd_ne (Nat.ne_of_lt hb')]
      exact (hfree b hb).1
  done := by
    intro X hP hw hK hc i pins s σ H E I hfree st hst
    subst hP hw hK
    obtain ⟨⟨old, he⟩, hit, hne⟩ := st
    obtain ⟨xs, hq, hx⟩ := hst
    obtain ⟨its, rv, p, hz⟩ := I.tuple hq
    obtain ⟨f0, f1, f2, f3, f4, f5⟩ := hfree it (by simp)
    have hl := rv.length
    have hsz : its.toArray.size = i := by rw [List.size_toArray, ← hl]; exact hx
    subst hsz
    exact wpAny_pyNext_enum_endD (Draws.tuple (A := X.A.in1) (I.ok.hd hc) it a hne.2.1 its.toArray) he ⟨hit, p⟩ fun h' eb => ⟨rfl, I.turned (t' := s.toks) (fun b o hb q => eb b o hb q) f0 f1 f3 f4 f5⟩
  self := fun A i s Q E st h => by
    obtain ⟨⟨old, he⟩, _⟩ := st
    exact wpAny_pyIter_enum he h
/-- enumerate from k0 on of the list at a: each item in a new pair behind its number -/
def ItqL (K : PySem.W.Frag) (k0 : Int) (a : Addr) : It :=
  ⟨fun i H => ∃ (xs : List V) (x : V), SqL K H a xs ∧ xs[i]? = some x, fun i H v H' => ∃ T x, v = .ref T ∧ H T = none ∧ H' = upd H T (.tup [.int (k0 + (i : Nat)), x]) ∧ ∀ xs, SqL K H a xs → xs[i]? = some x, fun i H => ∃ xs : List V, SqL K H a xs ∧ xs.length = i⟩
theorem turnQL {P : Program} {w : World} {K : PySem.W.Frag} {elts : List Expr} {kk : Nat} {tpos : Pos} (k0 : Int) (a e it : Addr) :
    Turn P w K (.Tuple elts kk tpos) (ItqL K k0 a) [e, it] e (fun i h => (∃ old, IsEnum h e it (k0 + (i : Nat)) old) ∧ h.IsListIter it a i ∧ (e ≠ it ∧ a ≠ it ∧ a ≠ e)) where
  mem := List.mem_cons_self ..
  obj := fun i h st b hb => by
    obtain ⟨⟨old, he⟩, ⟨o, ho, _, hd⟩, _⟩ := st
    rcases List.mem_cons.mp hb with rfl | hb
    · exact ⟨_, he, fun v q => nomatch q⟩
    · rw [List.mem_singleton.mp hb]
      exact ⟨o, ho, fun v q => by rw [hd] at q; cases q⟩
  keep := fun i h h' st k => by
    obtain ⟨⟨old, he⟩, hi, hne⟩ := st
    exact ⟨⟨old, k e (by simp) _ he⟩, hi.at fun o q => k it (by simp) o q, hne⟩
  item := by
    intro X hP hw hK hc i pins s σ H E I hfree st hgo
    subst hP hw hK
    obtain ⟨⟨old, he⟩, hit, hne⟩ := st
    obtain ⟨xs, x, hq, hx⟩ := hgo
    obtain ⟨its, rv, p, hz⟩ := I.list hq
    obtain ⟨u, hu, ru⟩ := rv.get hx
    have hel : e < s.heap.objs.size := Heap.lt_size he
    have hil : it < s.heap.objs.size := by obtain ⟨_, q, _⟩ := hit; exact Heap.lt_size q
    have lt : i < its.toArray.size := by
      have z := (List.getElem?_eq_some_iff.mp hu).1
      rw [List.size_toArray]; exact z
    refine wpAny_pyNext_enum_itemC (Draws.list (A := X.A.in1) (I.ok.hd hc) it a hne.2.1 its.toArray) he ⟨hit, p.isList⟩ lt hne.1 (by simpa using ⟨hne.1, fun z => hne.2.2 z.symm⟩) fun v h' tk hv ho hit' hT hsz hk => ?_
    have ev : v = u := by
      have z : its[i]? = some v := by simpa using hv
      exact Option.some.inj (z.symm.trans hu)
    subst ev
    refine ⟨_, rfl, wpAny_letOwnedTupleGo_enum (s := { s with heap := h', toks := tk + 1 }) ho fun h2 he' sb => ?_⟩
    have hT2 : h2.get? s.heap.objs.size = some { cls := .type "tuple", data := .seq #[.int (k0 + (i : Nat)) tk, v] } := (sb.2 _ (Nat.ne_of_gt hel)).trans hT
    have new : ObjOk X.prog X.w (upd H s.heap.objs.size (.tup [.int (k0 + (i : Nat)), x])) h2 s.heap.objs.size (.tup [.int (k0 + (i : Nat)), x]) :=
      ⟨by show 2 ≤ sizeLine; decide, [.int (k0 + (i : Nat)) tk, v], .cons ⟨_, rfl⟩ (.cons ru .nil), ⟨_, hT2, rfl, _, rfl⟩⟩
    have I1 : Inv X pins σ (upd H s.heap.objs.size (.tup [.int (k0 + (i : Nat)), x])) { s with heap := h2, toks := tk + 1 } :=
      I.turnedNew (ch := [e, it]) (fun b ob hb q => by
        have n1 : b ≠ e := fun z => hb (by simp [z])
        have n2 : b ≠ it := fun z => hb (by simp [z])
        exact (sb.2 b n1).trans (hk b ob n1 n2 q)) hfree (Nat.le_refl _) new
    refine ⟨.ref s.heap.objs.size, _, I1, rfl, ⟨_, x, rfl, I.hok.fresh (Nat.le_refl _), rfl, fun ys hy => by rw [I.list_inj hy hq]; exact hx⟩, ⟨⟨v, ?_⟩, hit'.1.at fun o q => (sb.2 it (Ne.symm hne.1)).trans q, hne⟩, fun b hb => ?_⟩
    · have e1 : k0 + ((i + 1 : Nat) : Int) = k0 + (i : Nat) + 1 := by omega
      rw [e1]; exact he'
    · have hb' : b < s.heap.objs.size := by
        rcases List.mem_cons.mp hb with rfl | hb
        · exact hel
        · rw [List.mem_singleton.mp hb]; exact hil
      rw [upd_ne (Nat.ne_of_lt hb')]
      exact (hfree b hb).1
  done := by
    intro X hP hw hK hc i pins s σ H E I hfree st hst
    subst hP hw hK
    obtain ⟨⟨old, he⟩, hit, hne⟩ := st
    obtain ⟨xs, hq, hx⟩ := hst
    obtain ⟨its, rv, p, hz⟩ := I.list hq
    obtain ⟨f0, f1, f2, f3, f4, f5⟩ := hfree it (by simp)
    have hl := rv.length
    have hsz : its.toArray.size = i := by rw [List.size_toArray, ← hl]; exact hx
    subst hsz
    exact wpAny_pyNext_enum_endD (Draws.list (A := X.A.in1) (I.ok.hd hc) it a hne.2.1 its.toArray) he ⟨hit, p.isList⟩ fun h' eb => ⟨rfl, I.turned (t' := s.toks) (fun b o hb q => eb b o hb q) f0 f1 f3 f4 f5⟩
  self := fun A i s Q E st h => by
    obtain ⟨⟨old, he⟩, _⟩ := st
    exact wpAny_pyIter_enum he h
theorem walkQT {K : PySem.W.Frag} {a : Addr} {k0 : Int} {xs : List V} : Walk (ItqT K k0 a) xs.length (fun H => SqT K H a xs) (fun i H v H' => ∃ T x, v = .ref T ∧ H T = none ∧ H' = upd H T (.tup [.int (k0 + (i : Nat)), x]) ∧ xs[i]? = some x) := by
  refine ⟨fun i _ hi q => ⟨xs, xs[i], q, by simp [hi]⟩, fun _ q => ⟨xs, q, rfl⟩, fun i H v H' _ q y => ?_⟩
  obtain ⟨T, x, h1, h2, h3, h4⟩ := y
  exact ⟨T, x, h1, h2, h3, h4 xs q⟩
theorem walkQL {K : PySem.W.Frag} {a : Addr} {k0 : Int} {xs : List V} : Walk (ItqL K k0 a) xs.length (fun H => SqL K H a xs) (fun i H v H' => ∃ T x, v = .ref T ∧ H T = none ∧ H' = upd H T (.tup [.int (k0 + (i : Nat)), x]) ∧ xs[i]? = some x) := by
  refine ⟨fun i _ hi q => ⟨xs, xs[i], q, by simp [hi]⟩, fun _ q => ⟨xs, q, rfl⟩, fun i H v H' _ q y => ?_⟩
  obtain ⟨T, x, h1, h2, h3, h4⟩ := y
  exact ⟨T, x, h1, h2, h3, h4 xs q⟩
/-- enumerate(tuple) -/
def iEnumT (K : PySem.W.Frag) (ta : TA) : TI := fun σ H R => ta σ H fun vs H1 => ∃ a xs, vs = [.ref a] ∧ SqT K H1 a xs ∧ R (ItqT K 0 a) H1
theorem pi_enumT {X : Cx} {e : Expr} {ta : TA} {p pos tpos : Pos} {elts : List Expr} {kk : Nat} (hg : Gl X "enumerate") (hm : X.mg "enumerate" = none) (ha : PA X [e] ta) (hs : starEach [e] X.env = [(false, eval e X.env)] := by rfl) :
    PI X (.Tuple elts kk tpos) (.Call (.Name "enumerate" p) [e] [] pos) (iEnumT X.K ta) := by
  refine ⟨fun pins s σ H R I h => Call_ (ld_blt I hg hm boot_enumerate (PyProof.Rows.callWith_type1 (thn (ha.run pos pins s σ H _ I h) fun us s1 ⟨vs, H1, I1, r1, a, xs, ex, hq, q⟩ => ?_) hs rfl))⟩
  subst ex
  obtain ⟨u, rfl, ru⟩ := vals1 r1
  cases ru
  obtain ⟨its, rv, p', hz⟩ := I1.tuple hq
  have la : a < s1.heap.objs.size := by obtain ⟨_, z, _⟩ := p'; exact Heap.lt_size z
  refine enum_begins1 (begins_tuple a its.toArray) p' fun h' he hit hk => wpAny_pyIter_enum he ?_
  have I2 : Inv X pins σ H1 { s1 with heap := h' } := I1.kept (t' := s1.toks) hk
  refine ⟨s1.heap.objs.size + 1, [s1.heap.objs.size + 1, s1.heap.objs.size], _, _, H1, rfl, I2, turnQT 0 a (s1.heap.objs.size + 1) s1.heap.objs.size, ⟨⟨.none, he⟩, ⟨_, hit, rfl, rfl⟩, Nat.succ_ne_self _, Nat.ne_of_lt la, Nat.ne_of_lt (Nat.lt_succ_of_lt la)⟩, fun b hb => ?_, q⟩
  have hle : s1.heap.objs.size ≤ b := by
    rcases List.mem_cons.mp hb with rfl | z
    · exact Nat.le_succ _
    · rw [List.mem_singleton.mp z]; exact Nat.le_refl _
  exact I1.fpOk hle (I1.hok.fresh hle)
end L2
set_option Elab.async false
set_option linter.all false
set_option maxRecDepth 100000
set_option maxHeartbeats 4000000
/-! enumerate(list, start=k) -/
namespace L2
open PySem PySem.Spec PyProof.Rows
theorem cw_typeKw {M : Model} {A : Around} {E : Value → Shared → Prop} {s : Shared} {env : Env} {pos : Pos} {T : String} {e : Expr} {es : List Expr} {kws : List Keyword} {Q : Value → Shared → Prop} (hall : (backToKw pos (keywordEach kws env)).all (·.1.isSome) = true)
    (h : wpAny M A (spliced (backTo pos (starEach (e :: es) env))) (fun vs s1 => wpAny M A (evalAll ((backToKw pos (keywordEach kws env)).map (·.2))) (fun ks s2 => wpAny M A (call (.type T) vs (((backToKw pos (keywordEach kws env)).filterMap (·.1)).zip ks)) Q E s2) E s1) E s)
    (hpl : ((backTo pos (starEach (e :: es) env)).any (·.1) || (backToKw pos (keywordEach kws env)).any (·.1.isNone)) = false) (he : starEach (e :: es) env = (false, eval e env) :: starEach es env) :
    wpAny M A (callWith pos (.type T) [] (backTo pos (starEach (e :: es) env)) (backToKw pos (keywordEach kws env))) Q E s := by
  unfold callWith
  refine wpAny_bind (wpAny_holding (wpAny_mono (PyProof.Rows.evalArgs_kw2 (Q := fun a s1 => wpAny M A (call (.type T) a.pos a.kw) Q E s1) hall h he) (fun a s1 h1 => wpAny_bind (wpAny_standAt ?_)) fun _ _ z => z))
  simp only [hpl]
  refine wpAny_bind (wpAny_pure ?_)
  exact wpAny_bind (wpAny_mono h1 (fun r s2 hr => wpAny_bind (wpAny_holding (wpAny_point (wpAny_pure hr)))) fun _ _ z => z)
/-- enumerate(list, start=k), k written -/
def iEnumL (K : PySem.W.Frag) (k0 : Int) (ta : TA) : TI := fun σ H R => ta σ H fun vs H1 => ∃ a xs, vs = [.ref a] ∧ SqL K H1 a xs ∧ R (ItqL K k0 a) H1
theorem pi_enumL {X : Cx} {e : Expr} {ta : TA} {p pos tpos kp cp : Pos} {elts : List Expr} {kk j : Nat} {k0 : Int} (hg : Gl X "enumerate") (hm : X.mg "enumerate" = none) (ha : PA X [e] ta) (hk : 0 ≤ k0 ∧ k0 < 1000)
    (hall : (backToKw pos (keywordEach [⟨some "start", .Constant (.int k0) j cp, kp⟩] X.env)).all (·.1.isSome) = true := by rfl) (hks : (backToKw pos (keywordEach [⟨some "start", .Constant (.int k0) j cp, kp⟩] X.env)).filterMap (·.1) = [("start" : Str)] := by rfl)
    (hpl : ((backTo pos (starEach [e] X.env)).any (·.1) || (backToKw pos (keywordEach [⟨some "start", .Constant (.int k0) j cp, kp⟩] X.env)).any (·.1.isNone)) = false := by rfl) (he : starEach [e] X.env = (false, eval e X.env) :: starEach [] X.env := by rfl) :
    PI X (.Tuple elts kk tpos) (.Call (.Name "enumerate" p) [e] [⟨some "start", .Constant (.int k0) j cp, kp⟩] pos) (iEnumL X.K k0 ta) := by
  refine ⟨fun pins s σ H R I h => wpAny_Call_Name_kw (ld_blt I hg hm boot_enumerate (cw_typeKw hall (thn (ha.run pos pins s σ H _ I h) fun us s1 ⟨vs, H1, I1, r1, a, xs, ex, hq, q⟩ => ?_) hpl he))⟩
  subst ex
  obtain ⟨u, rfl, ru⟩ := vals1 r1
  cases ru
  have kw : PK X [⟨some "start", .Constant (.int k0) j cp, kp⟩] (tCons (tC (.int k0)) tNil) := pk_cons pe_int pk_nil
  refine thn (kw.run pos pins s1 σ H1 (fun vs H2 => vs = [.int k0] ∧ H2 = H1) I1 ⟨rfl, rfl⟩) fun ws s2 ⟨zs, H2, I2, rz, ez, eH⟩ => ?_
  subst ez
  subst eH
  obtain ⟨w1, rfl, t, rfl⟩ := vals1 rz
  rw [hks]
  obtain ⟨its, rv, p', hz⟩ := I2.list hq
  have la : a < s2.heap.objs.size := by obtain ⟨_, z, _⟩ := p'.isList; exact Heap.lt_size z
  refine enum_begins_start (begins_list a its.toArray) p'.isList (by omega) (by omega) fun h' he hit hsz hk' => wpAny_pyIter_enum he ?_
  have I3 : Inv X pins σ H2 { s2 with heap := h' } := I2.kept (t' := s2.toks) hk'
  refine ⟨s2.heap.objs.size + 1, [s2.heap.objs.size + 1, s2.heap.objs.size], _, _, H2, rfl, I3, turnQL k0 a (s2.heap.objs.size + 1) s2.heap.objs.size, ⟨⟨.none, ?_⟩, ⟨_, hit, rfl, rfl⟩, Nat.succ_ne_self _, Nat.ne_of_lt la, Nat.ne_of_lt (Nat.lt_succ_of_lt la)⟩, fun b hb => ?_, q⟩
  · have e0 : k0 + ((0 : Nat) : Int) = k0 := by omega
    rw [e0]
    exact he
  · have hle : s2.heap.objs.size ≤ b := by
      rcases List.mem_cons.mp hb with rfl | z
      · exact Nat.le_succ _
      · rw [List.mem_singleton.mp z]; exact Nat.le_refl _
    exact I2.fpOk hle (I2.hok.fresh hle)
end L2
set_option Elab.async false
set_option linter.all false
set_option maxRecDepth 100000
set_option maxHeartbeats 4000000
/-! flat lists as data: xs == [], xs != [] -/
namespace L2
open PySem PySem.Spec PyProof.Rows
def flatD : V → PyData
  | .bl b => .bool b
  | .int i => .int i
  | .str x => .str x
  | _ => .none
def okV : V → Bool
  | .str x => PyData.strOk x
  | .non => true
  | .bl _ => true
  | .int _ => true
  | _ => false
theorem okV_flat {v : V} (h : okV v = true) : flatV v = true := by
  cases v <;> first | rfl | cases h
theorem okV_all {xs : List V} (h : xs.all okV = true) : xs.all flatV = true := by
  rw [List.all_eq_true] at h ⊢
  exact fun x hx => okV_flat (h x hx)
theorem flatD_dp {K : PySem.W.Frag} {H : Hp} {v : V} (h : flatV v = true) : Dp K H v (flatD v) := by
  cases v <;> first | exact .non | exact .bl _ | exact .int _ | exact .str _ | cases h
theorem flatD_all {K : PySem.W.Frag} {H : Hp} : ∀ {xs : List V}, xs.all flatV = true → DpAll K H xs (xs.map flatD)
  | [], _ => .nil
  | x :: xs, h => by
    rw [List.all_cons, Bool.and_eq_true] at h
    exact .cons (flatD_dp h.1) (flatD_all h.2)
theorem flatD_lay {v : V} (h : okV v = true) : (flatD v).canLay0 = true ∧ (flatD v).depth = 0 ∧ (flatD v).hasDict = false := by
  cases v <;> first | exact ⟨h, rfl, rfl⟩ | exact ⟨rfl, rfl, rfl⟩ | cases h
theorem flatD_layAll : ∀ {xs : List V}, xs.all okV = true → PyData.canLayAll0 (xs.map flatD) = true ∧ PyData.depthAll (xs.map flatD) = 0 ∧ PyData.hasDictAll (xs.map flatD) = false
  | [], _ => ⟨rfl, rfl, rfl⟩
  | x :: xs, h => by
    rw [List.all_cons, Bool.and_eq_true] at h
    obtain ⟨h1, h2, h3⟩ := flatD_layAll h.2
    obtain ⟨q1, q2, q3⟩ := flatD_lay h.1
    refine ⟨?_, ?_, ?_⟩
    · simp only [List.map_cons, PyData.canLayAll0, h1, q1, Bool.and_self]
    · simp only [List.map_cons, PyData.depthAll, h2, q2, Nat.max_self]
    · simp only [List.map_cons, PyData.hasDictAll, h3, q3, Bool.or_self]
theorem shaped_flat {xs : List V} (h : xs.all okV = true) : SeqAt.shaped (.list (xs.map flatD)) = true := by
  obtain ⟨h1, h2, _⟩ := flatD_layAll h
  unfold SeqAt.shaped
  simp only [PyData.canLay0, PyData.depth, h1, h2]
  decide
theorem eqv_nil (xs : List V) : PyData.eqv (.list (xs.map flatD)) (.list []) = xs.isEmpty := by
  cases xs with
  | nil => simp [PyData.eqv, PyData.eqvAll]
  | cons x r => simp [PyData.eqv, PyData.eqvAll]
theorem rEq_nil {K : PySem.W.Frag} {H : Hp} {p q : Addr} {xs : List V} {Q : VK} (hx : SqL K H p xs) (hf : xs.all okV = true) (hq : H q = some (.lst [])) (h : Q (.bl xs.isEmpty) H) : rEqD K (.ref p) (.ref q) H Q :=
  ⟨_, _, .lst hx (flatD_all (okV_all hf)), .lst (SqL.of hq) .nil, shaped_flat hf, by decide, by rw [eqv_nil]; exact h⟩
theorem rNe_nil {K : PySem.W.Frag} {H : Hp} {p q : Addr} {xs : List V} {Q : VK} (hx : SqL K H p xs) (hf : xs.all okV = true) (hq : H q = some (.lst [])) (h : Q (.bl (!xs.isEmpty)) H) : rNeD K (.ref p) (.ref q) H Q :=
  ⟨_, _, .lst hx (flatD_all (okV_all hf)), .lst (SqL.of hq) .nil, shaped_flat hf, by decide, by rw [eqv_nil]; exact h⟩
end L2
set_option Elab.async false
set_option linter.all false
set_option maxRecDepth 100000
set_option maxHeartbeats 4000000
/-! a token is out: behind a join of a written text; text times number; codes of a replaced text -/
namespace L2
open PySem PySem.Spec PyProof.Rows CwR
def PEI (X : Cx) (e : Expr) (t : TE) : Prop :=
  ∀ (pins : List (Addr × Obj)) (s : Shared) (σ : St) (H : Hp) (Q : VK), Inv X pins σ H s → t σ H Q → wpAny (model X.prog X.w) X.A (eval e X.env) (fun v s' => 1 ≤ s'.toks ∧ EP X pins σ Q v s') X.xe s
def PTT (X : Cx) (e : Expr) (t : TT) : Prop :=
  ∀ (pins : List (Addr × Obj)) (s : Shared) (σ : St) (H : Hp) (Q : Bool → Hp → Prop), 1 ≤ s.toks → Inv X pins σ H s → t σ H Q → wpAny (model X.prog X.w) X.A (isTrue e X.env (eval e X.env)) (TP X pins σ Q) X.xe s
def PWT (X : Cx) (e : Expr) (t : TT) : Prop :=
  ∀ (whole : Sem Value) (pins : List (Addr × Obj)) (s : Shared) (σ : St) (H : Hp) (Q : Bool → Hp → Prop), 1 ≤ s.toks → Inv X pins σ H s → t σ H Q → wpAny (model X.prog X.w) X.A (isTrue e X.env whole) (TP X pins σ Q) X.xe s
section
variable {X : Cx} {a b : Expr} {rest : List Expr} {tA tB' : TT} {pos : Pos}
theorem PTT.of (h : PT X a tA) : PTT X a tA := fun pins s σ H Q _ I q => h.run pins s σ H Q I q
theorem PWT.pt (h : PWT X a tA) : PTT X a tA := fun pins s σ H Q h0 I q => h _ pins s σ H Q h0 I q
theorem pwt_or1 (ha : PTT X a tA) : PWT X (.BoolOp .Or [a] pos) tA := by
  intro wh pins s σ H Q h0 I h
  refine isTrue_or (thn (ha pins s σ H Q h0 I h) fun c s1 e => ?_)
  cases c with
  | false => exact isTrue_or_nil e
  | true => exact e
theorem pwt_or (ha : PTT X a tA) (hb : PWT X (.BoolOp .Or (b :: rest) pos) tB') : PWT X (.BoolOp .Or (a :: b :: rest) pos) (tOr tA tB') := by
  intro wh pins s σ H Q h0 I h
  refine isTrue_or (wpAny_mono (PySem.wpAny_toks (ha pins s σ H _ h0 I h)) (fun c s1 q => ?_) fun _ _ z => z.2)
  obtain ⟨hk, H1, I1, q1⟩ := q
  cases c with
  | true => exact ⟨H1, I1, q1⟩
  | false => exact hb wh pins s1 σ H1 Q (Nat.le_trans h0 hk) I1 q1
theorem ptt_not (ha : PTT X a tA) : PTT X (.UnaryOp .Not a pos) (tNot tA) := by
  intro pins s σ H Q h0 I h
  exact isTrue_not (ha pins s σ H (fun c H1 => Q (!c) H1) h0 I h)
theorem ptt_val {e : Expr} {t : TE} (h : PET X e t) (he : ∀ whole, isTrue e X.env whole = (do let v ← whole; standAt e.pos; holding [v] (truthy v)) := by intro _; rfl) : PTT X e (tB t) := by
  intro pins s σ H Q h0 I hw
  refine isTrue_plain (thn (h pins s σ H _ h0 I hw) fun v s1 ⟨x, H1, I1, r1, q1⟩ => ?_) (he _)
  obtain ⟨d, rfl, q⟩ := q1
  cases r1
  exact wpAny_truthy_bool ⟨H1, I1, q⟩
theorem pst_ifT {c : Expr} {a b : List Stmt} {tc : TT} {t u : TS} (hc : PTT X c tc) (ha : PSsT X a t) (hb : PSsT X b u) : PST X (.If c a b pos) (tIfS tc t u) := by
  intro pins s σ H D h0 I h
  refine wpAny_If (wpAny_mono (PySem.wpAny_toks (hc pins s σ H _ h0 I h)) (fun d s1 q => ?_) fun _ _ z => z.2)
  obtain ⟨hk, H1, I1, q1⟩ := q
  cases d with
  | true => exact ha pins s1 σ H1 D (Nat.le_trans h0 hk) I1 q1
  | false => exact hb pins s1 σ H1 D (Nat.le_trans h0 hk) I1 q1
/-- a call of the package's or the law's own functions, its arguments by tokens -/
theorem pet_callG {k : Nat} {f : Addr} {fd : FuncData} {ps : List Str} {sp : Sp} {dvs : List V} {ds : List Value} {E : St → XK} {x : Str} {p : Pos} {e : Expr} {es : List Expr} {t : TA}
    (F : FnG X.prog X.w X.K X.mg X.base k f fd ps sp) (hr : Room k X.A) (hgd : X.A.guards = some []) (hg : Gl X x) (hm : X.mg x = some (.ref f)) (hk : PySem.W.keepIn X.K (.ref f) = true) (hb : Binds X.K fd ps ds) (hd : Vals dvs ds)
    (hx : ∀ σ, PassesAt (L2.CX X.prog X.w) X σ (E σ)) (ha : PAT X (e :: es) t) (hdb : (x == ("__debug__" : Str)) = false := by decide) (he : starEach (e :: es) X.env = (false, eval e X.env) :: starEach es X.env := by rfl)
    (hpl : (backTo pos (starEach es X.env)).any (·.1) = false := by rfl) : PET X (.Call (.Name x p) (e :: es) [] pos) (tCallG sp dvs E t) :=
  fun pins s σ H Q h0 I h => wpAny_Call_Name_kw (ld_glob I hg hm (PySem.W.callWith_K (h₀ := X.base) I.ok.mod.kin hk (thn (ha pos pins s σ H _ h0 I h) fun us s1 ⟨vs, H1, I1, r, q⟩ => ⟨I1.kIn, callG_at F hr hgd hb hd (hx σ) I1 r q⟩) he hpl) hdb)
/-- 'c'.join(e): behind it a token is out -/
theorem pei_join {c : Str} {j : Nat} {cpos apos : Pos} {e : Expr} {te : TE} (he : PE X e te) (hs : starEach [e] X.env = [(false, eval e X.env)] := by rfl) (hbase : attributeBase (.Constant (.str c) j cpos) "join" X.env (eval (.Constant (.str c) j cpos) X.env) = eval (.Constant (.str c) j cpos) X.env := by rfl)
    (hline : (apos.endLine == pos.line) = true := by rfl) :
    PEI X (.Call (.Attribute (.Constant (.str c) j cpos) "join" apos) [e] [] pos) (tM1 (fun x xs H Q => ∃ a p, ∃ ys : List Str, x = .str a ∧ xs = [.ref p] ∧ (SqL X.K H p (ys.map V.str) ∨ SqT X.K H p (ys.map V.str)) ∧
      (ys.map (·.length)).sum + ys.length * a.length ≤ 16777216 ∧ Q (.str (Txt.join a ys)) H) (tC (.str c)) te) := by
  intro pins s σ H Q I h
  obtain ⟨_, q1⟩ := h
  refine PySem.Call_method1 hbase hs hline (Calls.Constant_str ?_)
  refine ⟨"str", _, F.plainAttrs_str, F.slot_str_join, F.type_str_join, typeIs_str _ _ _, (fun _ e => nomatch e), Calls.callWith_builtin rfl (Calls.evalArgs_plain (Calls.spliced_cons ?_))⟩
  refine wpAny_mono (PySem.wpAny_toks (he.run pins _ σ H _ (I.tok (s.toks + 1)) q1)) (fun u s2 q => ?_) fun _ _ z => z.2
  obtain ⟨hk, y, H2, I2, r2, q2⟩ := q
  have hk' : s.toks + 1 ≤ s2.toks := hk
  refine Calls.spliced_nil (wpAny_mono (PySem.wpAny_toks (mt_join pins s2 σ H2 (.str c) [y] _ [u] Q I2 ⟨s.toks, rfl⟩ (.cons r2 .nil) q2)) (fun v s3 q => ?_) fun _ _ z => z.2)
  exact ⟨Nat.le_trans (by omega) q.1, q.2⟩
theorem pss_setI {i : Nat} {x : Str} {e : Expr} {te : TE} {rest : List Stmt} {u : TS} {pos' : Pos} (hN : X.N.Nodup) (hi : X.N[i]? = some x) (hx : Loc X.env.scope x) (he : PEI X e te) (h2 : PSsT X rest u)
    (hs : swapsWith e (some (.Name x pos')) pos.line X.env = pure false := by rfl) (hf : X.fn x = true ∨ X.env.scope.names.lookup x = some .local := by first | exact .inl rfl | exact .inr rfl | assumption) :
    PSs X (.Assign [.Name x pos'] e pos :: rest) (tSeq (tAsg te (gName i)) u) := by
  refine ⟨fun pins s σ H D I h => ?_⟩
  refine wpAny_execs_cons (wpAny_Assign_Name (thn (he pins s σ H _ I h) fun v s1 q => ?_) hs)
  obtain ⟨hk, y, H1, I1, r1, q1⟩ := q
  refine wpAny_mono (PySem.wpAny_toks (store_ok (Q := fun _ s2 => Inv X pins (σ.set i (some y)) H1 s2) I1 hN hi hx r1 (fun _ I2 => I2) hf)) (fun _ s2 q => ?_) fun _ _ z => z.2
  exact h2 pins s2 _ H1 D (Nat.le_trans hk q.1) q.2 q1
end
/-- text times number -/
def rMulS : R2 := fun x y H Q => ∃ z n, x = .str z ∧ y = .int n ∧ MulOk z n ∧ Q (.str (Txt.mul z n)) H
theorem op_mulS {X : Cx} : OpR X (binaryOp .Mult) rMulS := by
  intro pins s σ H x y v u Q I rx ry h
  obtain ⟨z, n, rfl, rfl, hok, q⟩ := h
  obtain ⟨t, rfl⟩ := rx
  obtain ⟨t2, rfl⟩ := ry
  exact PySem.SB.mul hok fun t' k => ⟨.str (Txt.mul z n), H, I.tok k, ⟨t', rfl⟩, q⟩
theorem replS_mem {y z : List Nat} {c : Nat} : ∀ (n : Nat) (l : List Nat), c ∈ PySem.StrLaws.replS y z n l → c ∈ l ∨ c ∈ z
  | n, [], h => by
    rw [PySem.StrLaws.replS] at h
    cases h
  | 0, a :: r, h => by
    rw [PySem.StrLaws.replS] at h
    split at h
    · rcases List.mem_append.mp h with h | h
      · exact .inr h
      · exact (replS_mem _ r h).imp (List.mem_cons_of_mem _) _root_.id
    · rcases List.mem_cons.mp h with h | h
      · rw [h]; exact .inl List.mem_cons_self
      · exact (replS_mem _ r h).imp (List.mem_cons_of_mem _) _root_.id
  | n + 1, a :: r, h => by
    rw [PySem.StrLaws.replS] at h
    exact (replS_mem n r h).imp (List.mem_cons_of_mem _) _root_.id
theorem replace_mem {x y z : Str} (hy : 1 ≤ y.length) {c : Nat} (h : c ∈ (Txt.replace x y z).cps.toList) : c ∈ x.cps.toList ∨ c ∈ z.cps.toList := by
  rw [PySem.StrLaws.replace_list hy] at h
  exact replS_mem 0 _ h
end L2
set_option Elab.async false
set_option linter.all false
set_option maxRecDepth 100000
set_option maxHeartbeats 4000000
/-! data by trees: what a value stands for, whatever the addresses -/
namespace DL
open PySem PySem.Spec L2
open PySem.W (Frag)

inductive D where
  | non | bl (b : Bool) | int (i : Int) | str (x : Str)
  | lst (ds : List D) | tup (ds : List D) | dct (kvs : List (Key × D)) | obj (c : String) (fs : List (Str × D)) | dk | cls (c : String) | shw (p : PyData)

/-- where own classes stand -/
structure G where
  K : Frag
  cl : String → Addr
  own : List String
  dk : Addr

/-- a text that can be: not too long, its signs are signs -/
def SOk (x : Str) : Prop := x.length ≤ sizeLine ∧ PyData.strOk x = true
mutual
/-- v stands for d, by the objects of F -/
inductive Rep (g : G) (F : Hp) : V → D → Prop
  | non : Rep g F .non .non
  | bl (b : Bool) : Rep g F (.bl b) (.bl b)
  | int (i : Int) : Rep g F (.int i) (.int i)
  | str {x : Str} (h : SOk x) : Rep g F (.str x) (.str x)
  | lst {a : Addr} {vs : List V} {ds : List D} (e : F a = some (.lst vs)) (r : RepAll g F vs ds) : Rep g F (.ref a) (.lst ds)
  | tup {a : Addr} {vs : List V} {ds : List D} (e : SqT g.K F a vs) (r : RepAll g F vs ds) : Rep g F (.ref a) (.tup ds)
  | dct {a : Addr} {kvs : List (Key × V)} {ds : List (Key × D)} (e : F a = some (.dK kvs)) (r : RepKv g F kvs ds) : Rep g F (.ref a) (.dct ds)
  | obj {a dx : Addr} {c : String} {fs : List (Str × V)} {ds : List (Str × D)} (hc : c ∈ g.own) (e : F a = some (.ins (g.cl c) dx fs)) (r : RepFs g F fs ds) : Rep g F (.ref a) (.obj c ds)
  | dk : Rep g F (.ref g.dk) .dk
  | cls (c : String) : Rep g F (.ref (g.cl c)) (.cls c)
  | shw (p : PyData) : Rep g F (.str p.shown) (.shw p)
inductive RepAll (g : G) (F : Hp) : List V → List D → Prop
  | nil : RepAll g F [] []
  | cons {v : V} {vs : List V} {d : D} {ds : List D} (r : Rep g F v d) (rs : RepAll g F vs ds) : RepAll g F (v :: vs) (d :: ds)
inductive RepKv (g : G) (F : Hp) : List (Key × V) → List (Key × D) → Prop
  | nil : RepKv g F [] []
  | cons {k : Key} {v : V} {vs : List (Key × V)} {d : D} {ds : List (Key × D)} (r : Rep g F v d) (rs : RepKv g F vs ds) : RepKv g F ((k, v) :: vs) ((k, d) :: ds)
inductive RepFs (g : G) (F : Hp) : List (Str × V) → List (Str × D) → Prop
  | nil : RepFs g F [] []
  | cons {k : Str} {v : V} {vs : List (Str × V)} {d : D} {ds : List (Str × D)} (r : Rep g F v d) (rs : RepFs g F vs ds) : RepFs g F ((k, v) :: vs) ((k, d) :: ds)
end
section
variable {g : G} {F F' : Hp}
mutual
theorem Rep.same (e : Same F F') : ∀ {v : V} {d : D}, Rep g F v d → Rep g F' v d
  | _, _, .non => .non
  | _, _, .bl b => .bl b
  | _, _, .int i => .int i
  | _, _, .str h => .str h
  | _, _, .lst h r => .lst (e _ _ h) (RepAll.same e r)
  | _, _, .tup h r => .tup (e.seqT h) (RepAll.same e r)
  | _, _, .dct h r => .dct (e _ _ h) (RepKv.same e r)
  | _, _, .obj hc h r => .obj hc (e _ _ h) (RepFs.same e r)
  | _, _, .dk => .dk
  | _, _, .cls c => .cls c
  | _, _, .shw p => .shw p
theorem RepAll.same (e : Same F F') : ∀ {vs : List V} {ds : List D}, RepAll g F vs ds → RepAll g F' vs ds
  | _, _, .nil => .nil
  | _, _, .cons h r => .cons (Rep.same e h) (RepAll.same e r)
theorem RepKv.same (e : Same F F') : ∀ {vs : List (Key × V)} {ds : List (Key × D)}, RepKv g F vs ds → RepKv g F' vs ds
  | _, _, .nil => .nil
  | _, _, .cons h r => .cons (Rep.same e h) (RepKv.same e r)
theorem RepFs.same (e : Same F F') : ∀ {vs : List (Str × V)} {ds : List (Str × D)}, RepFs g F vs ds → RepFs g F' vs ds
  | _, _, .nil => .nil
  | _, _, .cons h r => .cons (Rep.same e h) (RepFs.same e r)
end
theorem RepAll.length : ∀ {vs : List V} {ds : List D}, RepAll g F vs ds → vs.length = ds.length
  | _, _, .nil => rfl
  | _, _, .cons _ r => by rw [List.length_cons, List.length_cons, RepAll.length r]
theorem RepAll.app : ∀ {vs ws : List V} {ds es : List D}, RepAll g F vs ds → RepAll g F ws es → RepAll g F (vs ++ ws) (ds ++ es)
  | _, _, _, _, .nil, s => s
  | _, _, _, _, .cons h r, s => .cons h (RepAll.app r s)
theorem RepAll.get : ∀ {vs : List V} {ds : List D} {i : Nat} {d : D}, RepAll g F vs ds → ds[i]? = some d → ∃ v, vs[i]? = some v ∧ Rep g F v d
  | _, _, _, _, .nil, e => by simp at e
  | _, _, 0, _, .cons r _, e => by simp at e; subst e; exact ⟨_, rfl, r⟩
  | _, _, i + 1, x, .cons _ t, e => by
    obtain ⟨u, h1, h2⟩ := RepAll.get (i := i) (d := x) t (by simpa using e)
    exact ⟨u, by simpa using h1, h2⟩
theorem RepAll.get' : ∀ {vs : List V} {ds : List D} {i : Nat} {v : V}, RepAll g F vs ds → vs[i]? = some v → ∃ d, ds[i]? = some d ∧ Rep g F v d
  | _, _, _, _, .nil, e => by simp at e
  | _, _, 0, _, .cons r _, e => by simp at e; subst e; exact ⟨_, rfl, r⟩
  | _, _, i + 1, x, .cons _ t, e => by
    obtain ⟨u, h1, h2⟩ := RepAll.get' (i := i) (v := x) t (by simpa using e)
    exact ⟨u, by simpa using h1, h2⟩
theorem RepAll.take : ∀ {vs : List V} {ds : List D} (n : Nat), RepAll g F vs ds → RepAll g F (vs.take n) (ds.take n)
  | _, _, 0, _ => .nil
  | _, _, _ + 1, .nil => .nil
  | _, _, n + 1, .cons r t => .cons r (RepAll.take n t)
theorem RepAll.drop : ∀ {vs : List V} {ds : List D} (n : Nat), RepAll g F vs ds → RepAll g F (vs.drop n) (ds.drop n)
  | _, _, 0, r => r
  | _, _, _ + 1, .nil => .nil
  | _, _, n + 1, .cons _ t => RepAll.drop n t
theorem RepAll.rev : ∀ {vs : List V} {ds : List D}, RepAll g F vs ds → RepAll g F vs.reverse ds.reverse
  | _, _, .nil => .nil
  | _, _, .cons r t => by rw [List.reverse_cons, List.reverse_cons]; exact (RepAll.rev t).app (.cons r .nil)
theorem RepFs.lookup {k : Str} {d : D} : ∀ {vs : List (Str × V)} {ds : List (Str × D)}, RepFs g F vs ds → ds.lookup k = some d → ∃ v, vs.lookup k = some v ∧ Rep g F v d
  | _, _, .nil, e => by cases e
  | _, _, .cons (k := k') r t, e => by
    rw [List.lookup_cons] at e ⊢
    cases hb : k == k' with
    | true => rw [hb] at e; simp only [cond_true] at e ⊢; cases e; exact ⟨_, rfl, r⟩
    | false => rw [hb] at e; simp only [cond_false] at e ⊢; exact RepFs.lookup t e
theorem RepFs.lookupN {k : Str} : ∀ {vs : List (Str × V)} {ds : List (Str × D)}, RepFs g F vs ds → ds.lookup k = none → vs.lookup k = none
  | _, _, .nil, e => rfl
  | _, _, .cons (k := k') r t, e => by
    rw [List.lookup_cons] at e ⊢
    cases hb : k == k' with
    | true => rw [hb] at e; cases e
    | false => rw [hb] at e; simp only [cond_false] at e ⊢; exact RepFs.lookupN t e
theorem RepKv.lookup {k : Key} {d : D} : ∀ {vs : List (Key × V)} {ds : List (Key × D)}, RepKv g F vs ds → ds.lookup k = some d → ∃ v, vs.lookup k = some v ∧ Rep g F v d
  | _, _, .nil, e => by cases e
  | _, _, .cons (k := k') r t, e => by
    rw [List.lookup_cons] at e ⊢
    cases hb : k == k' with
    | true => rw [hb] at e; simp only [cond_true] at e ⊢; cases e; exact ⟨_, rfl, r⟩
    | false => rw [hb] at e; simp only [cond_false] at e ⊢; exact RepKv.lookup t e
end

/-! ### data -/
mutual
def D.py : D → Option PyData
  | .non => some .none
  | .bl b => some (.bool b)
  | .int i => some (.int i)
  | .str x => some (.str x)
  | .lst ds => (D.pyAll ds).map .list
  | .tup ds => (D.pyAll ds).map .tuple
  | .dct [] => some (.dict [])
  | .dct _ => none
  | .obj _ _ => none
  | .dk => none
  | .cls _ => none
  | .shw _ => none
def D.pyAll : List D → Option (List PyData)
  | [] => some []
  | d :: ds => match D.py d, D.pyAll ds with
    | some x, some xs => some (x :: xs)
    | _, _ => none
end
section
variable {g : G} {F : Hp}
mutual
theorem Rep.av : ∀ {v : V} {d : D} {p : PyData}, Rep g F v d → d.py = some p → Av g.K F v p
  | _, _, _, .non, e => by cases e; exact .non
  | _, _, _, .bl b, e => by cases e; exact .bl b
  | _, _, _, .int i, e => by cases e; exact .int i
  | _, _, _, .str h, e => by cases e; exact .str _
  | _, _, _, .lst (ds := ds) h r, e => by
    simp only [D.py] at e
    cases hx : D.pyAll ds with
    | none => rw [hx] at e; cases e
    | some xs => rw [hx] at e; cases e; exact .lst (SqL.of h) (RepAll.av r hx)
  | _, _, _, .tup (ds := ds) h r, e => by
    simp only [D.py] at e
    cases hx : D.pyAll ds with
    | none => rw [hx] at e; cases e
    | some xs => rw [hx] at e; cases e; exact .tup h (RepAll.av r hx)
  | _, _, _, .dct (ds := ds) h r, e => by
    cases r with
    | nil => cases e; exact .dct h
    | cons _ _ => simp [D.py] at e
  | _, _, _, .obj _ h r, e => by cases e
  | _, _, _, .dk, e => by cases e
  | _, _, _, .cls _, e => by cases e
  | _, _, _, .shw _, e => by cases e
theorem RepAll.av : ∀ {vs : List V} {ds : List D} {ps : List PyData}, RepAll g F vs ds → D.pyAll ds = some ps → AvAll g.K F vs ps
  | _, _, _, .nil, e => by cases e; exact .nil
  | _, _, _, .cons (d := d) (ds := ds) h r, e => by
    simp only [D.pyAll] at e
    cases hx : D.py d with
    | none => rw [hx] at e; cases e
    | some x =>
      cases hy : D.pyAll ds with
      | none => rw [hx, hy] at e; cases e
      | some xs => rw [hx, hy] at e; cases e; exact .cons (Rep.av h hx) (RepAll.av r hy)
end
mutual
theorem av_dp : ∀ {v : V} {p : PyData}, Av g.K F v p → p.hasDict = false → Dp g.K F v p
  | _, _, .non, _ => .non
  | _, _, .bl b, _ => .bl b
  | _, _, .int i, _ => .int i
  | _, _, .str x, _ => .str x
  | _, _, .lst h r, e => .lst h (av_dpAll r (by simpa [PyData.hasDict] using e))
  | _, _, .tup h r, e => .tup h (av_dpAll r (by simpa [PyData.hasDict] using e))
  | _, _, .dct h, e => by simp [PyData.hasDict] at e
theorem av_dpAll : ∀ {vs : List V} {ps : List PyData}, AvAll g.K F vs ps → PyData.hasDictAll ps = false → DpAll g.K F vs ps
  | _, _, .nil, _ => .nil
  | _, _, .cons h r, e => by
    simp only [PyData.hasDictAll, Bool.or_eq_false_iff] at e
    exact .cons (av_dp h e.1) (av_dpAll r e.2)
end
end
end DL
set_option Elab.async false
set_option linter.all false
set_option maxRecDepth 100000
set_option maxHeartbeats 4000000
/-! the state by trees; expressions as functions of it -/
namespace DL
open PySem PySem.Spec L2
open PySem.W (Frag)

/-- what the deck holds -/
structure Dk where
  c : Addr
  ns : List Int
  m : Int
  t : Int
  len : ns.length ≤ 63
abbrev DkO := Option Dk
def dkM (g : G) : DkO → Addr → Prop
  | none, _ => False
  | some k, b => b = g.dk ∨ b = k.c
def DkOk (g : G) (H F : Hp) : DkO → Prop
  | none => True
  | some k => H g.dk = some (.dK [(.inr "cells", .ref k.c), (.inr "mixed", .int k.m), (.inr "draws", .int k.t)]) ∧ H k.c = some (.lst (k.ns.map V.int)) ∧ F g.dk = none ∧ F k.c = none
def DkS : DkO → DkO → Prop
  | none, none => True
  | some a, some b => a.c = b.c
  | _, _ => False
theorem DkS.refl : ∀ k : DkO, DkS k k
  | none => trivial
  | some _ => rfl
theorem DkS.trans : ∀ {a b c : DkO}, DkS a b → DkS b c → DkS a c
  | none, none, none, _, _ => trivial
  | some _, some _, some _, h, q => Eq.trans h q
  | none, some _, _, h, _ => h.elim
  | some _, none, _, h, _ => h.elim
  | none, none, some _, _, h => h.elim
  | some _, some _, none, _, h => h.elim
theorem DkS.m {g : G} : ∀ {a b : DkO} {x : Addr}, DkS a b → (dkM g b x ↔ dkM g a x)
  | none, none, _, _ => Iff.rfl
  | some a, some b, x, h => by
    have h' : a.c = b.c := h
    show (x = g.dk ∨ x = b.c) ↔ (x = g.dk ∨ x = a.c)
    rw [h']
  | none, some _, _, h => h.elim
  | some _, none, _, h => h.elim

structure Sta (g : G) (H F : Hp) (k : DkO) : Prop where
  sub : Same F H
  dk : DkOk g H F k
/-- a step: from (H, F, k) to (H', F', k') -/
structure Stp (g : G) (H F : Hp) (k : DkO) (H' F' : Hp) (k' : DkO) : Prop where
  st : Sta g H' F' k'
  ff : Same F F'
  keep : ∀ b o, ¬ dkM g k b → H b = some o → H' b = some o
  new : ∀ b, F b = none → H b ≠ none → F' b = none
  ks : DkS k k'
section
variable {g : G} {H F H1 F1 H2 F2 : Hp} {k k1 k2 : DkO}
theorem dk_none {b : Addr} (h : DkOk g H F k) (m : dkM g k b) : F b = none ∧ H b ≠ none := by
  cases k with
  | none => exact m.elim
  | some d =>
    obtain ⟨h1, h2, h3, h4⟩ := h
    rcases m with rfl | rfl
    · exact ⟨h3, by rw [h1]; exact fun z => by cases z⟩
    · exact ⟨h4, by rw [h2]; exact fun z => by cases z⟩
theorem Stp.refl (s : Sta g H F k) : Stp g H F k H F k := ⟨s, Same.refl _, fun _ _ _ e => e, fun _ e _ => e, .refl _⟩
theorem Stp.trans (a : Stp g H F k H1 F1 k1) (b : Stp g H1 F1 k1 H2 F2 k2) : Stp g H F k H2 F2 k2 := by
  refine ⟨b.st, a.ff.trans b.ff, fun x o hx e => b.keep x o (fun z => hx (a.ks.m.mp z)) (a.keep x o hx e), fun x hF hH => ?_, a.ks.trans b.ks⟩
  by_cases hx : dkM g k x
  · exact (dk_none b.st.dk ((a.ks.trans b.ks).m.mpr hx)).1
  · refine b.new x (a.new x hF hH) fun z => ?_
    cases q : H x with
    | none => exact hH q
    | some o => rw [a.keep x o hx q] at z; cases z
/-- a new object, known from now on -/
theorem Stp.laid {p : Addr} {o : HO} (s : Sta g H F k) (np : H p = none) : Stp g H F k (upd H p o) (upd F p o) k := by
  have fp : F p = none := by
    cases q : F p with
    | none => rfl
    | some u => rw [s.sub _ _ q] at np; cases np
  have old : ∀ b u, H b = some u → upd H p o b = some u := fun b u e => by rw [upd_ne (ne_of_none e np)]; exact e
  have oldF : ∀ b u, F b = some u → upd F p o b = some u := fun b u e => by rw [upd_ne (ne_of_none e fp)]; exact e
  refine ⟨⟨fun b u e => ?_, ?_⟩, oldF, fun b u _ e => old b u e, fun b e h => ?_, .refl _⟩
  · by_cases hb : b = p
    · subst hb; rw [upd_same] at e ⊢; exact e
    · rw [upd_ne hb] at e ⊢; exact s.sub b u e
  · cases k with
    | none => trivial
    | some d =>
      obtain ⟨h1, h2, h3, h4⟩ := s.dk
      exact ⟨old _ _ h1, old _ _ h2, by rw [upd_ne (ne_of_none h1 np)]; exact h3, by rw [upd_ne (ne_of_none h2 np)]; exact h4⟩
  · have hb : b ≠ p := fun z => by subst z; exact h np
    rw [upd_ne hb]; exact e
/-- a new object that is not known -/
theorem Stp.hid {p : Addr} {o : HO} (s : Sta g H F k) (np : H p = none) : Stp g H F k (upd H p o) F k := by
  have old : ∀ b u, H b = some u → upd H p o b = some u := fun b u e => by rw [upd_ne (ne_of_none e np)]; exact e
  refine ⟨⟨fun b u e => old b u (s.sub b u e), ?_⟩, Same.refl _, fun b u _ e => old b u e, fun b e _ => e, .refl _⟩
  cases k with
  | none => trivial
  | some d =>
    obtain ⟨h1, h2, h3, h4⟩ := s.dk
    exact ⟨old _ _ h1, old _ _ h2, h3, h4⟩
end

/-! ### slots -/
inductive En where
  | no | d (x : D) | own (ds : List D) | ownK (kvs : List (Key × D)) | ownO (c : String) (fs : List (Str × D)) | exc (c : String) (fs : List (Str × D))
def En.isOwn : En → Bool
  | .own _ => true
  | .ownK _ => true
  | .ownO _ _ => true
  | _ => false
/-- what is handled: the exception's address, its dict's, its class; or which object is self -/
inductive XC where
  | none
  | exc (a dx : Addr) (cls : Value)
  | self (p : Addr)
def xcOf (a : Addr) (d : Option Addr) (cls : Value) : XC := match d with
  | .some dx => .exc a dx cls
  | .none => .none
def EnOk (g : G) (xc : XC) (k : DkO) (H F : Hp) (w : Option V) : En → Prop
  | .no => True
  | .d x => ∃ v, w = some v ∧ Rep g F v x
  | .own ds => ∃ p vs, w = some (.ref p) ∧ H p = some (.lst vs) ∧ F p = none ∧ ¬ dkM g k p ∧ RepAll g F vs ds
  | .ownK ds => ∃ p vs, w = some (.ref p) ∧ H p = some (.dK vs) ∧ F p = none ∧ ¬ dkM g k p ∧ RepKv g F vs ds
  | .ownO c ds => ∃ p dx vs, w = some (.ref p) ∧ H p = some (.ins (g.cl c) dx vs) ∧ F p = none ∧ ¬ dkM g k p ∧ RepFs g F vs ds ∧ xc = .self p
  | .exc c ds => ∃ a dx vs, w = some (.ref a) ∧ xc = .exc a dx (.ref (g.cl c)) ∧ F dx = some (.xd vs) ∧ RepFs g F vs ds
def EnvOk (g : G) (xc : XC) (k : DkO) (σ : L2.St) (H F : Hp) (env : List En) : Prop := σ.length = env.length ∧ ∀ (i : Nat) (e : En), env[i]? = some e → EnOk g xc k H F (σ[i]?.getD none) e
section
variable {g : G} {xc : XC} {H F H1 F1 : Hp} {k k1 : DkO} {σ : L2.St} {env : List En}
theorem EnOk.step {w : Option V} {e : En} (s : Stp g H F k H1 F1 k1) (h : EnOk g xc k H F w e) : EnOk g xc k1 H1 F1 w e := by
  have nn : ∀ {p o}, H p = some o → F p = none → F1 p = none := fun {p o} e1 e2 => s.new p e2 (by rw [e1]; exact fun z => by cases z)
  cases e with
  | no => trivial
  | d x => obtain ⟨v, e, r⟩ := h; exact ⟨v, e, r.same s.ff⟩
  | own ds => obtain ⟨p, vs, e, h1, h2, h3, r⟩ := h; exact ⟨p, vs, e, s.keep _ _ h3 h1, nn h1 h2, fun z => h3 (s.ks.m.mp z), r.same s.ff⟩
  | ownK ds => obtain ⟨p, vs, e, h1, h2, h3, r⟩ := h; exact ⟨p, vs, e, s.keep _ _ h3 h1, nn h1 h2, fun z => h3 (s.ks.m.mp z), r.same s.ff⟩
  | ownO c ds => obtain ⟨p, dx, vs, e, h1, h2, h3, r, hx⟩ := h; exact ⟨p, dx, vs, e, s.keep _ _ h3 h1, nn h1 h2, fun z => h3 (s.ks.m.mp z), r.same s.ff, hx⟩
  | exc c ds => obtain ⟨a, dx, vs, e, h1, h2, r⟩ := h; exact ⟨a, dx, vs, e, h1, s.ff _ _ h2, r.same s.ff⟩
theorem EnvOk.step (s : Stp g H F k H1 F1 k1) (h : EnvOk g xc k σ H F env) : EnvOk g xc k1 σ H1 F1 env := ⟨h.1, fun i e q => (h.2 i e q).step s⟩
end

/-! ### outcomes -/
inductive Out (α : Type) where
  | ok (a : α) (k : DkO)
  | err (c : String) (fs : List (Str × D)) (k : DkO)
  | bad
def Out.bind {α β : Type} (o : Out α) (f : α → DkO → Out β) : Out β := match o with
  | .ok a k => f a k
  | .err c fs k => .err c fs k
  | .bad => .bad
def Out.of {α : Type} (o : Option α) (k : DkO) : Out α := match o with
  | some a => .ok a k
  | none => .bad
@[simp] theorem bind_ok {α β : Type} {a : α} {k : DkO} {f : α → DkO → Out β} : (Out.ok a k).bind f = f a k := rfl
@[simp] theorem bind_err {α β : Type} {c : String} {fs : List (Str × D)} {k : DkO} {f : α → DkO → Out β} : (Out.err c fs k).bind f = .err c fs k := rfl
@[simp] theorem bind_bad {α β : Type} {f : α → DkO → Out β} : (Out.bad : Out α).bind f = .bad := rfl
@[simp] theorem of_some {α : Type} {a : α} {k : DkO} : Out.of (some a) k = .ok a k := rfl
@[simp] theorem of_none {α : Type} {k : DkO} : Out.of (none : Option α) k = .bad := rfl

abbrev Sm (α : Type) := List En → DkO → Out α
/-- what is asked for an outcome -/
def Ask {α : Type} (g : G) (W : WX) (σ : L2.St) (H F : Hp) (k : DkO) (o : Out α) (Q : α → Hp → Hp → DkO → Prop) : Prop := match o with
  | .ok a k' => ∀ H' F', Stp g H F k H' F' k' → Q a H' F' k'
  | .err c fs k' => ∀ dx H' F' vs, Stp g H F k H' F' k' → H' dx = none → RepFs g F' vs fs → W (.ref (g.cl c)) (some dx) σ (upd H' dx (.xd vs))
  | .bad => False
section
variable {g : G} {W : WX} {xc : XC} {H F : Hp} {k : DkO} {σ : L2.St} {env : List En}
theorem Ask.imp {α : Type} {o : Out α} {Q Q' : α → Hp → Hp → DkO → Prop} (h : Ask g W σ H F k o Q) (f : ∀ a H' F' k', o = .ok a k' → Stp g H F k H' F' k' → Q a H' F' k' → Q' a H' F' k') : Ask g W σ H F k o Q' := by
  cases o with
  | ok a k' => exact fun H' F' s => f a H' F' k' rfl s (h H' F' s)
  | err c fs k' => exact h
  | bad => exact h
theorem Ask.bind {α β : Type} {o : Out α} {f : α → DkO → Out β} {Q : β → Hp → Hp → DkO → Prop} (h : Ask g W σ H F k (o.bind f) Q) :
    Ask g W σ H F k o fun a H1 F1 k1 => Ask g W σ H1 F1 k1 (f a k1) Q := by
  cases o with
  | bad => exact h
  | err c fs k' => exact h
  | ok a k' =>
    intro H1 F1 s1
    have h' : Ask g W σ H F k (f a k') Q := h
    show Ask g W σ H1 F1 k' (f a k') Q
    cases q : f a k' with
    | bad => rw [q] at h'; exact h'
    | err c fs k2 =>
      rw [q] at h'
      exact fun dx H2 F2 vs s2 hd r => h' dx H2 F2 vs (s1.trans s2) hd r
    | ok b k2 =>
      rw [q] at h'
      exact fun H2 F2 s2 => h' H2 F2 (s1.trans s2)
end
theorem Ask.after {g : G} {W : WX} {H F : Hp} {k : DkO} {σ : L2.St} {H1 F1 : Hp} {k1 : DkO} {α : Type} {o : Out α} {Q : α → Hp → Hp → DkO → Prop} (h : Ask g W σ H F k o Q) (s : Stp g H F k H1 F1 k1) : Ask g W σ H1 F1 k1 o Q := by
  cases o with
  | bad => exact h
  | ok a k' => exact fun H3 F3 s3 => h H3 F3 (s.trans s3)
  | err c fs k' => exact fun dx H3 F3 vs s3 hd rr => h dx H3 F3 vs (s.trans s3) hd rr
/-- an expression's reading by its function of the state -/
def tD (g : G) (xc : XC) (W : WX) (f : Sm D) : TE := fun σ H Q => ∃ F k env, Sta g H F k ∧ EnvOk g xc k σ H F env ∧ Ask g W σ H F k (f env k) fun d H' F' k' => ∀ v, Rep g F' v d → Q v H'
def tDT (g : G) (xc : XC) (W : WX) (f : Sm Bool) : TT := fun σ H Q => ∃ F k env, Sta g H F k ∧ EnvOk g xc k σ H F env ∧ Ask g W σ H F k (f env k) fun b H' F' k' => Q b H'
def tDA (g : G) (xc : XC) (W : WX) (f : Sm (List D)) : TA := fun σ H Q => ∃ F k env, Sta g H F k ∧ EnvOk g xc k σ H F env ∧ Ask g W σ H F k (f env k) fun ds H' F' k' => ∀ vs, RepAll g F' vs ds → Q vs H'
def PD (X : Cx) (g : G) (xc : XC) (W : WX) (e : Expr) (f : Sm D) : Prop := PE X e (tD g xc W f)
def PDT (X : Cx) (g : G) (xc : XC) (W : WX) (e : Expr) (f : Sm Bool) : Prop := PT X e (tDT g xc W f)
def PDW (X : Cx) (g : G) (xc : XC) (W : WX) (e : Expr) (f : Sm Bool) : Prop := PW X e (tDT g xc W f)
def PDA (X : Cx) (g : G) (xc : XC) (W : WX) (es : List Expr) (f : Sm (List D)) : Prop := PA X es (tDA g xc W f)
theorem PE.imp {X : Cx} {e : Expr} {t t' : TE} (h : PE X e t) (f : ∀ σ H Q, t' σ H Q → t σ H Q) : PE X e t' := ⟨fun pins s σ H Q I q => h.run pins s σ H Q I (f σ H Q q)⟩
theorem PT.imp {X : Cx} {e : Expr} {t t' : TT} (h : PT X e t) (f : ∀ σ H Q, t' σ H Q → t σ H Q) : PT X e t' := ⟨fun pins s σ H Q I q => h.run pins s σ H Q I (f σ H Q q)⟩
theorem PW.imp {X : Cx} {e : Expr} {t t' : TT} (h : PW X e t) (f : ∀ σ H Q, t' σ H Q → t σ H Q) : PW X e t' := ⟨fun wh pins s σ H Q I q => h.run wh pins s σ H Q I (f σ H Q q)⟩
theorem PA.imp {X : Cx} {e : List Expr} {t t' : TA} (h : PA X e t) (f : ∀ σ H Q, t' σ H Q → t σ H Q) : PA X e t' := ⟨fun pos pins s σ H Q I q => h.run pos pins s σ H Q I (f σ H Q q)⟩

section
variable {X : Cx} {g : G} {xc : XC} {W : WX} {a b c e : Expr} {es : List Expr} {f h q : Sm D} {pos : Pos}

/-! ### names, constants -/
def sV (i : Nat) : Sm D := fun env k => match env[i]? with
  | some (.d x) => .ok x k
  | _ => .bad
def sC (d : D) : Sm D := fun _ k => .ok d k
theorem pd_var {i : Nat} (h : PE X e (tVar i)) : PD X g xc W e (sV i) := by
  refine PE.imp h fun σ H Q ⟨F, k, env, s, ok, q⟩ => ?_
  unfold sV at q
  cases hx : env[i]? with
  | none => rw [hx] at q; exact q.elim
  | some en =>
    rw [hx] at q
    cases en with
    | d x =>
      obtain ⟨v, ev, r⟩ := ok.2 i _ hx
      refine ⟨v, ?_, q H F (.refl s) v r⟩
      cases hs : σ[i]? with
      | none => rw [hs] at ev; cases ev
      | some w => rw [hs] at ev; rw [show w = some v from ev]
    | _ => exact q.elim
theorem pd_const {v : V} {d : D} (h : PE X e (tC v)) (r : ∀ F, Rep g F v d) : PD X g xc W e (sC d) :=
  PE.imp h fun σ H Q ⟨F, k, env, s, ok, q⟩ => q H F (.refl s) v (r F)
theorem pd_int {i j pos} : PD X g xc W (.Constant (.int i) j pos) (sC (.int i)) := pd_const pe_int fun _ => .int i
theorem pd_bl {b j pos} : PD X g xc W (.Constant (.bool b) j pos) (sC (.bl b)) := pd_const pe_bl fun _ => .bl b
theorem pd_non {j pos} : PD X g xc W (.Constant .none j pos) (sC .non) := pd_const pe_non fun _ => .non
theorem pd_str {x j pos} (h : SOk x := by exact ⟨by decide +kernel, by decide +kernel⟩) : PD X g xc W (.Constant (.str x) j pos) (sC (.str x)) := pd_const pe_str fun _ => .str h
theorem pd_globS {x z : Str} {t : Tok} {pos : Pos} (hg : Gl X x) (hm : X.mg x = some (.str z t)) (hz : SOk z := by exact ⟨by decide +kernel, by decide +kernel⟩) (hd : (x == ("__debug__" : Str)) = false := by decide) : PD X g xc W (.Name x pos) (sC (.str z)) :=
  pd_const (pe_glob (v := .str z) hg hm ⟨_, rfl⟩ hd) fun _ => .str hz
theorem pd_globI {x : Str} {i : Int} {t : Tok} {pos : Pos} (hg : Gl X x) (hm : X.mg x = some (.int i t)) (hd : (x == ("__debug__" : Str)) = false := by decide) : PD X g xc W (.Name x pos) (sC (.int i)) :=
  pd_const (pe_glob (v := .int i) hg hm ⟨_, rfl⟩ hd) fun _ => .int i

/-! ### operators by values -/
/-- a two-place operation by trees -/
def OpD (X : Cx) (g : G) (f : Value → Value → Sem Value) (op : D → D → Option D) : Prop :=
  ∃ r : R2, OpR X f r ∧ ∀ H F k x y a b d Q, Sta g H F k → Rep g F x a → Rep g F y b → op a b = some d → (∀ w H' F', Stp g H F k H' F' k → Rep g F' w d → Q w H') → r x y H Q
def sOp (op : D → D → Option D) (f h : Sm D) : Sm D := fun env k => (f env k).bind fun x k1 => (h env k1).bind fun y k2 => .of (op x y) k2
theorem op_ask {r : R2} {op : D → D → Option D} {x y : V} {a b : D} {H F : Hp} {k : DkO} {σ : L2.St} {Q : VK}
    (hr : ∀ H F k x y a b d Q, Sta g H F k → Rep g F x a → Rep g F y b → op a b = some d → (∀ w H' F', Stp g H F k H' F' k → Rep g F' w d → Q w H') → r x y H Q)
    (s : Sta g H F k) (ra : Rep g F x a) (rb : Rep g F y b) (h : Ask g W σ H F k (.of (op a b) k) fun d H' F' k' => ∀ v, Rep g F' v d → Q v H') : r x y H Q := by
  cases hq : op a b with
  | none => rw [hq] at h; exact h.elim
  | some d =>
    rw [hq] at h
    exact hr H F k x y a b d Q s ra rb hq fun w H' F' s' rw' => h H' F' s' w rw'
/-- from an expression's question to the next one -/
theorem tD_then {σ : L2.St} {H F : Hp} {k : DkO} {env : List En} {Q : VK} {R : D → DkO → Out D} (s : Sta g H F k) (ok : EnvOk g xc k σ H F env)
    (h0 : Ask g W σ H F k ((f env k).bind R) fun d H' F' k' => ∀ v, Rep g F' v d → Q v H') {Q2 : VK}
    (hn : ∀ v d H1 F1 k1, Sta g H1 F1 k1 → EnvOk g xc k1 σ H1 F1 env → Same F F1 → Rep g F1 v d → Ask g W σ H1 F1 k1 (R d k1) (fun d H' F' k' => ∀ v, Rep g F' v d → Q v H') → Q2 v H1) : tD g xc W f σ H Q2 :=
  ⟨F, k, env, s, ok, (Ask.bind h0).imp fun d H1 F1 k1 _ s1 q v r => hn v d H1 F1 k1 s1.st (ok.step s1) s1.ff r q⟩
theorem pd_op {op : Operator} {o : D → D → Option D} (ho : OpD X g (binaryOp op) o) (ha : PD X g xc W a f) (hb : PD X g xc W b h) : PD X g xc W (.BinOp a op b pos) (sOp o f h) := by
  obtain ⟨r, h1, h2⟩ := ho
  refine PE.imp (pe_op h1 ha hb) fun σ H Q ⟨F, k, env, s, ok, q⟩ => ?_
  refine tD_then s ok q fun x da H1 F1 k1 s1 ok1 ff1 rx q1 => ?_
  refine tD_then s1 ok1 q1 fun y db H2 F2 k2 s2 ok2 ff2 ry q2 => ?_
  exact op_ask h2 s2 (rx.same ff2) ry q2
theorem pd_cmp {op : CmpOp} {o : D → D → Option D} (ho : OpD X g (compareOp op) o) (ha : PD X g xc W a f) (hb : PD X g xc W b h) (hm : behindInMarks op b = false) : PD X g xc W (.Compare a [op] [b] pos) (sOp o f h) := by
  obtain ⟨r, h1, h2⟩ := ho
  refine PE.imp (pe_cmpR h1 ha hb hm) fun σ H Q ⟨F, k, env, s, ok, q⟩ => ?_
  refine tD_then s ok q fun x da H1 F1 k1 s1 ok1 ff1 rx q1 => ?_
  refine tD_then s1 ok1 q1 fun y db H2 F2 k2 s2 ok2 ff2 ry q2 => ?_
  exact op_ask h2 s2 (rx.same ff2) ry q2
end
end DL
set_option Elab.async false
set_option linter.all false
set_option maxRecDepth 100000
set_option maxHeartbeats 4000000
/-! operators by trees -/
namespace DL
open PySem PySem.Spec L2
open PySem.W (Frag)
theorem R2.or {X : Cx} {f : Value → Value → Sem Value} {r r' : R2} (h : OpR X f r) (h' : OpR X f r') : OpR X f (fun x y H Q => r x y H Q ∨ r' x y H Q) := OpR.or h h'
/-- the one or, where it has no answer, the other -/
def orD (o o' : D → D → Option D) : D → D → Option D := fun a b => match o a b with
  | some d => some d
  | none => o' a b
theorem OpD.or {X : Cx} {g : G} {f : Value → Value → Sem Value} {o o' : D → D → Option D} (h : OpD X g f o) (h' : OpD X g f o') : OpD X g f (orD o o') := by
  obtain ⟨r, h1, h2⟩ := h
  obtain ⟨r', h1', h2'⟩ := h'
  refine ⟨_, OpR.or h1 h1', fun H F k x y a b d Q s ra rb e q => ?_⟩
  unfold orD at e
  cases hq : o a b with
  | some z => rw [hq] at e; cases e; exact .inl (h2 H F k x y a b _ Q s ra rb hq q)
  | none => rw [hq] at e; exact .inr (h2' H F k x y a b d Q s ra rb e q)
theorem sqT_of {K : Frag} {F H : Hp} {a : Addr} {vs : List V} (s : Same F H) (h : SqT K F a vs) : SqT K H a vs := s.seqT h
theorem strOk_app {x y : Str} (h : PyData.strOk x = true) (h2 : PyData.strOk y = true) : PyData.strOk (x ++ y) = true := by
  unfold PyData.strOk at *
  rw [Array.all_eq_true'] at *
  intro c hc
  have e : (x ++ y).cps = x.cps ++ y.cps := rfl
  rw [e, Array.mem_append] at hc
  exact hc.elim (h c) (h2 c)

section
variable {X : Cx} {g : G}
theorem repInt {F : Hp} {i : Int} {v : V} (h : Rep g F v (.int i)) : v = .int i := by cases h; rfl
theorem repStr {F : Hp} {x : Str} {v : V} (h : Rep g F v (.str x)) : v = .str x ∧ SOk x := by cases h; exact ⟨rfl, by assumption⟩
theorem repBl {F : Hp} {b : Bool} {v : V} (h : Rep g F v (.bl b)) : v = .bl b := by cases h; rfl
theorem repNon {F : Hp} {v : V} (h : Rep g F v .non) : v = .non := by cases h; rfl
theorem repLst {F : Hp} {ds : List D} {v : V} (h : Rep g F v (.lst ds)) : ∃ a vs, v = .ref a ∧ F a = some (.lst vs) ∧ RepAll g F vs ds := by cases h; exact ⟨_, _, rfl, by assumption, by assumption⟩
theorem repTup {F : Hp} {ds : List D} {v : V} (h : Rep g F v (.tup ds)) : ∃ a vs, v = .ref a ∧ SqT g.K F a vs ∧ RepAll g F vs ds := by cases h; exact ⟨_, _, rfl, by assumption, by assumption⟩
theorem repObj {F : Hp} {c : String} {ds : List (Str × D)} {v : V} (h : Rep g F v (.obj c ds)) : ∃ a dx fs, v = .ref a ∧ c ∈ g.own ∧ F a = some (.ins (g.cl c) dx fs) ∧ RepFs g F fs ds := by cases h; exact ⟨_, _, _, rfl, by assumption, by assumption, by assumption⟩

/-! ### ints -/
def intOp (C : Int → Int → Bool) (f : Int → Int → D) : D → D → Option D
  | .int i, .int j => if C i j then some (f i j) else none
  | _, _ => none
theorem intOp_some {C : Int → Int → Bool} {f : Int → Int → D} {a b d : D} (e : intOp C f a b = some d) : ∃ i j, a = .int i ∧ b = .int j ∧ C i j = true ∧ d = f i j := by
  unfold intOp at e
  split at e
  · split at e
    · cases e; exact ⟨_, _, rfl, rfl, by assumption, rfl⟩
    · cases e
  · cases e
theorem opd_int {f : Value → Value → Sem Value} {C : Int → Int → Bool} {CP : Int → Int → Prop} {h : Int → Int → Int} (ho : OpR X f (rI CP fun i j => .int (h i j))) (hc : ∀ i j, C i j = true → CP i j) : OpD X g f (intOp C fun i j => .int (h i j)) :=
  ⟨_, ho, fun H F k x y a b d Q s ra rb e q => by
    obtain ⟨i, j, rfl, rfl, hC, rfl⟩ := intOp_some e
    rw [repInt ra, repInt rb]
    exact ⟨i, j, rfl, rfl, hc i j hC, q _ H F (.refl s) (.int _)⟩⟩
theorem opd_int0 {f : Value → Value → Sem Value} {h : Int → Int → Int} (ho : OpR X f (rI0 fun i j => .int (h i j))) : OpD X g f (intOp (fun _ _ => true) fun i j => .int (h i j)) :=
  ⟨_, ho, fun H F k x y a b d Q s ra rb e q => by
    obtain ⟨i, j, rfl, rfl, hC, rfl⟩ := intOp_some e
    rw [repInt ra, repInt rb]
    exact ⟨i, j, rfl, rfl, q _ H F (.refl s) (.int _)⟩⟩
theorem opd_intB {f : Value → Value → Sem Value} {h : Int → Int → Bool} (ho : OpR X f (rI0 fun i j => .bl (h i j))) : OpD X g f (intOp (fun _ _ => true) fun i j => .bl (h i j)) :=
  ⟨_, ho, fun H F k x y a b d Q s ra rb e q => by
    obtain ⟨i, j, rfl, rfl, hC, rfl⟩ := intOp_some e
    rw [repInt ra, repInt rb]
    exact ⟨i, j, rfl, rfl, q _ H F (.refl s) (.bl _)⟩⟩
def small (i : Int) : Bool := decide (-(2 ^ 64) < i) && decide (i < 2 ^ 64)
def mulD := intOp (fun i j => small i || small j) fun i j => .int (i * j)
def modD := intOp (fun _ j => decide (0 < j)) fun i j => .int (i % j)
def fdivD := intOp (fun _ j => decide (j ≠ 0) && decide (j.natAbs < 1073741824)) fun i j => .int (i.fdiv j)
def powD := intOp (fun i j => decide (0 ≤ j) && decide (j ≤ 1000000) && decide (i.natAbs < 2 ^ 64)) fun i j => .int (i ^ j.toNat)
def subD := intOp (fun _ _ => true) fun i j => .int (i - j)
theorem opd_sub : OpD X g (binaryOp .Sub) subD := opd_int0 op_sub
theorem opd_mulI : OpD X g (binaryOp .Mult) mulD := opd_int op_mul fun i j h => by
  simp only [small, Bool.or_eq_true, Bool.and_eq_true, decide_eq_true_eq] at h
  exact h
theorem opd_mod : OpD X g (binaryOp .Mod) modD := opd_int op_mod fun i j h => of_decide_eq_true h
theorem opd_fdiv : OpD X g (binaryOp .FloorDiv) fdivD := opd_int op_fdivN fun i j h => by
  simp only [Bool.and_eq_true, decide_eq_true_eq] at h
  exact h
theorem opd_pow : OpD X g (binaryOp .Pow) powD := opd_int op_pow fun i j h => by
  simp only [Bool.and_eq_true, decide_eq_true_eq] at h
  exact ⟨h.1.1, h.1.2, h.2⟩

/-! ### + -/
def catD : D → D → Option D
  | .int i, .int j => some (.int (i + j))
  | .str x, .str y => if x.length + y.length ≤ sizeLine then some (.str (x ++ y)) else none
  | .lst xs, .lst ys => if xs.length + ys.length ≤ sizeLine then some (.lst (xs ++ ys)) else none
  | .tup xs, .tup ys => if xs.length + ys.length ≤ sizeLine then some (.tup (xs ++ ys)) else none
  | _, _ => none
theorem opd_add (hK : X.K = g.K) : OpD X g (binaryOp .Add) catD := by
  refine ⟨_, OpR.or (OpR.or op_add op_add_str) (OpR.or op_cat (by have := @op_catA X; exact this)), fun H F k x y a b d Q s ra rb e q => ?_⟩
  unfold catD at e
  split at e
  · cases e
    rw [repInt ra, repInt rb]
    exact .inl (.inl ⟨_, _, rfl, rfl, q _ H F (.refl s) (.int _)⟩)
  · split at e
    · cases e
      obtain ⟨rfl, hx⟩ := repStr ra
      obtain ⟨rfl, hy⟩ := repStr rb
      rename_i hz
      refine .inl (.inr ⟨_, _, rfl, rfl, hz, q _ H F (.refl s) (.str ⟨?_, strOk_app hx.2 hy.2⟩)⟩)
      rw [Str.length_append]; exact hz
    · cases e
  · split at e
    · cases e
      obtain ⟨a, vs, rfl, h1, r1⟩ := repLst ra
      obtain ⟨b, ws, rfl, h2, r2⟩ := repLst rb
      rename_i hz
      refine .inr (.inl ⟨a, b, vs, ws, rfl, rfl, s.sub _ _ h1, s.sub _ _ h2, by rw [r1.length, r2.length]; exact hz, fun p np => ?_⟩)
      have st := Stp.laid (o := .lst (vs ++ ws)) s np
      exact q _ _ _ st (.lst upd_same ((r1.same st.ff).app (r2.same st.ff)))
    · cases e
  · split at e
    · cases e
      obtain ⟨a, vs, rfl, h1, r1⟩ := repTup ra
      obtain ⟨b, ws, rfl, h2, r2⟩ := repTup rb
      rename_i hz
      refine .inr (.inr ⟨a, b, vs, ws, rfl, rfl, by rw [hK]; exact s.sub.seqT h1, by rw [hK]; exact s.sub.seqT h2, by rw [r1.length, r2.length]; exact hz, fun h0 => ?_, fun _ h0 => ?_, fun _ _ p np => ?_⟩)
      · subst h0
        cases r1
        exact q _ H F (.refl s) (.tup h2 r2)
      · subst h0
        cases r2
        simp only [List.append_nil] at q
        exact q _ H F (.refl s) (.tup h1 r1)
      · have st := Stp.laid (o := .tup (vs ++ ws)) s np
        exact q _ _ _ st (.tup (SqT.of upd_same) ((r1.same st.ff).app (r2.same st.ff)))
    · cases e
  · cases e
/-- list * n -/
def repD : D → D → Option D
  | .lst xs, .int n => if decide (-(2 ^ 63) ≤ n) && decide (n < 2 ^ 63) && decide (xs.length * n.toNat ≤ sizeLine) then some (.lst (List.replicate n.toNat xs).flatten) else none
  | _, _ => none
theorem RepAll.rep {F : Hp} {vs : List V} {ds : List D} (r : RepAll g F vs ds) : ∀ n, RepAll g F (List.replicate n vs).flatten (List.replicate n ds).flatten
  | 0 => .nil
  | n + 1 => by rw [List.replicate_succ, List.replicate_succ, List.flatten_cons, List.flatten_cons]; exact r.app (RepAll.rep r n)
theorem opd_rep : OpD X g (binaryOp .Mult) repD := by
  refine ⟨_, op_rep, fun H F k x y a b d Q s ra rb e q => ?_⟩
  unfold repD at e
  split at e
  · split at e
    · cases e
      rename_i xs n hz
      simp only [Bool.and_eq_true, decide_eq_true_eq] at hz
      obtain ⟨a, vs, rfl, h1, r1⟩ := repLst ra
      rw [repInt rb]
      refine ⟨a, n, vs, rfl, rfl, s.sub _ _ h1, hz.1.1, hz.1.2, by rw [r1.length]; exact hz.2, fun p np => ?_⟩
      have st := Stp.laid (o := .lst (List.replicate n.toNat vs).flatten) s np
      exact q _ _ _ st (.lst upd_same (RepAll.rep (r1.same st.ff) _))
    · cases e
  · cases e
theorem opd_mul : OpD X g (binaryOp .Mult) (orD mulD repD) := opd_mulI.or opd_rep

/-! ### ==, != -/
mutual
theorem canLay_of {F : Hp} : ∀ {v : V} {d : D} {p : PyData}, Rep g F v d → d.py = some p → p.hasDict = false → p.canLay0 = true
  | _, _, _, .non, e, _ => by cases e; rfl
  | _, _, _, .bl b, e, _ => by cases e; rfl
  | _, _, _, .int i, e, _ => by cases e; rfl
  | _, _, _, .str h, e, _ => by cases e; exact h.2
  | _, _, _, .lst (ds := ds) h r, e, hd => by
    simp only [D.py] at e
    cases hx : D.pyAll ds with
    | none => rw [hx] at e; cases e
    | some xs => rw [hx] at e; cases e; simp only [PyData.hasDict] at hd; simp only [PyData.canLay0]; exact canLayAll_of r hx hd
  | _, _, _, .tup (ds := ds) h r, e, hd => by
    simp only [D.py] at e
    cases hx : D.pyAll ds with
    | none => rw [hx] at e; cases e
    | some xs => rw [hx] at e; cases e; simp only [PyData.hasDict] at hd; simp only [PyData.canLay0]; exact canLayAll_of r hx hd
  | _, _, _, .dct (ds := ds) h r, e, hd => by
    cases ds with
    | nil => cases e; simp [PyData.hasDict] at hd
    | cons _ _ => simp [D.py] at e
  | _, _, _, .obj _ h r, e, _ => by cases e
  | _, _, _, .dk, e, _ => by cases e
  | _, _, _, .cls _, e, _ => by cases e
  | _, _, _, .shw _, e, _ => by cases e
theorem canLayAll_of {F : Hp} : ∀ {vs : List V} {ds : List D} {ps : List PyData}, RepAll g F vs ds → D.pyAll ds = some ps → PyData.hasDictAll ps = false → PyData.canLayAll0 ps = true
  | _, _, _, .nil, e, _ => by cases e; rfl
  | _, _, _, .cons (d := d) (ds := ds) h r, e, hd => by
    simp only [D.pyAll] at e
    cases hx : D.py d with
    | none => rw [hx] at e; cases e
    | some x =>
      cases hy : D.pyAll ds with
      | none => rw [hx, hy] at e; cases e
      | some xs =>
        rw [hx, hy] at e; cases e
        simp only [PyData.hasDictAll, Bool.or_eq_false_iff] at hd
        simp only [PyData.canLayAll0, Bool.and_eq_true]
        exact ⟨canLay_of h hx hd.1, canLayAll_of r hy hd.2⟩
end
/-- data without dicts, not too deep -/
def flatPy (p : PyData) : Bool := !p.hasDict && decide (p.depth ≤ 64)
theorem dp_of {F : Hp} {v : V} {d : D} {p : PyData} (r : Rep g F v d) (e : d.py = some p) (hf : flatPy p = true) : Dp g.K F v p ∧ SeqAt.shaped p = true := by
  simp only [flatPy, Bool.and_eq_true, Bool.not_eq_true', decide_eq_true_eq] at hf
  exact ⟨av_dp (r.av e) hf.1, by unfold SeqAt.shaped; rw [canLay_of r e hf.1, Bool.true_and]; exact decide_eq_true hf.2⟩
def eqvD (f : Bool → Bool) : D → D → Option D := fun a b => match a.py, b.py with
  | some p, some q => if flatPy p && flatPy q then some (.bl (f (PyData.eqv p q))) else none
  | _, _ => none
theorem eqvD_some {f : Bool → Bool} {a b d : D} (e : eqvD f a b = some d) : ∃ p q, a.py = some p ∧ b.py = some q ∧ flatPy p = true ∧ flatPy q = true ∧ d = .bl (f (PyData.eqv p q)) := by
  unfold eqvD at e
  split at e
  · split at e
    · cases e
      rename_i h
      rw [Bool.and_eq_true] at h
      exact ⟨_, _, by assumption, by assumption, h.1, h.2, rfl⟩
    · cases e
  · cases e
def nilT : D → D → Option D
  | .tup xs, .tup [] => some (.bl xs.isEmpty)
  | _, _ => none
theorem opd_eqv (hK : X.K = g.K) (hu : X.A.units + 64 < cLine) : OpD X g (compareOp .Eq) (eqvD fun b => b) :=
  ⟨_, op_eqD hu, fun H F k x y a b d Q s ra rb e q => by
    obtain ⟨p, r, e1, e2, f1, f2, rfl⟩ := eqvD_some e
    obtain ⟨d1, s1⟩ := dp_of ra e1 f1
    obtain ⟨d2, s2⟩ := dp_of rb e2 f2
    rw [hK]
    exact ⟨p, r, d1.same s.sub, d2.same s.sub, s1, s2, q _ H F (.refl s) (.bl _)⟩⟩
theorem opd_nev (hK : X.K = g.K) (hu : X.A.units + 64 < cLine) : OpD X g (compareOp .NotEq) (eqvD fun b => !b) :=
  ⟨_, op_neD hu, fun H F k x y a b d Q s ra rb e q => by
    obtain ⟨p, r, e1, e2, f1, f2, rfl⟩ := eqvD_some e
    obtain ⟨d1, s1⟩ := dp_of ra e1 f1
    obtain ⟨d2, s2⟩ := dp_of rb e2 f2
    rw [hK]
    exact ⟨p, r, d1.same s.sub, d2.same s.sub, s1, s2, q _ H F (.refl s) (.bl _)⟩⟩
theorem opd_nilT (hK : X.K = g.K) (hu : X.A.units + 64 < cLine) : OpD X g (compareOp .Eq) nilT :=
  ⟨_, op_eqNilT hu, fun H F k x y a b d Q s ra rb e q => by
    unfold nilT at e
    split at e
    · cases e
      rename_i xs
      obtain ⟨a, vs, rfl, h1, r1⟩ := repTup ra
      obtain ⟨b, ws, rfl, h2, r2⟩ := repTup rb
      cases r2
      rw [hK]
      refine ⟨a, b, vs, rfl, rfl, s.sub.seqT h1, s.sub.seqT h2, ?_⟩
      have e : vs.isEmpty = xs.isEmpty := by
        cases r1 <;> rfl
      rw [e]
      exact q _ H F (.refl s) (.bl _)
    · cases e⟩
/-- of two reprs -/
def eqShw (f : Bool → Bool) : D → D → Option D
  | .shw p, .shw q => some (.bl (f (decide (p.shown = q.shown))))
  | _, _ => none
theorem eqShw_some {f : Bool → Bool} {a b d : D} (e : eqShw f a b = some d) : ∃ p q, a = .shw p ∧ b = .shw q ∧ d = .bl (f (decide (p.shown = q.shown))) := by
  unfold eqShw at e
  split at e
  · cases e; exact ⟨_, _, rfl, rfl, rfl⟩
  · cases e
theorem opd_eqShw : OpD X g (compareOp .Eq) (eqShw fun b => b) :=
  ⟨_, op_eq, fun H F k x y a b d Q s ra rb e q => by
    obtain ⟨p, r, rfl, rfl, rfl⟩ := eqShw_some e
    cases ra
    cases rb
    refine ⟨rfl, ?_⟩
    have e : decide (V.str p.shown = V.str r.shown) = decide (p.shown = r.shown) := by
      rw [Bool.eq_iff_iff]; simp
    rw [e]
    exact q _ H F (.refl s) (.bl _)⟩
theorem opd_neShw : OpD X g (compareOp .NotEq) (eqShw fun b => !b) :=
  ⟨_, op_ne, fun H F k x y a b d Q s ra rb e q => by
    obtain ⟨p, r, rfl, rfl, rfl⟩ := eqShw_some e
    cases ra
    cases rb
    refine ⟨rfl, ?_⟩
    have e : decide (V.str p.shown = V.str r.shown) = decide (p.shown = r.shown) := by
      rw [Bool.eq_iff_iff]; simp
    rw [e]
    exact q _ H F (.refl s) (.bl _)⟩
def eqD : D → D → Option D := orD (orD nilT (eqvD fun b => b)) (eqShw fun b => b)
def neD : D → D → Option D := orD (eqvD fun b => !b) (eqShw fun b => !b)
theorem opd_eq (hK : X.K = g.K) (hu : X.A.units + 64 < cLine) : OpD X g (compareOp .Eq) eqD := ((opd_nilT hK hu).or (opd_eqv hK hu)).or opd_eqShw
theorem opd_ne (hK : X.K = g.K) (hu : X.A.units + 64 < cLine) : OpD X g (compareOp .NotEq) neD := (opd_nev hK hu).or opd_neShw

/-! ### <, .. -/
def strOp (f : List Nat → List Nat → Bool) : D → D → Option D
  | .str x, .str y => some (.bl (f x.cps.toList y.cps.toList))
  | _, _ => none
theorem opd_strB {f : Value → Value → Sem Value} {h : List Nat → List Nat → Bool} (ho : OpR X f (fun x y H Q => ∃ i j, x = .str i ∧ y = .str j ∧ Q (.bl (h i.cps.toList j.cps.toList)) H)) : OpD X g f (strOp h) :=
  ⟨_, ho, fun H F k x y a b d Q s ra rb e q => by
    unfold strOp at e
    split at e
    · cases e
      rw [(repStr ra).1, (repStr rb).1]
      exact ⟨_, _, rfl, rfl, q _ H F (.refl s) (.bl _)⟩
    · cases e⟩
def ltD : D → D → Option D := orD (intOp (fun _ _ => true) fun i j => .bl (decide (i < j))) (strOp fun x y => decide (x < y))
def leD : D → D → Option D := orD (intOp (fun _ _ => true) fun i j => .bl (decide (i ≤ j))) (strOp fun x y => !decide (y < x))
def gtD : D → D → Option D := intOp (fun _ _ => true) fun i j => .bl (decide (j < i))
def geD : D → D → Option D := intOp (fun _ _ => true) fun i j => .bl (decide (j ≤ i))
theorem opd_lt : OpD X g (compareOp .Lt) ltD := (opd_intB op_lt).or (opd_strB op_lt_str)
theorem opd_le : OpD X g (compareOp .LtE) leD := (opd_intB op_le).or (opd_strB (h := fun x y => !decide (y < x)) op_le_str)
theorem opd_gt : OpD X g (compareOp .Gt) gtD := opd_intB op_gt
theorem opd_ge : OpD X g (compareOp .GtE) geD := opd_intB op_ge

/-! ### is -/
def D.isNon : D → Bool
  | .non => true
  | _ => false
def isD (f : Bool → Bool) : D → D → Option D
  | .non, .non => some (.bl (f true))
  | _, .non => some (.bl (f false))
  | .bl a, .bl b => some (.bl (f (decide (a = b))))
  | _, _ => none
theorem rep_non_iff {F : Hp} {v : V} {d : D} (r : Rep g F v d) : decide (v = .non) = d.isNon := by
  cases r <;> first | rfl | exact decide_eq_false (fun z => by cases z)
theorem isD_non {f : Bool → Bool} {a : D} : isD f a .non = some (.bl (f a.isNon)) := by cases a <;> rfl
theorem opd_is : OpD X g (compareOp .Is) (isD fun b => b) := by
  refine ⟨_, OpR.or op_isN op_isBl, fun H F k x y a b d Q s ra rb e q => ?_⟩
  cases b with
  | non =>
    rw [isD_non] at e
    cases e
    rw [repNon rb]
    refine .inl ⟨rfl, ?_⟩
    rw [rep_non_iff ra]
    exact q _ H F (.refl s) (.bl _)
  | bl b =>
    cases a with
    | bl a =>
      cases e
      rw [repBl ra, repBl rb]
      exact .inr ⟨_, _, rfl, rfl, q _ H F (.refl s) (.bl _)⟩
    | _ => cases e
  | _ => cases a <;> cases e
theorem opd_isNot : OpD X g (compareOp .IsNot) (isD fun b => !b) := by
  refine ⟨_, OpR.or op_notN op_notBl, fun H F k x y a b d Q s ra rb e q => ?_⟩
  cases b with
  | non =>
    rw [isD_non] at e
    cases e
    rw [repNon rb]
    refine .inl ⟨rfl, ?_⟩
    rw [rep_non_iff ra]
    exact q _ H F (.refl s) (.bl _)
  | bl b =>
    cases a with
    | bl a =>
      cases e
      rw [repBl ra, repBl rb]
      exact .inr ⟨_, _, rfl, rfl, q _ H F (.refl s) (.bl _)⟩
    | _ => cases e
  | _ => cases a <;> cases e

/-! ### in -/
def inSign (f : Bool → Bool) : D → D → Option D
  | .str x, .str y => match x.cps.toList with
    | [c] => some (.bl (f (decide (c ∈ y.cps.toList))))
    | _ => none
  | _, _ => none
theorem one_sign {x : Str} {c : Nat} (h : x.cps.toList = [c]) : x = ⟨#[c]⟩ := by
  obtain ⟨⟨l⟩⟩ := x
  have z : l = [c] := h
  subst z; rfl
theorem inSign_some {f : Bool → Bool} {a b d : D} (e : inSign f a b = some d) : ∃ c y, a = .str ⟨#[c]⟩ ∧ b = .str y ∧ d = .bl (f (decide (c ∈ y.cps.toList))) := by
  unfold inSign at e
  split at e
  · split at e
    · cases e
      rename_i x y _ c hx
      exact ⟨c, y, by rw [one_sign hx], rfl, rfl⟩
    · cases e
  · cases e
theorem opd_inSign : OpD X g (compareOp .In) (inSign fun b => b) :=
  ⟨_, op_in_sign, fun H F k x y a b d Q s ra rb e q => by
    obtain ⟨c, z, rfl, rfl, rfl⟩ := inSign_some e
    rw [(repStr ra).1, (repStr rb).1]
    exact ⟨c, z, rfl, rfl, q _ H F (.refl s) (.bl _)⟩⟩
theorem opd_notInSign : OpD X g (compareOp .NotIn) (inSign fun b => !b) :=
  ⟨_, op_notIn_sign, fun H F k x y a b d Q s ra rb e q => by
    obtain ⟨c, z, rfl, rfl, rfl⟩ := inSign_some e
    rw [(repStr ra).1, (repStr rb).1]
    exact ⟨c, z, rfl, rfl, q _ H F (.refl s) (.bl _)⟩⟩
/-- .. in a list or tuple of flat items -/
def flatDD : D → Option V
  | .non => some .non
  | .bl b => some (.bl b)
  | .int i => some (.int i)
  | .str x => some (.str x)
  | _ => none
def flatAll : List D → Option (List V)
  | [] => some []
  | d :: ds => match flatDD d, flatAll ds with
    | some v, some vs => some (v :: vs)
    | _, _ => none
theorem flat_rep {F : Hp} {v w : V} {d : D} (r : Rep g F v d) (e : flatDD d = some w) : v = w ∧ flatV v = true := by
  cases r <;> first | (cases e; exact ⟨rfl, rfl⟩) | cases e
theorem flat_repAll {F : Hp} : ∀ {vs ws : List V} {ds : List D}, RepAll g F vs ds → flatAll ds = some ws → vs = ws ∧ vs.all flatV = true
  | _, _, _, .nil, e => by cases e; exact ⟨rfl, rfl⟩
  | _, _, _, .cons (d := d) (ds := ds) r rs, e => by
    simp only [flatAll] at e
    cases h1 : flatDD d with
    | none => rw [h1] at e; cases e
    | some v =>
      cases h2 : flatAll ds with
      | none => rw [h1, h2] at e; cases e
      | some vs =>
        rw [h1, h2] at e; cases e
        obtain ⟨rfl, q1⟩ := flat_rep r h1
        obtain ⟨rfl, q2⟩ := flat_repAll rs h2
        exact ⟨rfl, by rw [List.all_cons, q1, q2]; rfl⟩
def seqOf : D → Option (List D)
  | .lst ds => some ds
  | .tup ds => some ds
  | _ => none
theorem seq_rep {F : Hp} {v : V} {d : D} {ds : List D} (r : Rep g F v d) (e : seqOf d = some ds) : ∃ a vs, v = .ref a ∧ (SqL g.K F a vs ∨ SqT g.K F a vs) ∧ RepAll g F vs ds := by
  cases r with
  | lst h r => cases e; exact ⟨_, _, rfl, .inl (SqL.of h), r⟩
  | tup h r => cases e; exact ⟨_, _, rfl, .inr h, r⟩
  | _ => cases e
def inSeq (neg : Bool) : D → D → Option D := fun a b => match flatDD a, (seqOf b).bind flatAll with
  | some v, some vs => some (.bl (if neg then !inV v vs else inV v vs))
  | _, _ => none
theorem opd_inSeq_ {op : CmpOp} {neg : Bool} (hK : X.K = g.K) (ho : OpR X (compareOp op) (rIn X.K neg)) : OpD X g (compareOp op) (inSeq neg) :=
  ⟨_, ho, fun H F k x y a b d Q s ra rb e q => by
    unfold inSeq at e
    cases h1 : flatDD a with
    | none => rw [h1] at e; cases e
    | some v =>
      cases h2 : seqOf b with
      | none => rw [h1, h2] at e; cases e
      | some ds =>
        cases h3 : flatAll ds with
        | none => rw [h1, h2] at e; simp only [Option.bind_some, h3] at e; cases e
        | some vs =>
          rw [h1, h2] at e; simp only [Option.bind_some, h3] at e; cases e
          obtain ⟨rfl, f1⟩ := flat_rep ra h1
          obtain ⟨p, ws, rfl, hs, r⟩ := seq_rep rb h2
          obtain ⟨rfl, f2⟩ := flat_repAll r h3
          rw [hK]
          exact ⟨p, ws, rfl, hs.imp s.sub.seq s.sub.seqT, f1, f2, q _ H F (.refl s) (.bl _)⟩⟩
def inD : D → D → Option D := orD (inSign fun b => b) (inSeq false)
def notInD : D → D → Option D := orD (inSign fun b => !b) (inSeq true)
theorem opd_in (hK : X.K = g.K) : OpD X g (compareOp .In) inD := opd_inSign.or (opd_inSeq_ hK op_in_seq)
theorem opd_notIn (hK : X.K = g.K) : OpD X g (compareOp .NotIn) notInD := opd_notInSign.or (opd_inSeq_ hK op_notIn_seq)
end
end DL
set_option Elab.async false
set_option linter.all false
set_option maxRecDepth 100000
set_option maxHeartbeats 4000000
/-! tests, displays, subscripts, fields -/
namespace DL
open PySem PySem.Spec L2
open PySem.W (Frag)
section
variable {X : Cx} {g : G} {xc : XC} {W : WX} {a b c e o : Expr} {es rest : List Expr} {f h q : Sm D} {p p' : Sm Bool} {l : Sm (List D)} {pos : Pos}

/-! ### from a question to the next one -/
theorem tD_then' {α : Type} {σ : L2.St} {H F : Hp} {k : DkO} {env : List En} {f : Sm D} {R : D → DkO → Out α} {Qa : α → Hp → Hp → DkO → Prop} (s : Sta g H F k) (ok : EnvOk g xc k σ H F env)
    (h0 : Ask g W σ H F k ((f env k).bind R) Qa) {Q2 : VK}
    (hn : ∀ v d H1 F1 k1, Sta g H1 F1 k1 → EnvOk g xc k1 σ H1 F1 env → Same F F1 → Rep g F1 v d → Ask g W σ H1 F1 k1 (R d k1) Qa → Q2 v H1) : tD g xc W f σ H Q2 :=
  ⟨F, k, env, s, ok, (Ask.bind h0).imp fun d H1 F1 k1 _ s1 q v r => hn v d H1 F1 k1 s1.st (ok.step s1) s1.ff r q⟩
theorem tDT_then {α : Type} {σ : L2.St} {H F : Hp} {k : DkO} {env : List En} {p : Sm Bool} {R : Bool → DkO → Out α} {Qa : α → Hp → Hp → DkO → Prop} (s : Sta g H F k) (ok : EnvOk g xc k σ H F env)
    (h0 : Ask g W σ H F k ((p env k).bind R) Qa) {Q2 : Bool → Hp → Prop}
    (hn : ∀ b H1 F1 k1, Sta g H1 F1 k1 → EnvOk g xc k1 σ H1 F1 env → Same F F1 → Ask g W σ H1 F1 k1 (R b k1) Qa → Q2 b H1) : tDT g xc W p σ H Q2 :=
  ⟨F, k, env, s, ok, (Ask.bind h0).imp fun b H1 F1 k1 _ s1 q => hn b H1 F1 k1 s1.st (ok.step s1) s1.ff q⟩
theorem tDA_then {α : Type} {σ : L2.St} {H F : Hp} {k : DkO} {env : List En} {l : Sm (List D)} {R : List D → DkO → Out α} {Qa : α → Hp → Hp → DkO → Prop} (s : Sta g H F k) (ok : EnvOk g xc k σ H F env)
    (h0 : Ask g W σ H F k ((l env k).bind R) Qa) {Q2 : List V → Hp → Prop}
    (hn : ∀ vs ds H1 F1 k1, Sta g H1 F1 k1 → EnvOk g xc k1 σ H1 F1 env → Same F F1 → RepAll g F1 vs ds → Ask g W σ H1 F1 k1 (R ds k1) Qa → Q2 vs H1) : tDA g xc W l σ H Q2 :=
  ⟨F, k, env, s, ok, (Ask.bind h0).imp fun ds H1 F1 k1 _ s1 q vs r => hn vs ds H1 F1 k1 s1.st (ok.step s1) s1.ff r q⟩
theorem ask_id {α : Type} {σ : L2.St} {H F : Hp} {k : DkO} {o : Out α} {Q : α → Hp → Hp → DkO → Prop} (h : Ask g W σ H F k o Q) : Ask g W σ H F k (o.bind fun a k1 => .ok a k1) Q := by
  cases o <;> exact h

/-! ### truth -/
def truD : D → Option Bool
  | .non => some false
  | .bl b => some b
  | .int i => some (i != 0)
  | .str x => some ((x.length : Int) != 0)
  | .lst ds => some (!ds.isEmpty)
  | .tup ds => some (!ds.isEmpty)
  | .dct ds => some (!ds.isEmpty)
  | _ => none
theorem empty_all {F : Hp} {vs : List V} {ds : List D} (r : RepAll g F vs ds) : (!ds.isEmpty) = !vs.isEmpty := by cases r <;> rfl
theorem empty_kv {F : Hp} {vs : List (Key × V)} {ds : List (Key × D)} (r : RepKv g F vs ds) : (!ds.isEmpty) = !vs.isEmpty := by cases r <;> rfl
theorem tru_of {H F : Hp} {v : V} {d : D} {b : Bool} (hs : Same F H) (r : Rep g F v d) (e : truD d = some b) : TruV g.K v H b := by
  cases r with
  | non => cases e; rfl
  | bl b => cases e; rfl
  | int i => cases e; rfl
  | str hx => cases e; exact ⟨hx.1, rfl⟩
  | lst h r => cases e; exact .inl ⟨_, SqL.of (hs _ _ h), empty_all r⟩
  | tup h r => cases e; exact .inr (.inl ⟨_, hs.seqT h, empty_all r⟩)
  | dct h r => cases e; exact .inr (.inr ⟨_, hs _ _ h, empty_kv r⟩)
  | obj _ _ _ => cases e
  | dk => cases e
  | cls _ => cases e
  | shw _ => cases e
def sTru (f : Sm D) : Sm Bool := fun env k => (f env k).bind fun d k1 => .of (truD d) k1
theorem pdt_truth (hK : X.K = g.K) (ha : PD X g xc W a f) (he : ∀ whole, isTrue a X.env whole = (do let v ← whole; standAt a.pos; holding [v] (truthy v)) := by intro _; rfl) : PDT X g xc W a (sTru f) := by
  refine PT.imp (pt_truth ha he) fun σ H Q ⟨F, k, env, s, ok, q⟩ => ?_
  refine tD_then' s ok q fun v d H1 F1 k1 s1 ok1 ff1 r q1 => ?_
  cases ht : truD d with
  | none => rw [ht] at q1; exact q1.elim
  | some b =>
    rw [ht] at q1
    refine ⟨b, by rw [hK]; exact tru_of s1.sub r ht, q1 _ _ (.refl s1)⟩
def sB (f : Sm D) : Sm Bool := fun env k => (f env k).bind fun d k1 => match d with
  | .bl b => .ok b k1
  | _ => .bad
theorem pdt_cmp {op : CmpOp} {o : D → D → Option D} (ho : OpD X g (compareOp op) o) (ha : PD X g xc W a f) (hb : PD X g xc W b h) (hm : behindInMarks op b = false) : PDT X g xc W (.Compare a [op] [b] pos) (sB (sOp o f h)) := by
  obtain ⟨r, h1, h2⟩ := ho
  refine PT.imp (pt_cmpR h1 ha hb hm) fun σ H Q ⟨F, k, env, s, ok, q⟩ => ?_
  have q' : Ask g W σ H F k ((f env k).bind fun x k1 => (h env k1).bind fun y k2 => (Out.of (o x y) k2).bind fun d k3 => match d with | .bl b => .ok b k3 | _ => .bad) fun b H' F' k' => Q b H' := by
    have e : sB (sOp o f h) env k = (f env k).bind fun x k1 => (h env k1).bind fun y k2 => (Out.of (o x y) k2).bind fun d k3 => match d with | .bl b => .ok b k3 | _ => .bad := by
      unfold sB sOp
      cases f env k with
      | ok x k1 => simp only [bind_ok]; cases h env k1 <;> rfl
      | err c fs k1 => rfl
      | bad => rfl
    rw [← e]; exact q
  refine tD_then' s ok q' fun x da H1 F1 k1 s1 ok1 ff1 rx q1 => ?_
  refine tD_then' s1 ok1 q1 fun y db H2 F2 k2 s2 ok2 ff2 ry q2 => ?_
  cases hq : o da db with
  | none => rw [hq] at q2; exact q2.elim
  | some d =>
    rw [hq] at q2
    refine h2 H2 F2 k2 x y da db d _ s2 (rx.same ff2) ry hq fun w' H' F' s' rw' => ?_
    cases d with
    | bl b => rw [repBl rw']; exact ⟨b, rfl, q2 _ _ s'⟩
    | _ => exact q2.elim
/-- a bool as a test -/
theorem pdt_val (ha : PD X g xc W a f) (he : ∀ whole, isTrue a X.env whole = (do let v ← whole; standAt a.pos; holding [v] (truthy v)) := by intro _; rfl) : PDT X g xc W a (sB f) := by
  refine PT.imp (pt_val ha he) fun σ H Q ⟨F, k, env, s, ok, q⟩ => ?_
  refine tD_then' s ok q fun v d H1 F1 k1 s1 ok1 ff1 r q1 => ?_
  cases d with
  | bl b => rw [repBl r]; exact ⟨b, rfl, q1 _ _ (.refl s1)⟩
  | _ => exact q1.elim
def sAndB (p p' : Sm Bool) : Sm Bool := fun env k => (p env k).bind fun b k1 => if b = true then p' env k1 else .ok false k1
def sOrB (p p' : Sm Bool) : Sm Bool := fun env k => (p env k).bind fun b k1 => if b = true then .ok true k1 else p' env k1
def sNotB (p : Sm Bool) : Sm Bool := fun env k => (p env k).bind fun b k1 => .ok (!b) k1
theorem pdw_and1 (ha : PDT X g xc W a p) : PDW X g xc W (.BoolOp .And [a] pos) p := pw_and1 ha
theorem pdw_or1 (ha : PDT X g xc W a p) : PDW X g xc W (.BoolOp .Or [a] pos) p := pw_or1 ha
theorem tDT_id {σ : L2.St} {H F : Hp} {k : DkO} {env : List En} {Q : Bool → Hp → Prop} (s : Sta g H F k) (ok : EnvOk g xc k σ H F env) (q : Ask g W σ H F k (p env k) fun b H' F' k' => Q b H') : tDT g xc W p σ H Q := ⟨F, k, env, s, ok, q⟩
theorem pdw_and (ha : PDT X g xc W a p) (hb : PDW X g xc W (.BoolOp .And (b :: rest) pos) p') : PDW X g xc W (.BoolOp .And (a :: b :: rest) pos) (sAndB p p') := by
  refine PW.imp (pw_and ha hb) fun σ H Q ⟨F, k, env, s, ok, q⟩ => ?_
  refine tDT_then s ok q fun d H1 F1 k1 s1 ok1 ff1 q1 => ?_
  cases d with
  | true => exact tDT_id s1 ok1 q1
  | false => exact q1 _ _ (.refl s1)
theorem pdw_or (ha : PDT X g xc W a p) (hb : PDW X g xc W (.BoolOp .Or (b :: rest) pos) p') : PDW X g xc W (.BoolOp .Or (a :: b :: rest) pos) (sOrB p p') := by
  refine PW.imp (pw_or ha hb) fun σ H Q ⟨F, k, env, s, ok, q⟩ => ?_
  refine tDT_then s ok q fun d H1 F1 k1 s1 ok1 ff1 q1 => ?_
  cases d with
  | true => exact q1 _ _ (.refl s1)
  | false => exact tDT_id s1 ok1 q1
theorem PDW.pt (hh : PDW X g xc W e p) : PDT X g xc W e p := L2.PW.pt hh
theorem pdt_not (ha : PDT X g xc W a p) : PDT X g xc W (.UnaryOp .Not a pos) (sNotB p) := by
  refine PT.imp (pt_not ha) fun σ H Q ⟨F, k, env, s, ok, q⟩ => ?_
  exact tDT_then s ok q fun d H1 F1 k1 s1 ok1 ff1 q1 => q1 _ _ (.refl s1)

/-! ### and, or, not as values -/
def sAnd (f h : Sm D) : Sm D := fun env k => (f env k).bind fun d k1 => match truD d with
  | some true => h env k1
  | some false => .ok d k1
  | none => .bad
def sOr (f h : Sm D) : Sm D := fun env k => (f env k).bind fun d k1 => match truD d with
  | some true => .ok d k1
  | some false => h env k1
  | none => .bad
def sNot (f : Sm D) : Sm D := fun env k => (f env k).bind fun d k1 => match truD d with
  | some b => .ok (.bl (!b)) k1
  | none => .bad
theorem tD_id {σ : L2.St} {H F : Hp} {k : DkO} {env : List En} {Q : VK} (s : Sta g H F k) (ok : EnvOk g xc k σ H F env) (q : Ask g W σ H F k (f env k) fun d H' F' k' => ∀ v, Rep g F' v d → Q v H') : tD g xc W f σ H Q := ⟨F, k, env, s, ok, q⟩
theorem pd_one {op} (ha : PD X g xc W a f) : PD X g xc W (.BoolOp op [a] pos) f := pe_one ha
theorem pd_and (hK : X.K = g.K) (ha : PD X g xc W a f) (hb : PD X g xc W (.BoolOp .And (b :: rest) pos) h) : PD X g xc W (.BoolOp .And (a :: b :: rest) pos) (sAnd f h) := by
  refine PE.imp (pe_andT ha hb) fun σ H Q ⟨F, k, env, s, ok, q⟩ => ?_
  refine tD_then' s ok q fun v d H1 F1 k1 s1 ok1 ff1 r q1 => ?_
  cases ht : truD d with
  | none => rw [ht] at q1; exact q1.elim
  | some b =>
    rw [ht] at q1
    refine ⟨b, by rw [hK]; exact tru_of s1.sub r ht, ?_⟩
    cases b with
    | true => exact tD_id s1 ok1 q1
    | false => exact q1 _ _ (.refl s1) v r
theorem pd_or (hK : X.K = g.K) (ha : PD X g xc W a f) (hb : PD X g xc W (.BoolOp .Or (b :: rest) pos) h) : PD X g xc W (.BoolOp .Or (a :: b :: rest) pos) (sOr f h) := by
  refine PE.imp (pe_orT ha hb) fun σ H Q ⟨F, k, env, s, ok, q⟩ => ?_
  refine tD_then' s ok q fun v d H1 F1 k1 s1 ok1 ff1 r q1 => ?_
  cases ht : truD d with
  | none => rw [ht] at q1; exact q1.elim
  | some b =>
    rw [ht] at q1
    refine ⟨b, by rw [hK]; exact tru_of s1.sub r ht, ?_⟩
    cases b with
    | true => exact q1 _ _ (.refl s1) v r
    | false => exact tD_id s1 ok1 q1
theorem pd_not (hK : X.K = g.K) (ha : PD X g xc W a f) : PD X g xc W (.UnaryOp .Not a pos) (sNot f) := by
  refine PE.imp (pe_notT ha) fun σ H Q ⟨F, k, env, s, ok, q⟩ => ?_
  refine tD_then' s ok q fun v d H1 F1 k1 s1 ok1 ff1 r q1 => ?_
  cases ht : truD d with
  | none => rw [ht] at q1; exact q1.elim
  | some b =>
    rw [ht] at q1
    exact ⟨b, by rw [hK]; exact tru_of s1.sub r ht, q1 _ _ (.refl s1) _ (.bl _)⟩
def sIf (p : Sm Bool) (f h : Sm D) : Sm D := fun env k => (p env k).bind fun b k1 => if b = true then f env k1 else h env k1
theorem pd_if (hc : PDT X g xc W c p) (ha : PD X g xc W a f) (hb : PD X g xc W b h) : PD X g xc W (.IfExp c a b pos) (sIf p f h) := by
  refine PE.imp (pe_ifExp hc ha hb) fun σ H Q ⟨F, k, env, s, ok, q⟩ => ?_
  refine tDT_then s ok q fun d H1 F1 k1 s1 ok1 ff1 q1 => ?_
  cases d with
  | true => exact tD_id s1 ok1 q1
  | false => exact tD_id s1 ok1 q1
theorem pd_neg (ha : PD X g xc W a f) : PD X g xc W (.UnaryOp .USub a pos) (fun env k => (f env k).bind fun d k1 => match d with | .int i => .ok (.int (-i)) k1 | _ => .bad) := by
  refine PE.imp (pe_un un_neg ha) fun σ H Q ⟨F, k, env, s, ok, q⟩ => ?_
  refine tD_then' s ok q fun v d H1 F1 k1 s1 ok1 ff1 r q1 => ?_
  cases d with
  | int i => rw [repInt r]; exact ⟨i, rfl, q1 _ _ (.refl s1) _ (.int _)⟩
  | _ => exact q1.elim
/-- a op b op' c -/
def sChain (o o' : D → D → Option D) (f h q : Sm D) : Sm D := fun env k => (f env k).bind fun x k1 => (h env k1).bind fun y k2 => match o x y with
  | some (.bl true) => (q env k2).bind fun z k3 => match o' y z with
    | some (.bl b) => .ok (.bl b) k3
    | _ => .bad
  | some (.bl false) => .ok (.bl false) k2
  | _ => .bad
theorem chain_rd {r r' : R2} {op op' : D → D → Option D}
    (h2 : ∀ H F k x y a b d Q, Sta g H F k → Rep g F x a → Rep g F y b → op a b = some d → (∀ w H' F', Stp g H F k H' F' k → Rep g F' w d → Q w H') → r x y H Q)
    (h2' : ∀ H F k x y a b d Q, Sta g H F k → Rep g F x a → Rep g F y b → op' a b = some d → (∀ w H' F', Stp g H F k H' F' k → Rep g F' w d → Q w H') → r' x y H Q)
    {σ : L2.St} {H F : Hp} {k : DkO} {env : List En} {Q : Bool → Hp → Prop} (s : Sta g H F k) (ok : EnvOk g xc k σ H F env)
    (q0 : Ask g W σ H F k (sChain op op' f h q env k) fun d H' F' k' => ∀ b, d = .bl b → Q b H') {Q' : VK} (hQ : ∀ b H, Q b H → Q' (.bl b) H) : tChain r r' (tD g xc W f) (tD g xc W h) (tD g xc W q) σ H Q' := by
  refine tD_then' s ok q0 fun x da H1 F1 k1 s1 ok1 ff1 rx q1 => ?_
  refine tD_then' s1 ok1 q1 fun y db H2 F2 k2 s2 ok2 ff2 ry q2 => ?_
  cases hq : op da db with
  | none => rw [hq] at q2; exact q2.elim
  | some d =>
    rw [hq] at q2
    refine h2 H2 F2 k2 x y da db d _ s2 (rx.same ff2) ry hq fun w' H' F' s' rw' => ?_
    cases d with
    | bl b =>
      rw [repBl rw']
      refine ⟨b, rfl, ?_⟩
      cases b with
      | false => exact hQ _ _ (q2 _ _ s' _ rfl)
      | true =>
        have q3 := Ask.after q2 s'
        refine tD_then' s'.st (ok2.step s') q3 fun z dz H4 F4 k4 s4 ok4 ff4 rz q4 => ?_
        cases hq2 : op' db dz with
        | none => rw [hq2] at q4; exact q4.elim
        | some d2 =>
          rw [hq2] at q4
          refine h2' H4 F4 k4 y z db dz d2 _ s4 ((ry.same s'.ff).same ff4) rz hq2 fun w2 H5 F5 s5 rw2 => ?_
          cases d2 with
          | bl b2 => rw [repBl rw2]; exact hQ _ _ (q4 _ _ s5 _ rfl)
          | _ => exact q4.elim
    | _ => exact q2.elim
theorem sChain_bl {op op' : D → D → Option D} {env : List En} {k k' : DkO} {d : D} (e : sChain op op' f h q env k = .ok d k') : ∃ b, d = .bl b := by
  unfold sChain at e
  cases hf : f env k with
  | bad => rw [hf] at e; cases e
  | err c fs k1 => rw [hf] at e; cases e
  | ok x k1 =>
    rw [hf] at e; simp only [bind_ok] at e
    cases hh : h env k1 with
    | bad => rw [hh] at e; cases e
    | err c fs k1 => rw [hh] at e; cases e
    | ok y k2 =>
      rw [hh] at e; simp only [bind_ok] at e
      split at e
      · cases hq : q env k2 with
        | bad => rw [hq] at e; cases e
        | err c fs k1 => rw [hq] at e; cases e
        | ok z k3 =>
          rw [hq] at e; simp only [bind_ok] at e
          split at e
          · cases e; exact ⟨_, rfl⟩
          · cases e
      · cases e; exact ⟨_, rfl⟩
      · cases e
theorem pd_chain {op op' : CmpOp} {o o' : D → D → Option D} (ho : OpD X g (compareOp op) o) (ho' : OpD X g (compareOp op') o') (ha : PD X g xc W a f) (hb : PD X g xc W b h) (hc : PD X g xc W c q)
    (hm : lastMarks [op, op'] [b, c] = false := by with_unfolding_all rfl) : PD X g xc W (.Compare a [op, op'] [b, c] pos) (sChain o o' f h q) := by
  obtain ⟨r, h1, h2⟩ := ho
  obtain ⟨r', h1', h2'⟩ := ho'
  refine PE.imp (pe_chain h1 h1' ha hb hc hm) fun σ H Q ⟨F, k, env, s, ok, q0⟩ => ?_
  refine chain_rd (Q := fun b H' => Q (.bl b) H') h2 h2' s ok (q0.imp fun d H' F' k' _ st z b e => ?_) fun b H z => z
  subst e; exact z _ (.bl _)
theorem pdt_chain {op op' : CmpOp} {o o' : D → D → Option D} (ho : OpD X g (compareOp op) o) (ho' : OpD X g (compareOp op') o') (ha : PD X g xc W a f) (hb : PD X g xc W b h) (hc : PD X g xc W c q)
    (hm : lastMarks [op, op'] [b, c] = false := by with_unfolding_all rfl) : PDT X g xc W (.Compare a [op, op'] [b, c] pos) (sB (sChain o o' f h q)) := by
  obtain ⟨r, h1, h2⟩ := ho
  obtain ⟨r', h1', h2'⟩ := ho'
  refine PT.imp (pt_chain h1 h1' ha hb hc hm) fun σ H Q ⟨F, k, env, s, ok, q0⟩ => ?_
  refine chain_rd (Q := fun b H' => Q b H') h2 h2' s ok ((Ask.bind q0).imp fun d H' F' k' _ st z b e => ?_) fun b H z => ⟨b, rfl, z⟩
  subst e; exact z _ _ (.refl st.st)

/-! ### displays -/
def lNil : Sm (List D) := fun _ k => .ok [] k
def lCons (f : Sm D) (l : Sm (List D)) : Sm (List D) := fun env k => (f env k).bind fun d k1 => (l env k1).bind fun ds k2 => .ok (d :: ds) k2
def lStar (f : Sm D) (l : Sm (List D)) : Sm (List D) := fun env k => (f env k).bind fun d k1 => match seqOf d with
  | some xs => (l env k1).bind fun ds k2 => .ok (xs ++ ds) k2
  | none => .bad
theorem pda_nil : PDA X g xc W [] lNil := PA.imp pa_nil fun σ H Q ⟨F, k, env, s, ok, q⟩ => q H F (.refl s) [] .nil
theorem pda_cons (ha : PD X g xc W e f) (hr : PDA X g xc W es l) (hs : starEach (e :: es) X.env = (false, eval e X.env) :: starEach es X.env := by rfl) : PDA X g xc W (e :: es) (lCons f l) := by
  refine PA.imp (pa_cons ha hr hs) fun σ H Q ⟨F, k, env, s, ok, q⟩ => ?_
  refine tD_then' s ok q fun v d H1 F1 k1 s1 ok1 ff1 r q1 => ?_
  exact tDA_then s1 ok1 q1 fun vs ds H2 F2 k2 s2 ok2 ff2 rs q2 => q2 _ _ (.refl s2) _ (.cons (r.same ff2) rs)
theorem pda_star {p : Pos} (hK : X.K = g.K) (ha : PD X g xc W e f) (hr : PDA X g xc W es l) (hs : starEach (.Starred e p :: es) X.env = (true, eval e X.env) :: starEach es X.env := by rfl) : PDA X g xc W (.Starred e p :: es) (lStar f l) := by
  refine PA.imp (StX.pa_star ha hr hs) fun σ H Q ⟨F, k, env, s, ok, q⟩ => ?_
  refine tD_then' s ok q fun v d H1 F1 k1 s1 ok1 ff1 r q1 => ?_
  cases hq : seqOf d with
  | none => rw [hq] at q1; exact q1.elim
  | some xs =>
    rw [hq] at q1
    obtain ⟨a, vs, rfl, hs, rx⟩ := seq_rep r hq
    refine ⟨a, vs, rfl, by rw [hK]; exact hs.symm.imp s1.sub.seqT s1.sub.seq, ?_⟩
    exact tDA_then s1 ok1 q1 fun ws ds H2 F2 k2 s2 ok2 ff2 rs q2 => q2 _ _ (.refl s2) _ ((rx.same ff2).app rs)
def sTup (l : Sm (List D)) : Sm D := fun env k => (l env k).bind fun ds k1 => if ds.length ≤ sizeLine then .ok (.tup ds) k1 else .bad
def sLst (l : Sm (List D)) : Sm D := fun env k => (l env k).bind fun ds k1 => if ds.length ≤ sizeLine then .ok (.lst ds) k1 else .bad
theorem pd_tup {x1} (hl : PDA X g xc W es l) : PD X g xc W (.Tuple es x1 pos) (sTup l) := by
  refine PE.imp (pe_tup hl) fun σ H Q ⟨F, k, env, s, ok, q⟩ => ?_
  refine tDA_then s ok q fun vs ds H1 F1 k1 s1 ok1 ff1 r q1 => ?_
  by_cases hz : ds.length ≤ sizeLine
  · rw [if_pos hz] at q1
    refine ⟨by rw [r.length]; exact hz, fun p np => ?_⟩
    have st := Stp.laid (o := .tup vs) s1 np
    exact q1 _ _ st _ (.tup (SqT.of upd_same) (r.same st.ff))
  · rw [if_neg hz] at q1; exact q1.elim
theorem pd_lst (hl : PDA X g xc W es l) : PD X g xc W (.List es pos) (sLst l) := by
  refine PE.imp (pe_lst hl) fun σ H Q ⟨F, k, env, s, ok, q⟩ => ?_
  refine tDA_then s ok q fun vs ds H1 F1 k1 s1 ok1 ff1 r q1 => ?_
  by_cases hz : ds.length ≤ sizeLine
  · rw [if_pos hz] at q1
    refine ⟨by rw [r.length]; exact hz, fun p np => ?_⟩
    have st := Stp.laid (o := .lst vs) s1 np
    exact q1 _ _ st _ (.lst upd_same (r.same st.ff))
  · rw [if_neg hz] at q1; exact q1.elim
theorem pd_dnew : PD X g xc W (.Dict [] [] pos) (sC (.dct [])) := by
  refine PE.imp pe_dnewK fun σ H Q ⟨F, k, env, s, ok, q⟩ => ?_
  intro d hd
  have st := Stp.laid (o := .dK []) s hd
  exact q _ _ st _ (.dct upd_same .nil)

/-! ### subscripts -/
def IxD (X : Cx) (g : G) (op : D → D → Option D) : Prop :=
  ∃ r : R2, IxR X r ∧ ∀ H F k x y a b d Q, Sta g H F k → Rep g F x a → Rep g F y b → op a b = some d → (∀ w H' F', Stp g H F k H' F' k → Rep g F' w d → Q w H') → r x y H Q
def ixD : D → D → Option D
  | .lst ds, .int i => atI ds i
  | .tup ds, .int i => atI ds i
  | .str x, .int i => (atI x.cps.toList i).map fun c => .str ⟨#[c]⟩
  | _, _ => none
theorem RepAll.atI {F : Hp} {vs : List V} {ds : List D} {i : Int} {d : D} (r : RepAll g F vs ds) (e : L2.atI ds i = some d) : ∃ v, L2.atI vs i = some v ∧ Rep g F v d := by
  unfold L2.atI at *
  rw [r.length]
  cases hq : ixN ds.length i with
  | none => rw [hq] at e; cases e
  | some j =>
    rw [hq] at e
    exact r.get e
theorem sign_ok {x : Str} {c : Nat} (h : SOk x) (hc : c ∈ x.cps.toList) : SOk ⟨#[c]⟩ := by
  refine ⟨by show 1 ≤ sizeLine; decide, ?_⟩
  have h2 := h.2
  unfold PyData.strOk at *
  rw [Array.all_eq_true'] at h2 ⊢
  intro d hd
  have e : d = c := by simpa using hd
  subst e
  exact h2 d (by simpa using hc)
theorem atI_mem {α : Type} {xs : List α} {i : Int} {x : α} (h : L2.atI xs i = some x) : x ∈ xs := by
  obtain ⟨j, _, h2, _⟩ := atI_get h
  exact List.mem_of_getElem? h2
theorem ixd (hK : X.K = g.K) : IxD X g ixD := by
  refine ⟨_, IxR.or ix_list (IxR.or ix_tup ix_str), fun H F k x y a b d Q s ra rb e q => ?_⟩
  unfold ixD at e
  split at e
  · obtain ⟨p, vs, rfl, h1, r1⟩ := repLst ra
    obtain ⟨v, e1, rv⟩ := r1.atI e
    rw [repInt rb, hK]
    exact .inl ⟨p, vs, _, v, rfl, rfl, SqL.of (s.sub _ _ h1), e1, q _ _ _ (.refl s) rv⟩
  · obtain ⟨p, vs, rfl, h1, r1⟩ := repTup ra
    obtain ⟨v, e1, rv⟩ := r1.atI e
    rw [repInt rb, hK]
    exact .inr (.inl ⟨p, vs, _, v, rfl, rfl, s.sub.seqT h1, e1, q _ _ _ (.refl s) rv⟩)
  · obtain ⟨rfl, hx⟩ := repStr ra
    rw [repInt rb]
    obtain ⟨c, e1, rfl⟩ := Option.map_eq_some_iff.mp e
    exact .inr (.inr ⟨_, _, c, rfl, rfl, hx.1, e1, q _ _ _ (.refl s) (.str (sign_ok hx (atI_mem e1)))⟩)
  · cases e
def sIx (f h : Sm D) : Sm D := sOp ixD f h
theorem pd_ix (hK : X.K = g.K) (ha : PD X g xc W a f) (hb : PD X g xc W b h) (hs : PlainIx b := by exact fun _ _ => rfl) : PD X g xc W (.Subscript a b pos) (sIx f h) := by
  obtain ⟨r, h1, h2⟩ := ixd hK
  refine PE.imp (pe_ix h1 ha hb hs) fun σ H Q ⟨F, k, env, s, ok, q⟩ => ?_
  refine tD_then' s ok q fun x da H1 F1 k1 s1 ok1 ff1 rx q1 => ?_
  refine tD_then' s1 ok1 q1 fun y db H2 F2 k2 s2 ok2 ff2 ry q2 => ?_
  exact op_ask h2 s2 (rx.same ff2) ry q2
/-! slices -/
def PDO (X : Cx) (g : G) (xc : XC) (W : WX) (e : Option Expr) (f : Sm (Option Int)) : Prop :=
  PO X e fun σ H Q => ∃ F k env, Sta g H F k ∧ EnvOk g xc k σ H F env ∧ Ask g W σ H F k (f env k) fun i H' F' k' => Q i H'
def oNone : Sm (Option Int) := fun _ k => .ok none k
def oSome (f : Sm D) : Sm (Option Int) := fun env k => (f env k).bind fun d k1 => match d with
  | .int i => .ok (some i) k1
  | _ => .bad
theorem PO.imp {X : Cx} {e : Option Expr} {t t' : TO} (h : PO X e t) (f : ∀ σ H Q, t' σ H Q → t σ H Q) : PO X e t' := ⟨fun pins s σ H Q I q => h.run pins s σ H Q I (f σ H Q q)⟩
theorem pdo_none : PDO X g xc W none oNone := PO.imp po_none fun σ H Q ⟨F, k, env, s, ok, q⟩ => q H F (.refl s)
theorem pdo_some (ha : PD X g xc W a f) : PDO X g xc W (some a) (oSome f) := by
  refine PO.imp (po_some ha) fun σ H Q ⟨F, k, env, s, ok, q⟩ => ?_
  refine tD_then' s ok q fun v d H1 F1 k1 s1 ok1 ff1 r q1 => ?_
  cases d with
  | int i => rw [repInt r]; exact ⟨i, rfl, q1 _ _ (.refl s1)⟩
  | _ => exact q1.elim
def cutL {α : Type} (xs : List α) (lo hi : Option Int) : List α := (xs.drop (HT.sIx xs.length 0 lo)).take (HT.sIx xs.length xs.length hi - HT.sIx xs.length 0 lo)
def slD : D → Option Int → Option Int → Option D
  | .lst ds, lo, hi => some (.lst (cutL ds lo hi))
  | .tup ds, lo, hi => some (.tup (cutL ds lo hi))
  | .str x, lo, hi => some (.str (cutS x lo hi))
  | _, _, _ => none
theorem RepAll.cut {F : Hp} {vs : List V} {ds : List D} (r : RepAll g F vs ds) (lo hi : Option Int) : RepAll g F (cutV vs lo hi) (cutL ds lo hi) := by
  unfold cutV cutL
  rw [r.length]
  exact (r.drop _).take _
theorem strOk_sub {x y : Str} (h : PyData.strOk x = true) (hs : ∀ c ∈ y.cps.toList, c ∈ x.cps.toList) : PyData.strOk y = true := by
  unfold PyData.strOk at *
  rw [Array.all_eq_true'] at h ⊢
  exact fun c hc => h c (by simpa using hs c (by simpa using hc))
theorem len_list (x : Str) : x.length = x.cps.toList.length := by
  show x.cps.size = _
  simp
theorem cut_ok {x : Str} (h : SOk x) (lo hi : Option Int) : SOk (cutS x lo hi) := by
  refine ⟨?_, strOk_sub h.2 fun c hc => ?_⟩
  · have e : (cutS x lo hi).length = ((x.cps.toList.drop (HT.sIx x.length 0 lo)).take (HT.sIx x.length x.length hi - HT.sIx x.length 0 lo)).length := by
      rw [len_list]; rfl
    rw [e, List.length_take, List.length_drop, ← len_list]
    have := h.1
    omega
  · have hc' : c ∈ (x.cps.toList.drop (HT.sIx x.length 0 lo)).take (HT.sIx x.length x.length hi - HT.sIx x.length 0 lo) := hc
    exact List.mem_of_mem_drop (List.mem_of_mem_take hc')
theorem cut_whole {α : Type} {xs : List α} {lo hi : Option Int} (h : HT.sIx xs.length 0 lo = 0 ∧ HT.sIx xs.length xs.length hi = xs.length) : cutL xs lo hi = xs := by
  unfold cutL
  rw [h.1, h.2]
  simp
def sSl (f : Sm D) (lo hi : Sm (Option Int)) : Sm D := fun env k => (f env k).bind fun d k1 => (lo env k1).bind fun l k2 => (hi env k2).bind fun u k3 => .of (slD d l u) k3
theorem pd_slice {lo hi : Option Expr} {fl fh : Sm (Option Int)} {p2 : Pos} (hK : X.K = g.K) (ha : PD X g xc W a f) (hl : PDO X g xc W lo fl) (hh : PDO X g xc W hi fh) : PD X g xc W (.Subscript a (.Slice lo hi none p2) pos) (sSl f fl fh) := by
  refine PE.imp (pe_slice (SlR.or sl_list (SlR.or (by have := @sl_tupA X; exact this) sl_str)) ha hl hh) fun σ H Q ⟨F, k, env, s, ok, q⟩ => ?_
  refine tD_then' s ok q fun x d H1 F1 k1 s1 ok1 ff1 rx q1 => ?_
  refine ⟨F1, k1, env, s1, ok1, (Ask.bind q1).imp fun l H2 F2 k2 _ s2 q2 => ?_⟩
  refine ⟨F2, k2, env, s2.st, ok1.step s2, (Ask.bind q2).imp fun u H3 F3 k3 _ s3 q3 => ?_⟩
  have r3 := (rx.same s2.ff).same s3.ff
  have S := s3.st
  cases d with
  | lst ds =>
    obtain ⟨p, vs, rfl, h1, r1⟩ := repLst r3
    refine .inl ⟨p, vs, rfl, by rw [hK]; exact SqL.of (S.sub _ _ h1), fun z nz => ?_⟩
    have st := Stp.laid (o := .lst (cutV vs l u)) S nz
    exact q3 _ _ st _ (.lst upd_same ((r1.cut l u).same st.ff))
  | tup ds =>
    obtain ⟨p, vs, rfl, h1, r1⟩ := repTup r3
    refine .inr (.inl ⟨p, vs, rfl, by rw [hK]; exact S.sub.seqT h1, fun hw => ?_, fun _ z nz => ?_⟩)
    · rw [r1.length] at hw
      refine q3 _ _ (.refl S) _ ?_
      rw [cut_whole hw]
      exact .tup h1 r1
    · have st := Stp.laid (o := .tup (cutV vs l u)) S nz
      exact q3 _ _ st _ (.tup (SqT.of upd_same) ((r1.cut l u).same st.ff))
  | str z =>
    obtain ⟨rfl, hx⟩ := repStr r3
    exact .inr (.inr ⟨z, rfl, hx.1, q3 _ _ (.refl S) _ (.str (cut_ok hx l u))⟩)
  | _ => exact q3.elim
end
end DL
set_option Elab.async false
set_option linter.all false
set_option maxRecDepth 100000
set_option maxHeartbeats 4000000
/-! fields, built-in calls, methods of texts -/
namespace DL
open PySem PySem.Spec L2
open PySem.W (Frag)
/-- what the written part says of an own class -/
structure OwnC (K : Frag) (C : Addr) : Prop where
  cl : Cls K C
  c1 : PySem.W.findIn K (.ref C) "__class__" = some (some (.builtin "object.__class__"))
  c2 : PySem.W.specialIn K (.builtin "object.__class__") "__get__" = some (some (.builtin "getset_descriptor.__get__"))
  c3 : PySem.W.takesIn K (.builtin "object.__class__") = some true
  c4 : PySem.W.mroIn K C (.type "object") = some true
  ty : PySem.W.typeIn K (.ref C) = some (.type "type")
  self : PySem.W.mroIn K C (.ref C) = some true
  nb : ∀ T : String, T ∈ ["bool", "int", "str", "tuple", "list", "dict"] → PySem.W.mroIn K C (.type T) = some false
theorem OwnC.isCls {K : Frag} {C : Addr} (o : OwnC K C) : (PySem.W.clsIn K C).isSome = true := by
  have h := o.cl.hd
  unfold PySem.W.hasDictIn at h
  obtain ⟨cd, hc, _⟩ := PySem.W.any_some h
  rw [hc]; rfl
/-- of every own class in use -/
def OwnAll (g : G) : Prop := ∀ c, c ∈ g.own → OwnC g.K (g.cl c)
def bltTy : List String := ["bool", "int", "str", "tuple", "list", "dict"]
/-- the name of the type -/
def tyN : D → String
  | .non => "NoneType"
  | .bl _ => "bool"
  | .int _ => "int"
  | .str _ => "str"
  | .lst _ => "list"
  | .tup _ => "tuple"
  | .dct _ => "dict"
  | .dk => "dict"
  | .obj c _ => c
  | .cls c => c
  | .shw _ => "str"
def D.isObj : D → Bool
  | .obj _ _ => true
  | _ => false
def D.isCls : D → Bool
  | .cls _ => true
  | .shw _ => true
  | _ => false
def isTyN (T n : String) : Bool := T == n || (T == "int" && n == "bool")
def isTy (T : String) : D → Bool
  | .obj _ _ => false
  | .cls _ => false
  | d => isTyN T (tyN d)
theorem kit_all : ∀ n ∈ ["NoneType", "bool", "int", "str", "list", "tuple", "dict"], ∀ T ∈ bltTy, kitB n T = some (isTyN T n) := by decide +kernel
def isTyV : Value → Bool
  | .type _ => true
  | _ => false
theorem mro_all : ∀ n ∈ ["NoneType", "bool", "int", "str", "list", "tuple", "dict"], (PySem.fastBuiltinMro n).map (·.all isTyV) = some true := by decide +kernel
theorem mro_ty (n : String) (hn : n ∈ ["NoneType", "bool", "int", "str", "list", "tuple", "dict"]) (C : Addr) : (PySem.fastBuiltinMro n).map (·.contains (Value.ref C)) = some false := by
  have h := mro_all n hn
  cases q : PySem.fastBuiltinMro n with
  | none => rw [q] at h; cases h
  | some l =>
    rw [q] at h
    have h' : l.all isTyV = true := Option.some.inj h
    show some (l.contains (Value.ref C)) = some false
    congr 1
    rw [Bool.eq_false_iff]
    intro z
    have hm : Value.ref C ∈ l := by simpa using z
    have := List.all_eq_true.mp h' _ hm
    cases this
section
variable {X : Cx} {g : G} {xc : XC} {W : WX} {a b c e o : Expr} {es rest : List Expr} {f h q : Sm D} {p p' : Sm Bool} {l : Sm (List D)} {pos : Pos}

/-! ### types -/
theorem ty_of (hO : OwnAll g) {H F : Hp} {v : V} {d : D} {k : DkO} (s : Sta g H F k) (hk : d = .dk → k ≠ none) (hl : d.isCls = false) (r : Rep g F v d) : ∃ t, TyX g.K H v t ∧ t = (if d.isObj = true then .ref (g.cl (tyN d)) else .type (tyN d)) := by
  cases r with
  | non => exact ⟨_, .base .non, rfl⟩
  | bl b => exact ⟨_, .base (.bl b), rfl⟩
  | int i => exact ⟨_, .base (.int i), rfl⟩
  | str h => exact ⟨_, .base (.str _), rfl⟩
  | lst h r => exact ⟨_, .base (.lst (s.sub _ _ h)), rfl⟩
  | tup h r =>
    refine ⟨.type "tuple", ?_, rfl⟩
    rcases s.sub.seqT h with (h | ⟨o, h⟩) | h
    · exact .base (.tup h)
    · exact .fTuple h
    · obtain ⟨o, us, n, h1, h2, h3⟩ := h
      exact .kTuple h1 h2
  | dct h r => exact ⟨_, .base (.dK (s.sub _ _ h)), rfl⟩
  | obj hc h r => exact ⟨_, .base (.ins (s.sub _ _ h) (hO _ hc).cl (hO _ hc).c1 (hO _ hc).c2 (hO _ hc).c3 (hO _ hc).c4), rfl⟩
  | dk =>
    cases k with
    | none => exact absurd rfl (hk rfl)
    | some k => exact ⟨_, .base (.dK s.dk.1), rfl⟩
  | cls _ => cases hl
  | shw _ => cases hl
theorem kit_blt (hO : OwnAll g) {d : D} {F : Hp} {v : V} (hl : d.isCls = false) (r : Rep g F v d) {T : String} (hT : T ∈ bltTy) : PySem.W.kitOne g.K (if d.isObj = true then .ref (g.cl (tyN d)) else .type (tyN d)) (.type T) = some (isTy T d) := by
  have hT' : T = "bool" ∨ T = "int" ∨ T = "str" ∨ T = "tuple" ∨ T = "list" ∨ T = "dict" := by simpa [bltTy] using hT
  cases r with
  | obj hc h r =>
    rename_i a dx c fs ds
    show PySem.W.kitOne g.K (.ref (g.cl c)) (.type T) = some false
    unfold PySem.W.kitOne
    rw [if_neg (show ¬ ((Value.ref (g.cl c) == Value.type T) = true) from fun z => by cases z)]
    show (if PySem.W.kitMeta T = true then PySem.W.subIn g.K (.ref (g.cl c)) (.type T) else none) = some false
    have hm : PySem.W.kitMeta T = true := by
      rcases hT' with rfl | rfl | rfl | rfl | rfl | rfl <;> decide +kernel
    rw [if_pos hm]
    exact (hO _ hc).nb T hT
  | cls _ => cases hl
  | shw _ => cases hl
  | _ => exact kit_ty (kit_all _ (by simp [tyN]) T hT)
def sIsi (T : String) (f : Sm D) : Sm D := fun env k => (f env k).bind fun d k1 => match d with
  | .dk => .bad
  | .cls _ => .bad
  | .shw _ => .bad
  | d => .ok (.bl (isTy T d)) k1
/-- isinstance(e, T), T a built-in type -/
theorem pd_isi {T : String} {x : Str} {p2 p3 : Pos} (hK : X.K = g.K) (hO : OwnAll g) (hT : T ∈ bltTy) (hT2 : PE X (.Name x p3) (tC (.ty T))) (hg : Gl X "isinstance") (hm : X.mg "isinstance" = none) (ha : PD X g xc W e f)
    (he1 : starEach [e, .Name x p3] X.env = (false, eval e X.env) :: starEach [.Name x p3] X.env := by rfl)
    (hpl : (backTo pos (starEach [.Name x p3] X.env)).any (·.1) = false := by rfl) : PD X g xc W (.Call (.Name "isinstance" p2) [e, .Name x p3] [] pos) (sIsi T f) := by
  refine PE.imp (pe_callB call_isi hg hm (by decide +kernel) (pa_cons ha (pa_cons hT2 pa_nil) he1) (by decide) (by decide) he1 hpl) fun σ H Q ⟨F, k, env, s, ok, q⟩ => ?_
  refine tD_then' s ok q fun v d H1 F1 k1 s1 ok1 ff1 r q1 => ?_
  have hd : d ≠ .dk := fun z => by subst z; exact q1.elim
  have hl : d.isCls = false := by
    cases d <;> first | rfl | exact q1.elim
  have q2 : Ask g W σ H1 F1 k1 (.ok (.bl (isTy T d)) k1) fun d H' F' k' => ∀ v, Rep g F' v d → Q v H' := by
    cases d <;> first | exact q1 | exact absurd rfl hd | cases hl
  obtain ⟨t, ht, et⟩ := ty_of hO s1 (fun z => absurd z hd) hl r
  refine ⟨v, .ty T, t, .type T, isTy T d, rfl, .ty _, by rw [hK]; exact ht, by rw [hK, et]; exact kit_blt hO hl r hT, q2 _ _ (.refl s1) _ (.bl _)⟩
def isCl (c : String) : D → Bool
  | .obj c' _ => c' == c
  | _ => false
theorem kit_own (hO : OwnAll g) {d : D} {F : Hp} {v : V} (hl : d.isCls = false) (r : Rep g F v d) {c : String} (hc : c ∈ g.own) (hi : ∀ c', c' ∈ g.own → c' ≠ c → PySem.W.mroIn g.K (g.cl c') (.ref (g.cl c)) = some false) :
    PySem.W.kitOne g.K (if d.isObj = true then .ref (g.cl (tyN d)) else .type (tyN d)) (.ref (g.cl c)) = some (isCl c d) := by
  have hcl : ∀ t : Value, (t == Value.ref (g.cl c)) = false → PySem.W.kitOne g.K t (.ref (g.cl c)) = PySem.W.subIn g.K t (.ref (g.cl c)) := fun t ht => by
    unfold PySem.W.kitOne
    rw [if_neg (by rw [ht]; exact Bool.false_ne_true)]
    show (if ((PySem.W.clsIn g.K (g.cl c)).isSome && PySem.W.typeIn g.K (.ref (g.cl c)) == some (.type "type")) = true then _ else none) = _
    rw [(hO c hc).isCls, (hO c hc).ty, if_pos (by simp)]
  have tyq : ∀ n, n ∈ ["NoneType", "bool", "int", "str", "list", "tuple", "dict"] → PySem.W.kitOne g.K (.type n) (.ref (g.cl c)) = some false := fun n hn => (hcl _ rfl).trans (mro_ty n hn _)
  cases r with
  | obj hc' h r =>
    rename_i a dx c' fs ds
    show PySem.W.kitOne g.K (.ref (g.cl c')) (.ref (g.cl c)) = some (c' == c)
    by_cases e : c' = c
    · subst e
      unfold PySem.W.kitOne
      rw [if_pos (by simp)]
      simp
    · have e2 : (c' == c) = false := by simpa using e
      rw [e2]
      by_cases e3 : g.cl c' = g.cl c
      · have z := hi c' hc' e
        rw [e3] at z
        have z2 : PySem.W.mroIn g.K (g.cl c) (.ref (g.cl c)) = some true := by
          exact (hO c hc).self
        rw [z] at z2; cases z2
      · rw [hcl _ (by simpa using e3)]
        exact hi c' hc' e
  | non => exact tyq "NoneType" (by decide)
  | bl _ => exact tyq "bool" (by decide)
  | int _ => exact tyq "int" (by decide)
  | str _ => exact tyq "str" (by decide)
  | lst _ _ => exact tyq "list" (by decide)
  | tup _ _ => exact tyq "tuple" (by decide)
  | dct _ _ => exact tyq "dict" (by decide)
  | dk => exact tyq "dict" (by decide)
  | cls _ => cases hl
  | shw _ => cases hl
end
end DL
set_option Elab.async false
set_option linter.all false
set_option maxRecDepth 100000
set_option maxHeartbeats 4000000
/-! calls: built-ins, methods of texts, own functions, own classes -/
namespace DL
open PySem PySem.Spec L2
open PySem.W (Frag)
/-- a function by trees -/
abbrev Fn := List D → DkO → Out D
/-- what is asked of a function's outcome -/
def AskF {α : Type} (g : G) (E : XK) (H F : Hp) (k : DkO) (o : Out α) (Q : α → Hp → Hp → DkO → Prop) : Prop := Ask g (fun c d _ H => E c d H) [] H F k o Q
theorem AskF.of {α : Type} {g : G} {W : WX} {σ : L2.St} {H F : Hp} {k : DkO} {o : Out α} {Q : α → Hp → Hp → DkO → Prop} (h : Ask g W σ H F k o Q) : AskF g (WE W σ) H F k o Q := by
  cases o <;> exact h
theorem AskF.to {α : Type} {g : G} {E : XK} {σ : L2.St} {H F : Hp} {k : DkO} {o : Out α} {Q : α → Hp → Hp → DkO → Prop} (h : AskF g E H F k o Q) : Ask g (fun c d _ H => E c d H) σ H F k o Q := by
  cases o <;> exact h
/-- a def's promise by trees -/
def SpD (g : G) (n : Nat) (f : Fn) : Sp := fun vs H Q E => vs.length = n ∧ ∃ F k ds, Sta g H F k ∧ RepAll g F vs ds ∧ AskF g E H F k (f ds k) fun d H' F' k' => ∀ v, Rep g F' v d → Q v H'
/-- values in another order: m by position, j by name -/
def ord {α : Type} (m j : Nat) (ix : List Nat) (us ws : List α) : List α := if us.length = m ∧ ws.length = j then ix.filterMap fun i => (us ++ ws)[i]? else []
theorem vals_pick {xs : List V} {us : List Value} (r : Vals xs us) : ∀ ix : List Nat, Vals (ix.filterMap fun i => xs[i]?) (ix.filterMap fun i => us[i]?)
  | [] => .nil
  | i :: ix => by
    have ih := vals_pick r ix
    cases hx : xs[i]? with
    | none =>
      rw [List.filterMap_cons_none hx, List.filterMap_cons_none (r.none_of hx)]; exact ih
    | some x =>
      obtain ⟨u, hu, ru⟩ := r.get hx
      rw [List.filterMap_cons_some hx, List.filterMap_cons_some hu]; exact .cons ru ih
theorem rep_pick {g : G} {F : Hp} {xs : List V} {ds : List D} (r : RepAll g F xs ds) : ∀ ix : List Nat, RepAll g F (ix.filterMap fun i => xs[i]?) (ix.filterMap fun i => ds[i]?)
  | [] => .nil
  | i :: ix => by
    have ih := rep_pick r ix
    cases hx : xs[i]? with
    | none =>
      have hd : ds[i]? = none := by
        have h1 := List.getElem?_eq_none_iff.mp hx
        exact List.getElem?_eq_none_iff.mpr (by rw [← r.length]; exact h1)
      rw [List.filterMap_cons_none hx, List.filterMap_cons_none hd]; exact ih
    | some x =>
      obtain ⟨d, hd, rd⟩ := r.get' hx
      rw [List.filterMap_cons_some hx, List.filterMap_cons_some hd]; exact .cons rd ih
theorem vals_ord {m j : Nat} {ix : List Nat} {vs zs : List V} {us ws : List Value} (r : Vals vs us) (rz : Vals zs ws) : Vals (ord m j ix vs zs) (ord m j ix us ws) := by
  unfold ord
  rw [r.length, rz.length]
  split
  · exact vals_pick (r.append rz) ix
  · exact .nil
theorem rep_ord {g : G} {F : Hp} {m j : Nat} {ix : List Nat} {vs zs : List V} {us ws : List D} (r : RepAll g F vs us) (rz : RepAll g F zs ws) : RepAll g F (ord m j ix vs zs) (ord m j ix us ws) := by
  unfold ord
  rw [r.length, rz.length]
  split
  · exact rep_pick (r.app rz) ix
  · exact .nil
/-- how m values by position and those of the names ks are bound -/
theorem kb_ord {K : Frag} {fd : FuncData} {ps ks : List Str} {m j : Nat} {ix : List Nat} (hps : ps ≠ []) (h : ∀ (s : Shared) (us ws : List Value), K.In s.heap → us.length = m → ws.length = j → BindsTo s fd ⟨us, ks.zip ws⟩ (ps.zip (ix.filterMap fun i => (us ++ ws)[i]?))) :
    KBinds K fd ps ks (ord m j ix) (ord m j ix) := by
  refine ⟨fun s us ws hk hl => ?_, fun r rz => vals_ord r rz⟩
  unfold ord at *
  split
  · rename_i hc
    exact h s us ws hk hc.1 hc.2
  · rename_i hc
    rw [if_neg hc] at hl
    exact absurd (List.length_eq_zero_iff.mp hl.symm) hps

section
variable {X : Cx} {g : G} {xc : XC} {W : WX} {a b c e o : Expr} {es rest : List Expr} {f h q fo : Sm D} {p p' : Sm Bool} {l lk : Sm (List D)} {pos : Pos}

/-! ### built-ins by values -/
def CallO (X : Cx) (g : G) (f : Value) (op : List D → DkO → Out D) : Prop :=
  ∃ r : List V → Hp → VK → Prop, CallR X f r ∧ ∀ (W : WX) (σ : L2.St) H F k xs ds Q, Sta g H F k → RepAll g F xs ds → Ask g W σ H F k (op ds k) (fun d H' F' k' => ∀ v, Rep g F' v d → Q v H') → r xs H Q
/-- one that leaves the deck as it is -/
def pureO (op : List D → Option D) : List D → DkO → Out D := fun ds k => .of (op ds) k
theorem CallO.pure {f : Value} {op : List D → Option D} {r : List V → Hp → VK → Prop} (hr : CallR X f r) (h : ∀ H F k xs ds d Q, Sta g H F k → RepAll g F xs ds → op ds = some d → (∀ w H' F', Stp g H F k H' F' k → Rep g F' w d → Q w H') → r xs H Q) : CallO X g f (pureO op) :=
  ⟨r, hr, fun W σ H F k xs ds Q s rs q => by
    unfold pureO at q
    cases e : op ds with
    | none => rw [e] at q; exact q.elim
    | some d => rw [e] at q; exact h H F k xs ds d Q s rs e fun w H' F' s' rw' => q H' F' s' w rw'⟩
def orO {α : Type} (o o' : α → DkO → Out D) : α → DkO → Out D := fun ds k => match o ds k with
  | .bad => o' ds k
  | r => r
theorem CallO.or {f : Value} {op op' : List D → DkO → Out D} (h : CallO X g f op) (h' : CallO X g f op') : CallO X g f (orO op op') := by
  obtain ⟨r, h1, h2⟩ := h
  obtain ⟨r', h1', h2'⟩ := h'
  refine ⟨fun xs H Q => r xs H Q ∨ r' xs H Q, fun pins s σ H xs us Q I rx q => q.elim (h1 pins s σ H xs us Q I rx) (h1' pins s σ H xs us Q I rx), fun W σ H F k xs ds Q s rs q => ?_⟩
  unfold orO at q
  cases e : op ds k with
  | bad => rw [e] at q; exact .inr (h2' W σ H F k xs ds Q s rs q)
  | ok d k' => rw [e] at q; exact .inl (h2 W σ H F k xs ds Q s rs (by rw [e]; exact q))
  | err c fs k' => rw [e] at q; exact .inl (h2 W σ H F k xs ds Q s rs (by rw [e]; exact q))
def sApp (op : List D → DkO → Out D) (l : Sm (List D)) : Sm D := fun env k => (l env k).bind op
theorem pd_callB {x : Str} {id : String} {p2 : Pos} {op : List D → DkO → Out D} (hc : CallO X g (.builtin id) op) (hg : Gl X x) (hm : X.mg x = none) (hv : bootBuiltins x = some (.builtin id)) (ha : PDA X g xc W (e :: es) l) (hn : x ≠ "__name__" := by decide) (hdb : (x == ("__debug__" : Str)) = false := by decide)
    (he : starEach (e :: es) X.env = (false, eval e X.env) :: starEach es X.env := by rfl) (hpl : (backTo pos (starEach es X.env)).any (·.1) = false := by rfl) : PD X g xc W (.Call (.Name x p2) (e :: es) [] pos) (sApp op l) := by
  obtain ⟨r, h1, h2⟩ := hc
  refine PE.imp (pe_callB h1 hg hm hv ha hn hdb he hpl) fun σ H Q ⟨F, k, env, s, ok, q⟩ => ?_
  exact tDA_then s ok q fun vs ds H1 F1 k1 s1 ok1 ff1 r q1 => h2 W σ H1 F1 k1 vs ds Q s1 r q1
theorem pd_callTy {x : Str} {T : String} {p2 : Pos} {op : List D → DkO → Out D} (hc : CallO X g (.type T) op) (hg : Gl X x) (hm : X.mg x = none) (hv : bootBuiltins x = some (.type T)) (ha : PDA X g xc W (e :: es) l) (hn : x ≠ "__name__" := by decide) (hdb : (x == ("__debug__" : Str)) = false := by decide)
    (he : starEach (e :: es) X.env = (false, eval e X.env) :: starEach es X.env := by rfl) (hpl : (backTo pos (starEach es X.env)).any (·.1) = false := by rfl) : PD X g xc W (.Call (.Name x p2) (e :: es) [] pos) (sApp op l) := by
  obtain ⟨r, h1, h2⟩ := hc
  refine PE.imp (pe_callTy h1 hg hm hv ha hn hdb he hpl) fun σ H Q ⟨F, k, env, s, ok, q⟩ => ?_
  exact tDA_then s ok q fun vs ds H1 F1 k1 s1 ok1 ff1 r q1 => h2 W σ H1 F1 k1 vs ds Q s1 r q1
theorem rep1 {F : Hp} {xs : List V} {d : D} (r : RepAll g F xs [d]) : ∃ v, xs = [v] ∧ Rep g F v d := by
  cases r with
  | cons r1 r2 => cases r2; exact ⟨_, rfl, r1⟩
theorem rep2 {F : Hp} {xs : List V} {d e : D} (r : RepAll g F xs [d, e]) : ∃ v w, xs = [v, w] ∧ Rep g F v d ∧ Rep g F w e := by
  cases r with
  | cons r1 r2 =>
    cases r2 with
    | cons r3 r4 => cases r4; exact ⟨_, _, rfl, r1, r3⟩
def lenD : List D → Option D
  | [.str x] => some (.int x.length)
  | [.lst ds] => some (.int ds.length)
  | [.tup ds] => some (.int ds.length)
  | _ => none
theorem callo_len (hK : X.K = g.K) : CallO X g (.builtin "len") (pureO lenD) := CallO.pure call_len fun H F k xs ds d Q s rs e q => by
  unfold lenD at e
  split at e
  · cases e
    obtain ⟨v, rfl, r⟩ := rep1 rs
    obtain ⟨rfl, hx⟩ := repStr r
    exact ⟨_, _, rfl, ⟨hx.1, rfl⟩, q _ H F (.refl s) (.int _)⟩
  · cases e
    obtain ⟨v, rfl, r⟩ := rep1 rs
    obtain ⟨a, vs, rfl, h1, r1⟩ := repLst r
    refine ⟨_, vs.length, rfl, .inl ⟨vs, by rw [hK]; exact SqL.of (s.sub _ _ h1), rfl⟩, ?_⟩
    rw [r1.length]
    exact q _ H F (.refl s) (.int _)
  · cases e
    obtain ⟨v, rfl, r⟩ := rep1 rs
    obtain ⟨a, vs, rfl, h1, r1⟩ := repTup r
    refine ⟨_, vs.length, rfl, .inr ⟨vs, by rw [hK]; exact s.sub.seqT h1, rfl⟩, ?_⟩
    rw [r1.length]
    exact q _ H F (.refl s) (.int _)
  · cases e
def tupleD : List D → Option D
  | [.lst ds] => some (.tup ds)
  | [.tup ds] => some (.tup ds)
  | _ => none
theorem callo_tuple (hK : X.K = g.K) : CallO X g (.type "tuple") (pureO tupleD) := CallO.pure call_tuple_of fun H F k xs ds d Q s rs e q => by
  unfold tupleD at e
  split at e
  · cases e
    obtain ⟨v, rfl, r⟩ := rep1 rs
    obtain ⟨a, vs, rfl, h1, r1⟩ := repLst r
    refine ⟨a, vs, rfl, .inl ⟨by rw [hK]; exact SqL.of (s.sub _ _ h1), fun p np => ?_⟩⟩
    have st := Stp.laid (o := .tup vs) s np
    exact q _ _ _ st (.tup (SqT.of upd_same) (r1.same st.ff))
  · cases e
    obtain ⟨v, rfl, r⟩ := rep1 rs
    obtain ⟨a, vs, rfl, h1, r1⟩ := repTup r
    exact ⟨a, vs, rfl, .inr ⟨by rw [hK]; exact s.sub.seqT h1, q _ H F (.refl s) (.tup h1 r1)⟩⟩
  · cases e
/-- str of a number, of a text -/
def strD : List D → Option D
  | [.int i] => if i.natAbs.log2 < 1920 then some (.str (toString i : String)) else none
  | [.str x] => some (.str x)
  | _ => none
theorem strInt_ok {i : Int} (h : i.natAbs.log2 < 1920) : SOk ((toString i : String) : Str) := by
  refine ⟨Nat.le_trans (PyProof.Rows.int_text_len_1921 h) (by decide), ?_⟩
  unfold PyData.strOk
  rw [Array.all_eq_true']
  intro c hc
  by_cases z : c < 1114112
  · exact decide_eq_true z
  · exact absurd (by simpa using hc) (PyProof.Rows.int_text_free' c ⟨by omega, by omega⟩ i)
theorem callo_str : CallO X g (.type "str") (pureO strD) := by
  refine CallO.pure (r := fun xs H Q => (∃ i, xs = [.int i] ∧ i.natAbs.log2 < 1920 ∧ Q (.str (toString i : String)) H) ∨ ∃ a, xs = [.str a] ∧ Q (.str a) H) (fun pins s σ H xs us Q I rx q => q.elim (call_str_int pins s σ H xs us Q I rx) (SkE.call_str_str pins s σ H xs us Q I rx)) fun H F k xs ds d Q s rs e q => ?_
  unfold strD at e
  split at e
  · split at e
    · cases e
      obtain ⟨v, rfl, r⟩ := rep1 rs
      rw [repInt r]
      exact .inl ⟨_, rfl, by assumption, q _ H F (.refl s) (.str (strInt_ok (by assumption)))⟩
    · cases e
  · cases e
    obtain ⟨v, rfl, r⟩ := rep1 rs
    obtain ⟨rfl, hx⟩ := repStr r
    exact .inr ⟨_, rfl, q _ H F (.refl s) (.str hx)⟩
  · cases e
/-- int of a number, a bool, a text -/
def intD : List D → Option D
  | [.int i] => some (.int i)
  | [.bl b] => some (.int (if b then 1 else 0))
  | [.str x] => if x.length ≤ 640 then (PySem.intText? x).map .int else none
  | _ => none
theorem callo_int : CallO X g (.type "int") (pureO intD) := by
  refine CallO.pure (r := fun xs H Q => ((∃ i, xs = [.int i] ∧ Q (.int i) H) ∨ ∃ k, xs = [.bl k] ∧ Q (.int (if k then 1 else 0)) H) ∨ ∃ a n, xs = [.str a] ∧ PySem.intText? a = some n ∧ a.length ≤ 640 ∧ Q (.int n) H) (fun pins s σ H xs us Q I rx q => q.elim (call_int1 pins s σ H xs us Q I rx) (call_int_str pins s σ H xs us Q I rx)) fun H F k xs ds d Q s rs e q => ?_
  unfold intD at e
  split at e
  · cases e
    obtain ⟨v, rfl, r⟩ := rep1 rs
    rw [repInt r]
    exact .inl (.inl ⟨_, rfl, q _ H F (.refl s) (.int _)⟩)
  · cases e
    obtain ⟨v, rfl, r⟩ := rep1 rs
    rw [repBl r]
    exact .inl (.inr ⟨_, rfl, q _ H F (.refl s) (.int _)⟩)
  · split at e
    · obtain ⟨n, e1, rfl⟩ := Option.map_eq_some_iff.mp e
      obtain ⟨v, rfl, r⟩ := rep1 rs
      rw [(repStr r).1]
      exact .inr ⟨_, n, rfl, e1, by assumption, q _ H F (.refl s) (.int _)⟩
    · cases e
  · cases e
/-- repr of data -/
def reprD : List D → Option D
  | [d] => match d.py with
    | some p => if p.showable && decide (p.depth ≤ 60) && decide (p.shown.length ≤ sizeLine) then some (.shw p) else none
    | none => none
  | _ => none
theorem callo_repr (hK : X.K = g.K) (hgd : X.A.guards = some []) (hu : X.A.units + 64 < cLine) : CallO X g (.builtin "repr") (pureO reprD) := CallO.pure (call_reprV hgd hu) fun H F k xs ds d Q s rs e q => by
  unfold reprD at e
  split at e
  · split at e
    · split at e
      · cases e
        rename_i d p hp hz
        simp only [Bool.and_eq_true, decide_eq_true_eq] at hz
        obtain ⟨v, rfl, r⟩ := rep1 rs
        exact ⟨v, p, rfl, by rw [hK]; exact (r.av hp).same s.sub, hz.1.1, hz.1.2, hz.2, q _ H F (.refl s) (.shw _)⟩
      · cases e
    · cases e
  · cases e
/-- bools in a list -/
def blsOf : List D → Option (List Bool)
  | [] => some []
  | .bl b :: ds => (blsOf ds).map (b :: ·)
  | _ => none
theorem rep_bls {F : Hp} : ∀ {vs : List V} {ds : List D} {bs : List Bool}, RepAll g F vs ds → blsOf ds = some bs → vs = bs.map V.bl
  | _, _, _, .nil, e => by cases e; rfl
  | _, _, _, .cons (d := d) (ds := ds) r rs, e => by
    cases d with
    | bl b =>
      obtain ⟨cs, e1, rfl⟩ := Option.map_eq_some_iff.mp (show (blsOf ds).map (b :: ·) = some _ from e)
      rw [repBl r, rep_bls rs e1]; rfl
    | _ => cases e
def boolsD (f : List Bool → Bool) : List D → Option D
  | [.lst ds] => (blsOf ds).map fun bs => .bl (f bs)
  | _ => none
theorem boolsD_some {f : List Bool → Bool} {ds : List D} {d : D} (e : boolsD f ds = some d) : ∃ es bs, ds = [.lst es] ∧ blsOf es = some bs ∧ d = .bl (f bs) := by
  unfold boolsD at e
  split at e
  · obtain ⟨bs, e1, rfl⟩ := Option.map_eq_some_iff.mp e
    exact ⟨_, bs, rfl, e1, rfl⟩
  · cases e
def allD : List D → Option D := boolsD fun bs => bs.all id
def anyD : List D → Option D := boolsD fun bs => bs.any id
theorem callo_all (hK : X.K = g.K) (hc : X.calm = true) : CallO X g (.builtin "all") (pureO allD) := CallO.pure (cr_all hc) fun H F k xs ds d Q s rs e q => by
  obtain ⟨es, bs, rfl, e1, rfl⟩ := boolsD_some e
  obtain ⟨v, rfl, r⟩ := rep1 rs
  obtain ⟨a, vs, rfl, h1, r1⟩ := repLst r
  rw [rep_bls r1 e1] at h1
  exact ⟨a, bs, rfl, by rw [hK]; exact SqL.of (s.sub _ _ h1), q _ H F (.refl s) (.bl _)⟩
theorem callo_any (hK : X.K = g.K) (hc : X.calm = true) : CallO X g (.builtin "any") (pureO anyD) := CallO.pure (cr_any hc) fun H F k xs ds d Q s rs e q => by
  obtain ⟨es, bs, rfl, e1, rfl⟩ := boolsD_some e
  obtain ⟨v, rfl, r⟩ := rep1 rs
  obtain ⟨a, vs, rfl, h1, r1⟩ := repLst r
  rw [rep_bls r1 e1] at h1
  exact ⟨a, bs, rfl, by rw [hK]; exact SqL.of (s.sub _ _ h1), q _ H F (.refl s) (.bl _)⟩
/-- numbers in a list -/
def intsOf : List D → Option (List Int)
  | [] => some []
  | .int i :: ds => (intsOf ds).map (i :: ·)
  | _ => none
theorem rep_ints {F : Hp} : ∀ {vs : List V} {ds : List D} {ns : List Int}, RepAll g F vs ds → intsOf ds = some ns → vs = ns.map V.int
  | _, _, _, .nil, e => by cases e; rfl
  | _, _, _, .cons (d := d) (ds := ds) r rs, e => by
    cases d with
    | int i =>
      obtain ⟨cs, e1, rfl⟩ := Option.map_eq_some_iff.mp (show (intsOf ds).map (i :: ·) = some _ from e)
      rw [repInt r, rep_ints rs e1]; rfl
    | _ => cases e
def sumD : List D → Option D
  | [.lst ds] => (intsOf ds).map fun ns => .int ns.sum
  | _ => none
theorem callo_sum (hK : X.K = g.K) (hc : X.calm = true) : CallO X g (.builtin "sum") (pureO sumD) := CallO.pure (cr_sum hc) fun H F k xs ds d Q s rs e q => by
  unfold sumD at e
  split at e
  · obtain ⟨ns, e1, rfl⟩ := Option.map_eq_some_iff.mp e
    obtain ⟨v, rfl, r⟩ := rep1 rs
    obtain ⟨a, vs, rfl, h1, r1⟩ := repLst r
    rw [rep_ints r1 e1] at h1
    exact ⟨a, ns, rfl, by rw [hK]; exact SqL.of (s.sub _ _ h1), q _ H F (.refl s) (.int _)⟩
  · cases e

/-! ### methods of texts -/
def MtO (X : Cx) (g : G) (id : String) (op : Str → List D → Option D) : Prop :=
  ∃ r : V → List V → Hp → VK → Prop, MtR X id r ∧ ∀ H F k x xs ds d Q, Sta g H F k → SOk x → RepAll g F xs ds → op x ds = some d → (∀ w H' F', Stp g H F k H' F' k → Rep g F' w d → Q w H') → r (.str x) xs H Q
def sM0 (op : Str → List D → Option D) (f : Sm D) : Sm D := fun env k => (f env k).bind fun d k1 => match d with
  | .str x => .of (op x []) k1
  | _ => .bad
def sM1 (op : Str → List D → Option D) (f h : Sm D) : Sm D := fun env k => (f env k).bind fun d k1 => match d with
  | .str x => (h env k1).bind fun e k2 => .of (op x [e]) k2
  | _ => .bad
theorem pd_m0 {id : String} {name : Str} {apos : Pos} {op : Str → List D → Option D} (slot : PySem.Slot "str" name id) (ty : typeOf (.builtin id) = pure (.type "method_descriptor")) (hm : MtO X g id op) (ho : PD X g xc W o fo)
    (hbase : attributeBase o name X.env (eval o X.env) = eval o X.env := by rfl) (hline : (apos.endLine == pos.line) = true := by rfl) : PD X g xc W (.Call (.Attribute o name apos) [] [] pos) (sM0 op fo) := by
  obtain ⟨r, h1, h2⟩ := hm
  refine PE.imp (pe_m0 slot ty h1 ho hbase hline) fun σ H Q ⟨F, k, env, s, ok, q⟩ => ?_
  refine tD_then' s ok q fun v d H1 F1 k1 s1 ok1 ff1 rv q1 => ?_
  cases d with
  | str x =>
    obtain ⟨rfl, hx⟩ := repStr rv
    refine ⟨⟨_, rfl⟩, ?_⟩
    change Ask g W σ H1 F1 k1 (.of (op x []) k1) _ at q1
    cases hq : op x [] with
    | none => rw [hq] at q1; exact q1.elim
    | some d => rw [hq] at q1; exact h2 H1 F1 k1 x [] [] d Q s1 hx .nil hq fun w H' F' s' r' => q1 H' F' s' w r'
  | _ => exact q1.elim
theorem pd_m1 {id : String} {name : Str} {apos : Pos} {op : Str → List D → Option D} (slot : PySem.Slot "str" name id) (ty : typeOf (.builtin id) = pure (.type "method_descriptor")) (hm : MtO X g id op) (ho : PD X g xc W o fo) (he : PD X g xc W e f)
    (hs : starEach [e] X.env = [(false, eval e X.env)] := by rfl) (hbase : attributeBase o name X.env (eval o X.env) = eval o X.env := by rfl) (hline : (apos.endLine == pos.line) = true := by rfl) :
    PD X g xc W (.Call (.Attribute o name apos) [e] [] pos) (sM1 op fo f) := by
  obtain ⟨r, h1, h2⟩ := hm
  refine PE.imp (pe_m1 slot ty h1 ho he hs hbase hline) fun σ H Q ⟨F, k, env, s, ok, q⟩ => ?_
  refine tD_then' s ok q fun v d H1 F1 k1 s1 ok1 ff1 rv q1 => ?_
  cases d with
  | str x =>
    obtain ⟨rfl, hx⟩ := repStr rv
    refine ⟨⟨_, rfl⟩, ?_⟩
    refine tD_then' s1 ok1 q1 fun w e H2 F2 k2 s2 ok2 ff2 rw' q2 => ?_
    cases hq : op x [e] with
    | none => rw [hq] at q2; exact q2.elim
    | some d => rw [hq] at q2; exact h2 H2 F2 k2 x [w] [e] d Q s2 hx (.cons rw' .nil) hq fun w H' F' s' r' => q2 H' F' s' w r'
  | _ => exact q1.elim
/-- texts in a sequence -/
def strsOf : List D → Option (List Str)
  | [] => some []
  | .str x :: ds => (strsOf ds).map (x :: ·)
  | _ => none
theorem rep_strs {F : Hp} : ∀ {vs : List V} {ds : List D} {ys : List Str}, RepAll g F vs ds → strsOf ds = some ys → vs = ys.map V.str ∧ ∀ y ∈ ys, SOk y
  | _, _, _, .nil, e => by cases e; exact ⟨rfl, fun _ z => nomatch z⟩
  | _, _, _, .cons (d := d) (ds := ds) r rs, e => by
    cases d with
    | str x =>
      obtain ⟨cs, e1, rfl⟩ := Option.map_eq_some_iff.mp (show (strsOf ds).map (x :: ·) = some _ from e)
      obtain ⟨h1, h2⟩ := rep_strs rs e1
      obtain ⟨rfl, hx⟩ := repStr r
      refine ⟨by rw [h1]; rfl, fun y hy => ?_⟩
      rcases List.mem_cons.mp hy with rfl | hy
      · exact hx
      · exact h2 y hy
    | _ => cases e
def joinD (a : Str) : List D → Option D
  | [d] => match (seqOf d).bind strsOf with
    | some ys => if (ys.map (·.length)).sum + ys.length * a.length ≤ 16777216 then some (.str (Txt.join a ys)) else none
    | none => none
  | _ => none
theorem strOk_all {x : Str} : PyData.strOk x = true ↔ ∀ c ∈ x.cps.toList, c < 1114112 := by
  unfold PyData.strOk
  rw [Array.all_eq_true']
  simp
theorem join_is (a : Str) (ys : List Str) : Txt.join a ys = Str.join a ys := PySem.StrLaws.glued_eq_join a ys
theorem join_ok {a : Str} {ys : List Str} (ha : SOk a) (hy : ∀ y ∈ ys, SOk y) (hz : (ys.map (·.length)).sum + ys.length * a.length ≤ 16777216) : SOk (Txt.join a ys) := by
  rw [join_is]
  refine ⟨Nat.le_trans (PySem.StrLaws.join_length_le a ys) (by rw [sizeLine_eq]; exact hz), strOk_all.mpr fun c hc => ?_⟩
  rcases (PyProof.Rows.mem_join a c ys).mp hc with ⟨t, ht, hc⟩ | ⟨_, hc⟩
  · exact strOk_all.mp (hy t ht).2 c hc
  · exact strOk_all.mp ha.2 c hc
theorem mto_join (hK : X.K = g.K) : MtO X g "str.join" joinD := ⟨_, mt_join, fun H F k x xs ds d Q s hx rs e q => by
  unfold joinD at e
  split at e
  · split at e
    · split at e
      · cases e
        rename_i ys hys hz
        obtain ⟨v, rfl, r⟩ := rep1 rs
        obtain ⟨es, e1, e2⟩ := Option.bind_eq_some_iff.mp hys
        obtain ⟨p, vs, rfl, hs, r1⟩ := seq_rep r e1
        obtain ⟨h1, h2⟩ := rep_strs r1 e2
        rw [h1] at hs
        exact ⟨_, p, ys, rfl, rfl, by rw [hK]; exact hs.imp s.sub.seq s.sub.seqT, hz, q _ H F (.refl s) (.str (join_ok hx h2 hz))⟩
      · cases e
    · cases e
  · cases e⟩
def splitD (a : Str) : List D → Option D
  | [.str b] => if (b.length == 0) = false ∧ a.length + 2 ≤ sizeLine then some (.lst ((Txt.split a b).map .str)) else none
  | _ => none
theorem split_ok {a b y : Str} (ha : SOk a) (h : y ∈ Txt.split a b) : SOk y := by
  have e := PySem.StrLaws.join_split a b
  refine ⟨?_, strOk_sub ha.2 fun c hc => ?_⟩
  · have := join_mem_le b (Txt.split a b) y h
    rw [e] at this
    exact Nat.le_trans this ha.1
  · have := (PyProof.Rows.mem_join b c (Txt.split a b)).mpr (.inl ⟨y, h, hc⟩)
    rw [e] at this
    exact this
theorem rep_map_str {F : Hp} : ∀ {ys : List Str}, (∀ y ∈ ys, SOk y) → RepAll g F (ys.map V.str) (ys.map D.str)
  | [], _ => .nil
  | y :: ys, h => .cons (.str (h y List.mem_cons_self)) (rep_map_str fun z hz => h z (List.mem_cons_of_mem _ hz))
theorem mto_split : MtO X g "str.split" splitD := ⟨_, mt_split, fun H F k x xs ds d Q s hx rs e q => by
  unfold splitD at e
  split at e
  · split at e
    · cases e
      rename_i b hz
      obtain ⟨v, rfl, r⟩ := rep1 rs
      rw [(repStr r).1]
      refine ⟨_, _, rfl, rfl, hz.1, hz.2, fun p np => ?_⟩
      have st := Stp.laid (o := .lst ((Txt.split x b).map V.str)) s np
      exact q _ _ _ st (.lst upd_same (rep_map_str fun y hy => split_ok hx hy))
    · cases e
  · cases e⟩
/-- a method of a text alone -/
def txt0 (C : Str → Bool) (f : Str → D) (a : Str) : List D → Option D
  | [] => if C a then some (f a) else none
  | _ => none
theorem mto_bl0 {id : String} {f : Str → Bool} (h : MtR X id (fun x xs H Q => ∃ a, x = .str a ∧ xs = [] ∧ True ∧ Q (.bl (f a)) H)) : MtO X g id (txt0 (fun _ => true) fun a => .bl (f a)) := ⟨_, h, fun H F k x xs ds d Q s hx rs e q => by
  unfold txt0 at e
  split at e
  · cases e
    cases rs
    exact ⟨_, rfl, rfl, trivial, q _ H F (.refl s) (.bl _)⟩
  · cases e⟩
def upperD : Str → List D → Option D := txt0 (fun a => decide (a.length ≤ 5592405) && PyData.strOk (Txt.upper a)) fun a => .str (Txt.upper a)
theorem mto_upper : MtO X g "str.upper" upperD := ⟨_, mt_upper, fun H F k x xs ds d Q s hx rs e q => by
  unfold upperD txt0 at e
  split at e
  · split at e
    · cases e
      rename_i hz
      cases rs
      simp only [Bool.and_eq_true, decide_eq_true_eq] at hz
      refine ⟨_, rfl, rfl, hz.1, q _ H F (.refl s) (.str ⟨?_, hz.2⟩)⟩
      have := PyProof.Rows.len_upper x
      have := sizeLine_eq
      omega
    · cases e
  · cases e⟩
/-- of a text and a text -/
def txt1 (f : Str → Str → D) (a : Str) : List D → Option D
  | [.str b] => some (f a b)
  | _ => none
theorem mto_bl1 {id : String} {f : Str → Str → Bool} (h : MtR X id (fun x xs H Q => ∃ a b, x = .str a ∧ xs = [.str b] ∧ Q (.bl (f a b)) H)) : MtO X g id (txt1 fun a b => .bl (f a b)) := ⟨_, h, fun H F k x xs ds d Q s hx rs e q => by
  unfold txt1 at e
  split at e
  · cases e
    obtain ⟨v, rfl, r⟩ := rep1 rs
    rw [(repStr r).1]
    exact ⟨_, _, rfl, rfl, q _ H F (.refl s) (.bl _)⟩
  · cases e⟩
theorem mto_int1 {id : String} {f : Str → Str → Int} (h : MtR X id (fun x xs H Q => ∃ a b, x = .str a ∧ xs = [.str b] ∧ Q (.int (f a b)) H)) : MtO X g id (txt1 fun a b => .int (f a b)) := ⟨_, h, fun H F k x xs ds d Q s hx rs e q => by
  unfold txt1 at e
  split at e
  · cases e
    obtain ⟨v, rfl, r⟩ := rep1 rs
    rw [(repStr r).1]
    exact ⟨_, _, rfl, rfl, q _ H F (.refl s) (.int _)⟩
  · cases e⟩

/-! ### own functions -/
section
variable {kk : Nat} {fa C : Addr} {fd : FuncData} {ps ks : List Str} {n : Nat} {fn : Fn}
def sCall (n : Nat) (fn : Fn) (l : Sm (List D)) : Sm D := fun env k => (l env k).bind fun ds k1 => if ds.length = n then fn ds k1 else .bad
theorem pd_call {x : Str} {p2 : Pos} (Fm : FnG X.prog X.w X.K X.mg X.base kk fa fd ps (SpD g n fn)) (hr : Room kk X.A) (hgd : X.A.guards = some []) (hg : Gl X x) (hm : X.mg x = some (.ref fa)) (hk : PySem.W.keepIn X.K (.ref fa) = true) (hb : Binds X.K fd ps []) (tk : Takes X W)
    (ha : PDA X g xc W (e :: es) l) (hdb : (x == ("__debug__" : Str)) = false := by decide) (he : starEach (e :: es) X.env = (false, eval e X.env) :: starEach es X.env := by rfl)
    (hpl : (backTo pos (starEach es X.env)).any (·.1) = false := by rfl) : PD X g xc W (.Call (.Name x p2) (e :: es) [] pos) (sCall n fn l) := by
  refine PE.imp (pe_callG (E := WE W) Fm hr hgd hg hm hk hb .nil (fun σ => passAt tk σ) ha hdb he hpl) fun σ H Q ⟨F, k, env, s, ok, q⟩ => ?_
  refine tDA_then s ok q fun vs ds H1 F1 k1 s1 ok1 ff1 r q1 => ?_
  rw [List.append_nil]
  by_cases hn : ds.length = n
  · rw [if_pos hn] at q1
    exact ⟨r.length.trans hn, F1, k1, ds, s1, r, .of q1⟩
  · rw [if_neg hn] at q1; exact q1.elim
theorem pd_call0 {x : Str} {p2 : Pos} (Fm : FnG X.prog X.w X.K X.mg X.base kk fa fd ps (SpD g 0 fn)) (hr : Room kk X.A) (hgd : X.A.guards = some []) (hg : Gl X x) (hm : X.mg x = some (.ref fa)) (hk : PySem.W.keepIn X.K (.ref fa) = true) (hb : Binds X.K fd ps []) (tk : Takes X W)
    (hdb : (x == ("__debug__" : Str)) = false := by decide) : PD X g xc W (.Call (.Name x p2) [] [] pos) (sCall 0 fn lNil) := by
  refine PE.imp (pe_call0G (E := WE W) Fm hr hgd hg hm hk hb .nil (fun σ => passAt tk σ) hdb) fun σ H Q ⟨F, k, env, s, ok, q⟩ => ?_
  exact ⟨rfl, F, k, [], s, .nil, .of q⟩
def PDK (X : Cx) (g : G) (xc : XC) (W : WX) (kws : List Keyword) (f : Sm (List D)) : Prop := PK X kws (tDA g xc W f)
theorem PK.imp {X : Cx} {e : List Keyword} {t t' : TA} (h : PK X e t) (f : ∀ σ H Q, t' σ H Q → t σ H Q) : PK X e t' := ⟨fun pos pins s σ H Q I q => h.run pos pins s σ H Q I (f σ H Q q)⟩
theorem pdk_nil : PDK X g xc W [] lNil := PK.imp pk_nil fun σ H Q ⟨F, k, env, s, ok, q⟩ => q H F (.refl s) [] .nil
theorem pdk_cons {kws : List Keyword} {nm : Option Str} {kp : Pos} (ha : PD X g xc W e f) (hr : PDK X g xc W kws l) : PDK X g xc W (⟨nm, e, kp⟩ :: kws) (lCons f l) := by
  refine PK.imp (pk_cons ha hr) fun σ H Q ⟨F, k, env, s, ok, q⟩ => ?_
  refine tD_then' s ok q fun v d H1 F1 k1 s1 ok1 ff1 r q1 => ?_
  exact tDA_then s1 ok1 q1 fun vs ds H2 F2 k2 s2 ok2 ff2 rs q2 => q2 _ _ (.refl s2) _ (.cons (r.same ff2) rs)
def sCallK (n m j : Nat) (ix : List Nat) (fn : Fn) (l lk : Sm (List D)) : Sm D := fun env k => (l env k).bind fun ds k1 => (lk env k1).bind fun es k2 => if (ord m j ix ds es).length = n then fn (ord m j ix ds es) k2 else .bad
theorem pd_callK {x : Str} {p2 : Pos} {kws : List Keyword} {m j : Nat} {ix : List Nat} (Fm : FnG X.prog X.w X.K X.mg X.base kk fa fd ps (SpD g n fn)) (hr : Room kk X.A) (hgd : X.A.guards = some []) (hg : Gl X x) (hm : X.mg x = some (.ref fa)) (hk : PySem.W.keepIn X.K (.ref fa) = true)
    (hb : KBinds X.K fd ps ks (ord m j ix) (ord m j ix)) (tk : Takes X W) (ha : PDA X g xc W (e :: es) l) (hkw : PDK X g xc W kws lk)
    (hall : (backToKw pos (keywordEach kws X.env)).all (·.1.isSome) = true := by rfl) (hks : (backToKw pos (keywordEach kws X.env)).filterMap (·.1) = ks := by rfl)
    (hdb : (x == ("__debug__" : Str)) = false := by decide) (he : starEach (e :: es) X.env = (false, eval e X.env) :: starEach es X.env := by rfl)
    (hpl : ((backTo pos (starEach (e :: es) X.env)).any (·.1) || (backToKw pos (keywordEach kws X.env)).any (·.1.isNone)) = false := by rfl) :
    PD X g xc W (.Call (.Name x p2) (e :: es) kws pos) (sCallK n m j ix fn l lk) := by
  refine PE.imp (pe_callKG (E := WE W) Fm hr hgd hg hm hk hb (fun σ => passAt tk σ) ha hkw hall hks hdb he hpl) fun σ H Q ⟨F, k, env, s, ok, q⟩ => ?_
  refine tDA_then s ok q fun vs ds H1 F1 k1 s1 ok1 ff1 r q1 => ?_
  refine tDA_then s1 ok1 q1 fun zs es H2 F2 k2 s2 ok2 ff2 rz q2 => ?_
  have ro := rep_ord (m := m) (j := j) (ix := ix) (RepAll.same ff2 r) rz
  by_cases hn : (ord m j ix ds es).length = n
  · rw [if_pos hn] at q2
    exact ⟨ro.length.trans hn, F2, k2, _, s2, ro, .of q2⟩
  · rw [if_neg hn] at q2; exact q2.elim
theorem pd_callK0 {x : Str} {p2 : Pos} {kws : List Keyword} {m j : Nat} {ix : List Nat} (Fm : FnG X.prog X.w X.K X.mg X.base kk fa fd ps (SpD g n fn)) (hr : Room kk X.A) (hgd : X.A.guards = some []) (hg : Gl X x) (hm : X.mg x = some (.ref fa)) (hk : PySem.W.keepIn X.K (.ref fa) = true)
    (hb : KBinds X.K fd ps ks (ord m j ix) (ord m j ix)) (tk : Takes X W) (hkw : PDK X g xc W kws lk)
    (hall : (backToKw pos (keywordEach kws X.env)).all (·.1.isSome) = true := by rfl) (hks : (backToKw pos (keywordEach kws X.env)).filterMap (·.1) = ks := by rfl)
    (hdb : (x == ("__debug__" : Str)) = false := by decide)
    (hpl : ((backTo pos (starEach [] X.env)).any (·.1) || (backToKw pos (keywordEach kws X.env)).any (·.1.isNone)) = false := by rfl) :
    PD X g xc W (.Call (.Name x p2) [] kws pos) (sCallK n m j ix fn lNil lk) := by
  refine PE.imp (pe_callK0G (E := WE W) Fm hr hgd hg hm hk hb (fun σ => passAt tk σ) hkw hall hks hdb hpl) fun σ H Q ⟨F, k, env, s, ok, q⟩ => ?_
  refine tDA_then s ok (l := lk) (R := fun es k2 => if (ord m j ix [] es).length = n then fn (ord m j ix [] es) k2 else .bad) q fun zs es H2 F2 k2 s2 ok2 ff2 rz q2 => ?_
  have ro := rep_ord (m := m) (j := j) (ix := ix) (RepAll.nil (g := g) (F := F2)) rz
  by_cases hn : (ord m j ix [] es).length = n
  · rw [if_pos hn] at q2
    exact ⟨ro.length.trans hn, F2, k2, _, s2, ro, .of q2⟩
  · rw [if_neg hn] at q2; exact q2.elim

/-! ### fields, methods -/
def sFld (cs : List String) (fl : Str) (f : Sm D) : Sm D := fun env k => (f env k).bind fun d k1 => match d with
  | .obj c fs => if c ∈ cs then .of (fs.lookup fl) k1 else .bad
  | _ => .bad
theorem pd_fld {cs : List String} {fl : Str} (hK : X.K = g.K) (hO : OwnAll g) (hN : ∀ c ∈ cs, NoAttr g.K (g.cl c) fl) (ha : PD X g xc W e f) (hb : attributeBase e fl X.env (eval e X.env) = eval e X.env := by rfl) : PD X g xc W (.Attribute e fl pos) (sFld cs fl f) := by
  refine PE.imp (pe_fld ha hb) fun σ H Q ⟨F, k, env, s, ok, q⟩ => ?_
  refine tD_then' s ok q fun v d H1 F1 k1 s1 ok1 ff1 r q1 => ?_
  cases d with
  | obj c fs =>
    obtain ⟨a, dx, ws, rfl, hc, h1, rf⟩ := repObj r
    change Ask g W σ H1 F1 k1 (if c ∈ cs then .of (fs.lookup fl) k1 else .bad) _ at q1
    by_cases hcs : c ∈ cs
    · rw [if_pos hcs] at q1
      cases hl : fs.lookup fl with
      | none => rw [hl] at q1; exact q1.elim
      | some y =>
        rw [hl] at q1
        obtain ⟨w, h2, rw'⟩ := rf.lookup hl
        rw [hK]
        exact ⟨a, g.cl c, dx, ws, w, rfl, s1.sub _ _ h1, (hO c hc).cl, hN c hcs, h2, q1 _ _ (.refl s1) _ rw'⟩
    · rw [if_neg hcs] at q1; exact q1.elim
  | _ => exact q1.elim
def sMeth (c : String) (m : Str) (n : Nat) (fn : Fn) (fo : Sm D) (l : Sm (List D)) : Sm D := fun env k => (fo env k).bind fun d k1 => match d with
  | .obj c' fs => if c' = c ∧ fs.lookup m = none then (l env k1).bind fun ds k2 => if ds.length + 1 = n then fn (.obj c' fs :: ds) k2 else .bad else .bad
  | _ => .bad
theorem pd_meth {c : String} {m : Str} {apos : Pos} {pl : Sem Bool} (hK : X.K = g.K) (hO : OwnAll g) (hc : c ∈ g.own) (hmt : Meth g.K (g.cl c) m fa) (Fm : FnG X.prog X.w X.K X.mg X.base kk fa fd ps (SpD g n fn)) (hr : Room kk X.A) (hgd : X.A.guards = some []) (hb : Binds X.K fd ps []) (tk : Takes X W)
    (ho : PD X g xc W o fo) (ha : PDA X g xc W (e :: es) l)
    (hst : starEach (e :: es) X.env = (false, eval e X.env) :: starEach es X.env := by rfl) (hpl : (backTo pos (starEach es X.env)).any (·.1) = false := by rfl)
    (ht : eval (.Call (.Attribute o m apos) (e :: es) [] pos) X.env = (do
      let ov ← eval o X.env
      standAt apos.atName
      let (f, first) ← holding [ov] (getMethod ov m pl)
      callWith pos f first (backTo pos (starEach (e :: es) X.env)) (backToKw pos (keywordEach [] X.env))) := by rfl) : PD X g xc W (.Call (.Attribute o m apos) (e :: es) [] pos) (sMeth c m n fn fo l) := by
  refine PE.imp (pe_methG (E := WE W) (C := g.cl c) (pl := pl) ho (by rw [hK]; exact (hO c hc).cl) (by rw [hK]; exact hmt) Fm hr hgd hb .nil (fun σ => passAt tk σ) ha hst hpl ht) fun σ H Q ⟨F, k, env, s, ok, q⟩ => ?_
  refine tD_then' s ok q fun v d H1 F1 k1 s1 ok1 ff1 r q1 => ?_
  cases d with
  | obj c' fs =>
    change Ask g W σ H1 F1 k1 (if c' = c ∧ fs.lookup m = none then (l env k1).bind fun ds k2 => if ds.length + 1 = n then fn (.obj c' fs :: ds) k2 else .bad else .bad) _ at q1
    by_cases hcs : c' = c ∧ fs.lookup m = none
    · rw [if_pos hcs] at q1
      obtain ⟨rfl, hno⟩ := hcs
      obtain ⟨a, dx, ws, rfl, hc2, h1, rf⟩ := repObj r
      refine ⟨a, dx, ws, rfl, s1.sub _ _ h1, rf.lookupN hno, ?_⟩
      refine tDA_then s1 ok1 q1 fun vs ds H2 F2 k2 s2 ok2 ff2 rs q2 => ?_
      rw [List.append_nil]
      by_cases hn : ds.length + 1 = n
      · rw [if_pos hn] at q2
        exact ⟨by rw [List.length_cons, rs.length]; exact hn, F2, k2, _, s2, .cons (r.same ff2) rs, .of q2⟩
      · rw [if_neg hn] at q2; exact q2.elim
    · rw [if_neg hcs] at q1; exact q1.elim
  | _ => exact q1.elim
end
end
end DL
set_option Elab.async false
set_option linter.all false
set_option maxRecDepth 100000
set_option maxHeartbeats 4000000
/-! what is walked; targets; comprehensions -/
namespace DL
open PySem PySem.Spec L2
open PySem.W (Frag)
/-- the walk J gives the ds, one after another, from a known F on -/
def DWalk (g : G) (F : Hp) (J : It) (ds : List D) : Prop :=
  ∃ (G : Hp → Prop) (Y : Nat → Hp → V → Hp → Prop), Walk J ds.length G Y ∧ (∀ H, Same F H → G H) ∧
    ∀ i H F1 k v H', Sta g H F1 k → Same F F1 → i < ds.length → Y i H v H' → ∃ F2 d, Stp g H F1 k H' F2 k ∧ ds[i]? = some d ∧ Rep g F2 v d
/-- an iterable by its items -/
def PDI (X : Cx) (g : G) (xc : XC) (W : WX) (tg iter : Expr) (its : Sm (List D)) : Prop :=
  PI X tg iter fun σ H R => ∃ F k env, Sta g H F k ∧ EnvOk g xc k σ H F env ∧ Ask g W σ H F k (its env k) fun ds H' F' k' => ∀ J, DWalk g F' J ds → R J H'
theorem PI.imp {X : Cx} {tg it : Expr} {t t' : TI} (h : PI X tg it t) (f : ∀ σ H Q, t' σ H Q → t σ H Q) : PI X tg it t' := ⟨fun pins s σ H Q I q => h.run pins s σ H Q I (f σ H Q q)⟩
theorem PI.or {X : Cx} {tg it : Expr} {t t' : TI} (h : PI X tg it t) (h' : PI X tg it t') : PI X tg it (fun σ H R => t σ H R ∨ t' σ H R) := ⟨fun pins s σ H Q I q => q.elim (h.run pins s σ H Q I) (h'.run pins s σ H Q I)⟩
section
variable {X : Cx} {g : G} {xc : XC} {W : WX} {a b c e o tg : Expr} {es rest : List Expr} {f h q fo : Sm D} {p p' : Sm Bool} {l lk : Sm (List D)} {pos : Pos}
theorem dw_at {F : Hp} {J : It} {ds : List D} {vs : List V} {G : Hp → Prop} (w : Walk J vs.length G (YAt vs)) (hG : ∀ H, Same F H → G H) (r : RepAll g F vs ds) : DWalk g F J ds := by
  rw [r.length] at w
  refine ⟨G, YAt vs, w, hG, fun i H F1 k v H' s ff hi y => ?_⟩
  obtain ⟨rfl, hv⟩ := y
  obtain ⟨d, hd, rd⟩ := (r.same ff).get' hv
  exact ⟨F1, d, .refl s, hd, rd⟩
theorem dw_list {F : Hp} {K : Frag} {a : Addr} {vs : List V} {ds : List D} (h : SqL K F a vs) (r : RepAll g F vs ds) : DWalk g F (Itl K a) ds := dw_at walk_list (fun _ s => s.seq h) r
theorem dw_tup {F : Hp} {K : Frag} {a : Addr} {vs : List V} {ds : List D} (h : SqT K F a vs) (r : RepAll g F vs ds) : DWalk g F (Itt K a) ds := dw_at walk_tup (fun _ s => s.seqT h) r
def signsD (x : Str) : List D := x.cps.toList.map fun c => .str ⟨#[c]⟩
theorem dw_str {F : Hp} {x : Str} (hx : SOk x) : DWalk g F (Its x) (signsD x) := by
  have e : x.cps.size = (signsD x).length := by unfold signsD; simp
  have w := @walk_str x
  rw [e] at w
  refine ⟨_, _, w, fun _ _ => trivial, fun i H F1 k v H' s ff hi y => ?_⟩
  obtain ⟨rfl, c, hc, rfl⟩ := y
  have hc' : x.cps.toList[i]? = some c := by simpa using hc
  exact ⟨F1, .str ⟨#[c]⟩, .refl s, by unfold signsD; rw [List.getElem?_map, hc']; rfl, .str (sign_ok hx (List.mem_of_getElem? hc'))⟩
def itemsOf : D → Option (List D)
  | .lst ds => some ds
  | .tup ds => some ds
  | .str x => some (signsD x)
  | _ => none
def iVal (f : Sm D) : Sm (List D) := fun env k => (f env k).bind fun d k1 => .of (itemsOf d) k1
/-- for x in e: a list, a tuple, a text -/
theorem pdi_val (hK : X.K = g.K) (ha : PD X g xc W e f) : PDI X g xc W tg e (iVal f) := by
  refine PI.imp (PI.or (pi_list ha) (PI.or (pi_tup ha) (pi_str ha))) fun σ H R ⟨F, k, env, s, ok, q⟩ => ?_
  unfold iVal at q
  cases hf : f env k with
  | bad => rw [hf] at q; exact q.elim
  | err c fs k1 =>
    rw [hf] at q
    exact .inl ⟨F, k, env, s, ok, by rw [hf]; exact q⟩
  | ok d k1 =>
    rw [hf] at q
    cases d with
    | lst ds =>
      refine .inl ⟨F, k, env, s, ok, by
        rw [hf]
        intro H' F' st v r
        obtain ⟨a, vs, rfl, h1, r1⟩ := repLst r
        exact ⟨a, rfl, ⟨vs, SqL.of (st.st.sub _ _ h1)⟩, q H' F' st _ (dw_list (SqL.of h1) r1)⟩⟩
    | tup ds =>
      refine .inr (.inl ⟨F, k, env, s, ok, by
        rw [hf]
        intro H' F' st v r
        obtain ⟨a, vs, rfl, h1, r1⟩ := repTup r
        rw [hK]
        exact ⟨a, rfl, ⟨vs, st.st.sub.seqT h1⟩, q H' F' st _ (dw_tup h1 r1)⟩⟩)
    | str x =>
      refine .inr (.inr ⟨F, k, env, s, ok, by
        rw [hf]
        intro H' F' st v r
        obtain ⟨rfl, hx⟩ := repStr r
        exact ⟨x, rfl, q H' F' st _ (dw_str hx)⟩⟩)
    | _ => exact q.elim
/-! ranges -/
def rangeL (lo hi : Int) : List D := (List.range (hi - lo).toNat).map fun (i : Nat) => .int (lo + i)
theorem dw_range {F : Hp} {lo hi : Int} : DWalk g F (Itr lo (hi - lo).toNat) (rangeL lo hi) := by
  have e : (hi - lo).toNat = (rangeL lo hi).length := by unfold rangeL; simp
  have w := @walk_range lo (hi - lo).toNat
  have w2 : Walk (Itr lo (hi - lo).toNat) (rangeL lo hi).length (fun _ => True) (YFn fun i => .int (lo + i)) := by rw [← e]; exact w
  refine ⟨_, _, w2, fun _ _ => trivial, fun i H F1 k v H' s ff hi' y => ?_⟩
  obtain ⟨rfl, rfl⟩ := y
  refine ⟨F1, .int (lo + i), .refl s, ?_, .int _⟩
  unfold rangeL
  rw [← e] at hi'
  rw [List.getElem?_map, List.getElem?_range hi']
  rfl
def big62 (i : Int) : Bool := decide (-(2 ^ 62) ≤ i) && decide (i < 2 ^ 62)
def iRange1 (f : Sm D) : Sm (List D) := fun env k => (f env k).bind fun d k1 => match d with
  | .int j => if big62 j = true then .ok (rangeL 0 j) k1 else .bad
  | _ => .bad
def iRange2 (f h : Sm D) : Sm (List D) := fun env k => (f env k).bind fun d k1 => (h env k1).bind fun e k2 => match d, e with
  | .int i, .int j => if big62 i = true ∧ big62 j = true then .ok (rangeL i j) k2 else .bad
  | _, _ => .bad
theorem pdi_range1 {p2 : Pos} (hg : Gl X "range") (hm : X.mg "range" = none) (ha : PD X g xc W a f) (hs : starEach [a] X.env = [(false, eval a X.env)] := by rfl) : PDI X g xc W tg (.Call (.Name "range" p2) [a] [] pos) (iRange1 f) := by
  refine PI.imp (pi_range1 hg hm (pa_cons ha pa_nil hs) hs) fun σ H R ⟨F, k, env, s, ok, q⟩ => ?_
  refine tD_then' s ok q fun v d H1 F1 k1 s1 ok1 ff1 r q1 => ?_
  cases d with
  | int j =>
    rw [repInt r]
    change Ask g W σ H1 F1 k1 (if big62 j = true then .ok (rangeL 0 j) k1 else .bad) _ at q1
    by_cases hb : big62 j = true
    · rw [if_pos hb] at q1
      have hb' := hb
      simp only [big62, Bool.and_eq_true, decide_eq_true_eq] at hb'
      refine ⟨j, rfl, hb'.1, hb'.2, ?_⟩
      have z := q1 H1 F1 (.refl s1) (Itr 0 (j - 0).toNat) dw_range
      rw [Int.sub_zero] at z
      exact z
    · rw [if_neg hb] at q1; exact q1.elim
  | _ => exact q1.elim
theorem pdi_range2 {p2 : Pos} (hg : Gl X "range") (hm : X.mg "range" = none) (ha : PD X g xc W a f) (hb : PD X g xc W b h) (hs : starEach [a, b] X.env = [(false, eval a X.env), (false, eval b X.env)] := by rfl) (hs2 : starEach [b] X.env = [(false, eval b X.env)] := by rfl) :
    PDI X g xc W tg (.Call (.Name "range" p2) [a, b] [] pos) (iRange2 f h) := by
  refine PI.imp (pi_range2 hg hm (pa_cons ha (pa_cons hb pa_nil hs2) (by rw [hs, hs2])) hs hs2) fun σ H R ⟨F, k, env, s, ok, q⟩ => ?_
  refine tD_then' s ok q fun v d H1 F1 k1 s1 ok1 ff1 r q1 => ?_
  refine tD_then' s1 ok1 q1 fun w e H2 F2 k2 s2 ok2 ff2 r2 q2 => ?_
  cases d with
  | int i =>
    cases e with
    | int j =>
      rw [repInt r, repInt r2]
      change Ask g W σ H2 F2 k2 (if big62 i = true ∧ big62 j = true then .ok (rangeL i j) k2 else .bad) _ at q2
      by_cases hb : big62 i = true ∧ big62 j = true
      · rw [if_pos hb] at q2
        have hb1 := hb.1
        have hb2 := hb.2
        simp only [big62, Bool.and_eq_true, decide_eq_true_eq] at hb1 hb2
        exact ⟨i, j, rfl, ⟨hb1.1, hb1.2, hb2.1, hb2.2⟩, q2 H2 F2 (.refl s2) _ dw_range⟩
      · rw [if_neg hb] at q2; exact q2.elim
    | _ => exact q2.elim
  | _ => cases e <;> exact q2.elim
/-! enumerate, zip -/
def enumD (k0 : Int) (ds : List D) : List D := ds.zipIdx.map fun p => .tup [.int (k0 + (p.2 : Nat)), p.1]
theorem enumD_len (k0 : Int) (ds : List D) : (enumD k0 ds).length = ds.length := by unfold enumD; simp
theorem enumD_get {k0 : Int} {ds : List D} {i : Nat} {d : D} (h : ds[i]? = some d) : (enumD k0 ds)[i]? = some (.tup [.int (k0 + (i : Nat)), d]) := by
  unfold enumD
  rw [List.getElem?_map, List.getElem?_zipIdx, h]
  simp
theorem dw_pair {F : Hp} {J : It} {ds : List D} {k0 : Int} {vs : List V} {G : Hp → Prop} (w : Walk J vs.length G (fun i H v H' => ∃ T x, v = .ref T ∧ H T = none ∧ H' = upd H T (.tup [.int (k0 + (i : Nat)), x]) ∧ vs[i]? = some x)) (hG : ∀ H, Same F H → G H) (r : RepAll g F vs ds) : DWalk g F J (enumD k0 ds) := by
  rw [r.length, ← enumD_len k0] at w
  refine ⟨G, _, w, hG, fun i H F1 k v H' s ff hi y => ?_⟩
  obtain ⟨T, x, rfl, nT, rfl, hx⟩ := y
  obtain ⟨d, hd, rd⟩ := (r.same ff).get' hx
  have st := Stp.laid (o := .tup [.int (k0 + (i : Nat)), x]) s nT
  exact ⟨_, _, st, enumD_get hd, .tup (SqT.of upd_same) (.cons (.int _) (.cons (rd.same st.ff) .nil))⟩
theorem walk_enum' {K : Frag} {a : Addr} {xs : List V} : Walk (Ite K a) xs.length (fun H => SqL K H a xs) (fun i H v H' => ∃ T x, v = .ref T ∧ H T = none ∧ H' = upd H T (.tup [.int (0 + ((i : Nat) : Int)), x]) ∧ xs[i]? = some x) :=
  walk_enum.mono (fun _ z => z) fun i H x H' _ _ y => by
    obtain ⟨T, x1, x2, rfl, nT, rfl, e1, e2⟩ := y
    cases e1
    exact ⟨T, x2, rfl, nT, by rw [Int.zero_add], e2⟩
theorem dw_enumS {F : Hp} {z : Str} (hx : SOk z) : DWalk g F (Ites z) (enumD 0 (signsD z)) := by
  have e : z.cps.size = (enumD 0 (signsD z)).length := by rw [enumD_len]; unfold signsD; simp
  have w := @walk_enumS z
  rw [e] at w
  refine ⟨_, _, w, fun _ _ => trivial, fun i H F1 k v H' s ff hi y => ?_⟩
  obtain ⟨T, c, rfl, nT, hc, rfl⟩ := y
  have hc' : z.cps.toList[i]? = some c := by simpa using hc
  have st := Stp.laid (o := .tup [.int (i : Nat), .str ⟨#[c]⟩]) s nT
  refine ⟨_, .tup [.int (0 + (i : Nat)), .str ⟨#[c]⟩], st, enumD_get (by unfold signsD; rw [List.getElem?_map, hc']; rfl), ?_⟩
  rw [Int.zero_add]
  exact .tup (SqT.of upd_same) (.cons (.int _) (.cons (.str (sign_ok hx (List.mem_of_getElem? hc'))) .nil))
def iEnumD (f : Sm D) : Sm (List D) := fun env k => (f env k).bind fun d k1 => .of ((itemsOf d).map (enumD 0)) k1
theorem pdi_enum {p2 tpos : Pos} {elts : List Expr} {kk : Nat} (hK : X.K = g.K) (hg : Gl X "enumerate") (hm : X.mg "enumerate" = none) (ha : PD X g xc W e f) (hs : starEach [e] X.env = [(false, eval e X.env)] := by rfl) :
    PDI X g xc W (.Tuple elts kk tpos) (.Call (.Name "enumerate" p2) [e] [] pos) (iEnumD f) := by
  have pa := pa_cons ha pa_nil hs
  refine PI.imp (PI.or (pi_enum hg hm pa hs) (PI.or (pi_enumT hg hm pa hs) (pi_enumS hg hm pa hs))) fun σ H R ⟨F, k, env, s, ok, q⟩ => ?_
  unfold iEnumD at q
  cases hf : f env k with
  | bad => rw [hf] at q; exact q.elim
  | err c fs k1 =>
    rw [hf] at q
    exact .inl ⟨F, k, env, s, ok, by rw [hf]; exact q⟩
  | ok d k1 =>
    rw [hf] at q
    cases d with
    | lst ds =>
      refine .inl ⟨F, k, env, s, ok, by
        rw [hf]
        intro H' F' st v r
        obtain ⟨a, vs, rfl, h1, r1⟩ := repLst r
        exact ⟨a, vs, rfl, SqL.of (st.st.sub _ _ h1), q H' F' st _ (dw_pair walk_enum' (fun _ z => z.seq (SqL.of h1)) r1)⟩⟩
    | tup ds =>
      refine .inr (.inl ⟨F, k, env, s, ok, by
        rw [hf]
        intro H' F' st v r
        obtain ⟨a, vs, rfl, h1, r1⟩ := repTup r
        rw [hK]
        exact ⟨a, vs, rfl, st.st.sub.seqT h1, q H' F' st _ (dw_pair walkQT (fun _ z => z.seqT h1) r1)⟩⟩)
    | str x =>
      refine .inr (.inr ⟨F, k, env, s, ok, by
        rw [hf]
        intro H' F' st v r
        obtain ⟨rfl, hx⟩ := repStr r
        exact ⟨x, rfl, q H' F' st _ (dw_enumS hx)⟩⟩)
    | _ => exact q.elim
def iEnumK (k0 : Int) (f : Sm D) : Sm (List D) := fun env k => (f env k).bind fun d k1 => match d with
  | .lst ds => .ok (enumD k0 ds) k1
  | _ => .bad
theorem pdi_enumK {p2 tpos kp cp : Pos} {elts : List Expr} {kk j : Nat} {k0 : Int} (hg : Gl X "enumerate") (hm : X.mg "enumerate" = none) (ha : PD X g xc W e f) (hk : 0 ≤ k0 ∧ k0 < 1000)
    (hs : starEach [e] X.env = [(false, eval e X.env)] := by rfl)
    (hall : (backToKw pos (keywordEach [⟨some "start", .Constant (.int k0) j cp, kp⟩] X.env)).all (·.1.isSome) = true := by rfl) (hks : (backToKw pos (keywordEach [⟨some "start", .Constant (.int k0) j cp, kp⟩] X.env)).filterMap (·.1) = [("start" : Str)] := by rfl)
    (hpl : ((backTo pos (starEach [e] X.env)).any (·.1) || (backToKw pos (keywordEach [⟨some "start", .Constant (.int k0) j cp, kp⟩] X.env)).any (·.1.isNone)) = false := by rfl) (he : starEach [e] X.env = (false, eval e X.env) :: starEach [] X.env := by rfl) :
    PDI X g xc W (.Tuple elts kk tpos) (.Call (.Name "enumerate" p2) [e] [⟨some "start", .Constant (.int k0) j cp, kp⟩] pos) (iEnumK k0 f) := by
  refine PI.imp (pi_enumL hg hm (pa_cons ha pa_nil hs) hk hall hks hpl he) fun σ H R ⟨F, k, env, s, ok, q⟩ => ?_
  refine tD_then' s ok q fun v d H1 F1 k1 s1 ok1 ff1 r q1 => ?_
  cases d with
  | lst ds =>
    obtain ⟨a, vs, rfl, h1, r1⟩ := repLst r
    exact ⟨a, vs, rfl, SqL.of (s1.sub _ _ h1), q1 H1 F1 (.refl s1) _ (dw_pair walkQL (fun _ z => z.seq (SqL.of h1)) r1)⟩
  | _ => exact q1.elim

/-! ### targets -/
inductive Tgt where
  | name (i : Nat)
  | tup (ts : List Tgt)
mutual
def Tgt.set : Tgt → D → List En → Option (List En)
  | .name i, d, env => some (env.set i (.d d))
  | .tup ts, d, env => match d with
    | .tup ds => Tgt.setAll ts ds env
    | _ => none
def Tgt.setAll : List Tgt → List D → List En → Option (List En)
  | [], [], env => some env
  | t :: ts, d :: ds, env => match Tgt.set t d env with
    | some env' => Tgt.setAll ts ds env'
    | none => none
  | _, _, _ => none
end
mutual
def Tgt.slots : Tgt → List Nat
  | .name i => [i]
  | .tup ts => Tgt.slotsAll ts
def Tgt.slotsAll : List Tgt → List Nat
  | [] => []
  | t :: ts => Tgt.slots t ++ Tgt.slotsAll ts
end
mutual
/-- a target's reading -/
def tgT (K : Frag) : Tgt → TG
  | .name i => gName i
  | .tup ts => gTup K ts.length (tgTs K ts)
def tgTs (K : Frag) : List Tgt → TGs
  | [] => gNil
  | t :: ts => gCons (tgT K t) (tgTs K ts)
end
/-- slots are set, by known values -/
inductive SetTo (g : G) (F : Hp) (I : List Nat) : L2.St → List En → L2.St → List En → Prop
  | refl {σ : L2.St} {env : List En} : SetTo g F I σ env σ env
  | step {σ σ' : L2.St} {env env' : List En} {i : Nat} {v : V} {d : D} (hi : i ∈ I) (r : Rep g F v d) (h : SetTo g F I (σ.set i (some v)) (env.set i (.d d)) σ' env') : SetTo g F I σ env σ' env'
theorem SetTo.trans {F : Hp} {I : List Nat} {σ σ1 σ2 : L2.St} {env env1 env2 : List En} (a : SetTo g F I σ env σ1 env1) (b : SetTo g F I σ1 env1 σ2 env2) : SetTo g F I σ env σ2 env2 := by
  induction a with
  | refl => exact b
  | step hi r _ ih => exact .step hi r (ih b)
theorem SetTo.mono {F : Hp} {I J : List Nat} {σ σ1 : L2.St} {env env1 : List En} (a : SetTo g F I σ env σ1 env1) (h : ∀ i ∈ I, i ∈ J) : SetTo g F J σ env σ1 env1 := by
  induction a with
  | refl => exact .refl
  | step hi r _ ih => exact .step (h _ hi) r ih
theorem EnOk.set_d {k : DkO} {H F : Hp} {v : V} {d : D} (r : Rep g F v d) : EnOk g xc k H F (some v) (.d d) := ⟨v, rfl, r⟩
theorem EnvOk.set {k : DkO} {H F : Hp} {σ : L2.St} {env : List En} {i : Nat} {w : Option V} {e : En} (ok : EnvOk g xc k σ H F env) (r : EnOk g xc k H F w e) : EnvOk g xc k (σ.set i w) H F (env.set i e) := by
  refine ⟨by simpa using ok.1, fun j e' he => ?_⟩
  by_cases hj : j = i
  · subst hj
    by_cases hl : j < env.length
    · rw [List.getElem?_set_self hl] at he
      cases he
      rw [List.getElem?_set_self (by rw [ok.1]; exact hl)]
      exact r
    · rw [List.getElem?_eq_none (by simpa using hl)] at he; cases he
  · rw [List.getElem?_set_ne (Ne.symm hj)] at he
    rw [List.getElem?_set_ne (Ne.symm hj)]
    exact ok.2 j e' he
theorem SetTo.env {k : DkO} {H F : Hp} {I : List Nat} {σ σ' : L2.St} {env env' : List En} (a : SetTo g F I σ env σ' env') (ok : EnvOk g xc k σ H F env) : EnvOk g xc k σ' H F env' := by
  induction a with
  | refl => exact ok
  | step hi r _ ih => exact ih (ok.set (.set_d r))
theorem wipe_set {i : Nat} {w : Option V} : ∀ {vs : List Nat} {σ : L2.St}, i ∈ vs → wipe (σ.set i w) vs = wipe σ vs
  | [], _, h => by cases h
  | v :: vs, σ, h => by
    unfold wipe
    by_cases hv : i ∈ vs
    · rw [wipe_set hv]
    · have e : i = v := (List.mem_cons.mp h).resolve_right hv
      subst e
      have out : ∀ {vs : List Nat}, i ∉ vs → wipe (σ.set i w) vs = (wipe σ vs).set i w := by
        intro vs
        induction vs with
        | nil => intro _; rfl
        | cons u us ih =>
          intro hn
          unfold wipe
          rw [ih fun z => hn (List.mem_cons_of_mem _ z), List.set_comm _ _ fun z => hn (by rw [z]; exact List.mem_cons_self)]
      rw [out hv, List.set_set]
theorem SetTo.wipe {F : Hp} {vs : List Nat} {σ σ' : L2.St} {env env' : List En} (a : SetTo g F vs σ env σ' env') : L2.wipe σ' vs = L2.wipe σ vs := by
  induction a with
  | refl => rfl
  | step hi r _ ih => rw [ih, wipe_set hi]
/-- a target by what it sets -/
def PDG (X : Cx) (g : G) (tg : Expr) (t : Tgt) : Prop := PG X tg (tgT g.K t)
def PDGs (X : Cx) (g : G) (tgs : List Expr) (ts : List Tgt) : Prop := PGs X tgs (tgTs g.K ts)
mutual
theorem tgT_ok {H F : Hp} (s : Same F H) : ∀ (t : Tgt) (v : V) (d : D) (σ : L2.St) (env env' : List En) (Q : L2.St → Hp → Prop), Rep g F v d → t.set d env = some env' → (∀ σ', SetTo g F t.slots σ env σ' env' → Q σ' H) → tgT g.K t v σ H Q
  | .name i, v, d, σ, env, env', Q, r, e, q => by
    have e' : env.set i (.d d) = env' := by simpa [Tgt.set] using e
    subst e'
    simp only [tgT]
    exact q _ (.step (by simp [Tgt.slots]) r .refl)
  | .tup ts, v, d, σ, env, env', Q, r, e, q => by
    cases d with
    | tup ds =>
      obtain ⟨a, vs, rfl, h1, r1⟩ := repTup r
      have e' : Tgt.setAll ts ds env = some env' := by simpa [Tgt.set] using e
      simp only [tgT]
      refine ⟨a, vs, rfl, s.seqT h1, by rw [r1.length]; exact setAll_len ts ds env env' e', tgTs_ok s ts vs ds σ env env' Q r1 e' fun σ' z => q σ' (by simpa [Tgt.slots] using z)⟩
    | _ => simp [Tgt.set] at e
theorem tgTs_ok {H F : Hp} (s : Same F H) : ∀ (ts : List Tgt) (vs : List V) (ds : List D) (σ : L2.St) (env env' : List En) (Q : L2.St → Hp → Prop), RepAll g F vs ds → Tgt.setAll ts ds env = some env' → (∀ σ', SetTo g F (Tgt.slotsAll ts) σ env σ' env' → Q σ' H) → tgTs g.K ts vs σ H Q
  | [], vs, ds, σ, env, env', Q, r, e, q => by
    cases r with
    | nil =>
      have e' : env = env' := by simpa [Tgt.setAll] using e
      subst e'
      simp only [tgTs]
      exact ⟨rfl, q _ .refl⟩
    | cons _ _ => simp [Tgt.setAll] at e
  | t :: ts, vs, ds, σ, env, env', Q, r, e, q => by
    cases r with
    | nil => simp [Tgt.setAll] at e
    | cons r rs =>
      rename_i v vs d ds
      simp only [Tgt.setAll] at e
      cases hq : t.set d env with
      | none => rw [hq] at e; cases e
      | some env1 =>
        rw [hq] at e
        simp only [tgTs]
        refine ⟨v, vs, rfl, tgT_ok s t v d σ env env1 _ r hq fun σ1 z1 => tgTs_ok s ts vs ds σ1 env1 env' Q rs e fun σ2 z2 => q σ2 ?_⟩
        have a1 := z1.mono (J := Tgt.slotsAll (t :: ts)) fun i hi => by simp only [Tgt.slotsAll]; exact List.mem_append_left _ hi
        have a2 := z2.mono (J := Tgt.slotsAll (t :: ts)) fun i hi => by simp only [Tgt.slotsAll]; exact List.mem_append_right _ hi
        exact a1.trans a2
theorem setAll_len : ∀ (ts : List Tgt) (ds : List D) (env env' : List En), Tgt.setAll ts ds env = some env' → ds.length = ts.length
  | [], [], _, _, _ => rfl
  | [], _ :: _, _, _, e => by simp [Tgt.setAll] at e
  | _ :: _, [], _, _, e => by simp [Tgt.setAll] at e
  | t :: ts, d :: ds, env, env', e => by
    simp only [Tgt.setAll] at e
    cases hq : t.set d env with
    | none => rw [hq] at e; cases e
    | some env1 => rw [hq] at e; rw [List.length_cons, List.length_cons, setAll_len ts ds env1 env' e]
end
theorem pdg_name {i : Nat} {x : Str} (hN : X.N.Nodup) (hi : X.N[i]? = some x) (hx : Loc X.env.scope x) (hf : X.fn x = true ∨ X.env.scope.names.lookup x = some .local := by first | exact .inl rfl | exact .inr rfl | assumption) : PDG X g (.Name x pos) (.name i) := by
  have z := pg_name (pos := pos) hN hi hx hf
  unfold PDG
  simp only [tgT]
  exact z
theorem pdgs_nil : PDGs X g [] [] := by
  unfold PDGs
  simp only [tgTs]
  exact pgs_nil
theorem pdgs_cons {t : Tgt} {ts : List Tgt} (h1 : PDG X g e t) (h2 : PDGs X g es ts) (hs : (assignEach (e :: es) X.env).map (·.2) = assign e X.env :: (assignEach es X.env).map (·.2) := by rfl) : PDGs X g (e :: es) (t :: ts) := by
  have z := pgs_cons h1 h2 hs
  unfold PDGs
  simp only [tgTs]
  exact z
theorem pdg_tup {ts : List Tgt} {kk : Nat} (hK : X.K = g.K) (hc : X.calm = true) (hh : PDGs X g es ts) (hn : (assignEach es X.env).length = ts.length := by rfl) (hst : (assignEach es X.env).findIdx? (·.1) = none := by rfl) : PDG X g (.Tuple es kk pos) (.tup ts) := by
  have z := pg_tup (pos := pos) (k := kk) hc hh hn hst
  unfold PDG
  simp only [tgT]
  rw [hK] at z
  exact z
end
end DL
set_option Elab.async false
set_option linter.all false
set_option maxRecDepth 100000
set_option maxHeartbeats 4000000
/-! new lists; comprehensions -/
namespace DL
open PySem PySem.Spec L2
open PySem.W (Frag)
section
variable {g : G} {H F H1 F1 H2 F2 : Hp} {k k1 k2 : DkO}
theorem dkM_ne {p : Addr} (s : Sta g H F k) (np : H p = none) : ¬ dkM g k p := fun z => (dk_none s.dk z).2 np
/-- one's own new object is written -/
theorem Stp.own {p : Addr} {o : HO} (s : Stp g H F k H1 F1 k1) (np : H p = none) (fp : F1 p = none) (dp : ¬ dkM g k1 p) : Stp g H F k (upd H1 p o) F1 k1 := by
  refine ⟨⟨fun b u e => ?_, ?_⟩, s.ff, fun b u hb e => ?_, fun b e h => ?_, s.ks⟩
  · have hb : b ≠ p := fun z => by subst z; rw [fp] at e; cases e
    rw [upd_ne hb]; exact s.st.sub b u e
  · cases k1 with
    | none => trivial
    | some d =>
      obtain ⟨h1, h2, h3, h4⟩ := s.st.dk
      refine ⟨?_, ?_, h3, h4⟩
      · rw [upd_ne fun z => dp (.inl z.symm)]; exact h1
      · rw [upd_ne fun z => dp (.inr z.symm)]; exact h2
  · have hb' : b ≠ p := fun z => by subst z; rw [np] at e; cases e
    rw [upd_ne hb']; exact s.keep b u hb e
  · exact s.new b e h
/-- .. and is known from now on -/
theorem Stp.frz {p : Addr} {o : HO} (s : Stp g H F k H1 F1 k1) (np : H p = none) (fp : F1 p = none) (dp : ¬ dkM g k1 p) (hp : H1 p = some o) : Stp g H F k H1 (upd F1 p o) k1 := by
  have oldF : ∀ b u, F1 b = some u → upd F1 p o b = some u := fun b u e => by
    rw [upd_ne fun z => by subst z; rw [fp] at e; cases e]; exact e
  refine ⟨⟨fun b u e => ?_, ?_⟩, fun b u e => oldF b u (s.ff b u e), s.keep, fun b e h => ?_, s.ks⟩
  · by_cases hb : b = p
    · subst hb; rw [upd_same] at e; rw [hp]; exact e
    · rw [upd_ne hb] at e; exact s.st.sub b u e
  · cases k1 with
    | none => trivial
    | some d =>
      obtain ⟨h1, h2, h3, h4⟩ := s.st.dk
      refine ⟨h1, h2, ?_, ?_⟩
      · rw [upd_ne fun z => dp (.inl z.symm)]; exact h3
      · rw [upd_ne fun z => dp (.inr z.symm)]; exact h4
  · have hb : b ≠ p := fun z => by subst z; exact h np
    rw [upd_ne hb]; exact s.new b e h
theorem same_frz {p : Addr} {o : HO} (fp : F p = none) : Same F (upd F p o) := fun b u e => by
  rw [upd_ne fun z => by subst z; rw [fp] at e; cases e]; exact e
end
def W0 : WX := fun _ _ _ _ => False
def noE {α : Type} : Out α → Out α
  | .err _ _ _ => .bad
  | o => o
@[simp] theorem noE_ok {α : Type} {a : α} {k : DkO} : noE (.ok a k) = .ok a k := rfl
@[simp] theorem noE_bad {α : Type} : noE (.bad : Out α) = .bad := rfl
@[simp] theorem noE_err {α : Type} {c : String} {fs : List (Str × D)} {k : DkO} : noE (.err c fs k : Out α) = .bad := rfl
theorem ask_noE {α : Type} {g : G} {W : WX} {σ σ' : L2.St} {H F : Hp} {k : DkO} {o : Out α} {Q : α → Hp → Hp → DkO → Prop} (h : Ask g W σ H F k (noE o) Q) : Ask g W0 σ' H F k o Q := by
  cases o with
  | ok a k' => exact h
  | err c fs k' => exact h.elim
  | bad => exact h
/-- a new list -/
def AskN (g : G) (W : WX) (σ : L2.St) (H F : Hp) (k : DkO) (o : Out (List D)) (Q : VK) : Prop :=
  Ask g W σ H F k o fun ds H' F' k' => ∀ p vs, H' p = some (.lst vs) → F' p = none → ¬ dkM g k' p → RepAll g F' vs ds → H p = none → Q (.ref p) H'
def PDN (X : Cx) (g : G) (xc : XC) (W : WX) (e : Expr) (f : Sm (List D)) : Prop :=
  PE X e fun σ H Q => ∃ F k env, Sta g H F k ∧ EnvOk g xc k σ H F env ∧ AskN g W σ H F k (f env k) Q
section
variable {X : Cx} {g : G} {xc : XC} {W : WX} {a b c e o tg iter elt : Expr} {es rest ifs : List Expr} {f h q fo : Sm D} {p p' : Sm Bool} {l lk its : Sm (List D)} {pos : Pos}
def sFrz (l : Sm (List D)) : Sm D := fun env k => (l env k).bind fun ds k1 => .ok (.lst ds) k1
/-- .. as a value -/
theorem pd_ofN (hh : PDN X g xc W e l) : PD X g xc W e (sFrz l) := by
  refine PE.imp hh fun σ H Q ⟨F, k, env, s, ok, q⟩ => ?_
  refine ⟨F, k, env, s, ok, ?_⟩
  unfold sFrz at q
  cases hl : l env k with
  | bad => rw [hl] at q; exact q.elim
  | err c fs k' => rw [hl] at q; exact q
  | ok ds k' =>
    rw [hl] at q
    intro H' F' st pp vs hp fp dp r np
    exact q H' _ (st.frz np fp dp hp) _ (.lst upd_same (r.same (same_frz fp)))
/-- [e, ..] as one's own list -/
def sNew (l : Sm (List D)) : Sm (List D) := fun env k => (l env k).bind fun ds k1 => if ds.length ≤ sizeLine then .ok ds k1 else .bad
theorem pdn_lst (hl : PDA X g xc W es l) : PDN X g xc W (.List es pos) (sNew l) := by
  refine PE.imp (pe_lst hl) fun σ H Q ⟨F, k, env, s, ok, q⟩ => ?_
  unfold AskN sNew at q
  cases hl : l env k with
  | bad => rw [hl] at q; exact q.elim
  | err c fs k' => rw [hl] at q; exact ⟨F, k, env, s, ok, by rw [hl]; exact q⟩
  | ok ds k' =>
    rw [hl] at q
    refine ⟨F, k, env, s, ok, ?_⟩
    rw [hl]
    intro H' F' st vs r
    change Ask g W σ H F k (if ds.length ≤ sizeLine then .ok ds k' else .bad) _ at q
    by_cases hz : ds.length ≤ sizeLine
    · rw [if_pos hz] at q
      refine ⟨by rw [r.length]; exact hz, fun p np => ?_⟩
      have nH : H p = none := by
        cases hq : H p with
        | none => rfl
        | some u =>
          by_cases hm : dkM g k p
          · exact absurd np (dk_none st.st.dk (st.ks.m.mpr hm)).2
          · rw [st.keep p u hm hq] at np; cases np
      have s2 := st.trans (Stp.hid (o := .lst vs) st.st np)
      have fp : F' p = none := by
        cases hq : F' p with
        | none => rfl
        | some u => rw [st.st.sub p u hq] at np; cases np
      exact q _ _ s2 p vs upd_same fp (dkM_ne st.st np) r nH
    · rw [if_neg hz] at q; exact q.elim

/-! ### comprehensions -/
def wipeE (env : List En) : List Nat → List En
  | [] => env
  | v :: vs => (wipeE env vs).set v .no
theorem EnvOk.wipe {k : DkO} {H F : Hp} {σ : L2.St} {env : List En} (ok : EnvOk g xc k σ H F env) : ∀ vs : List Nat, EnvOk g xc k (L2.wipe σ vs) H F (wipeE env vs)
  | [] => ok
  | v :: vs => by
    unfold L2.wipe wipeE
    exact (EnvOk.wipe ok vs).set (w := none) (e := .no) trivial
theorem wipe_wipe {σ : L2.St} {vs : List Nat} : L2.wipe (L2.wipe σ vs) vs = L2.wipe σ vs := by
  have key : ∀ (us : List Nat) (τ : L2.St), (∀ i ∈ us, i ∈ vs) → L2.wipe (L2.wipe τ us) vs = L2.wipe τ vs := by
    intro us
    induction us with
    | nil => intro τ _; rfl
    | cons u us ih =>
      intro τ hu
      show L2.wipe ((L2.wipe τ us).set u none) vs = _
      rw [wipe_set (hu u List.mem_cons_self), ih τ fun i hi => hu i (List.mem_cons_of_mem _ hi)]
  exact key vs σ fun _ h => h
def compM (tg : Tgt) (p : Sm Bool) (f : Sm D) (env0 : List En) : List D → List D → DkO → Out (List D)
  | [], acc, k => .ok acc k
  | d :: ds, acc, k => match tg.set d env0 with
    | none => .bad
    | some env1 => (noE (p env1 k)).bind fun b k1 => if b = true then (noE (f env1 k1)).bind fun y k2 => if acc.length < sizeLine then compM tg p f env0 ds (acc ++ [y]) k2 else .bad else compM tg p f env0 ds acc k1
def sComp (tg : Tgt) (vs : List Nat) (p : Sm Bool) (f : Sm D) (its : Sm (List D)) : Sm (List D) := fun env k => (its env k).bind fun ds k1 => compM tg p f (wipeE env vs) ds [] k1
/-- a comprehension's tests -/
def PDTs (X : Cx) (g : G) (xc : XC) (W : WX) (cs : List Expr) (p : Sm Bool) : Prop := PTs X cs (tDT g xc W p)
def sYes : Sm Bool := fun _ k => .ok true k
theorem pdts_nil : PDTs X g xc W [] sYes := by
  refine ⟨fun pins s σ H Q I hh => ?_⟩
  obtain ⟨F, k, env, st, ok, q⟩ := hh
  exact L2.pts_nil.run pins s σ H Q I (q H F (.refl st))
theorem pdts_one (hc : PDT X g xc W c p) : PDTs X g xc W [c] p := L2.pts_one hc
theorem compM_rd {J : It} {ds : List D} {t : Tgt} {vs : List Nat} {σ : L2.St} {H F : Hp} {k : DkO} {env : List En} {Dd : Addr} {Qd : Hp → Prop} {P : List D → Hp → Hp → DkO → Prop} (hv : ∀ i ∈ t.slots, i ∈ vs) (s : Sta g H F k) (ok : EnvOk g xc k σ H F env) (nD : H Dd = none) (w : DWalk g F J ds)
    (q : Ask g W σ H F k (compM t p f (wipeE env vs) ds [] k) P) (hd : ∀ acc H' F' k' us, Stp g H F k H' F' k' → H' Dd = some (.lst us) → F' Dd = none → ¬ dkM g k' Dd → RepAll g F' us acc → P acc H' F' k' → Qd H') :
    ∃ W : Nat → Nat → Hp → Prop, (∃ m, W 0 m (upd H Dd (.lst []))) ∧ ∀ i m H, W i m H →
      (J.stop i H ∧ Qd H) ∨ (J.go i H ∧ ∃ Nx : Hp → Prop, (∀ H', Nx H' → ∃ m', m' < m ∧ W (i + 1) m' H') ∧ ∀ x H', J.yld i H x H' → tgT g.K t x (L2.wipe σ vs) H' fun σ2 H2 => L2.wipe σ2 vs = L2.wipe σ vs ∧ tDT g xc W0 p σ2 H2 fun b H3 =>
        if b = true then tD g xc W0 f σ2 H3 fun y H4 => ∃ acc, H4 Dd = some (.lst acc) ∧ acc.length < sizeLine ∧ Nx (upd H4 Dd (.lst (acc ++ [y]))) else Nx H3) := by
  obtain ⟨GG, Y, wk, hG, hY⟩ := w
  have fD : F Dd = none := by
    cases hq : F Dd with
    | none => rfl
    | some u => rw [s.sub _ _ hq] at nD; cases nD
  refine lc_it wk (fun i H' => ∃ F' k' us acc, Stp g H F k H' F' k' ∧ H' Dd = some (.lst us) ∧ F' Dd = none ∧ ¬ dkM g k' Dd ∧ RepAll g F' us acc ∧ Ask g W σ H F k (compM t p f (wipeE env vs) (ds.drop i) acc k') P)
    ⟨F, k, [], [], Stp.hid s nD, upd_same, fD, dkM_ne s nD, .nil, by rw [List.drop_zero]; exact q⟩ (fun i H' _ z => ?_) (fun i x H1 H2 hi z y => ?_) (fun H' z => ?_)
  · obtain ⟨F', k', us, acc, st, _⟩ := z
    exact hG _ (st.ff.trans st.st.sub)
  · obtain ⟨F1, k1, us, acc, st, hD, fD1, dD, ru, q1⟩ := z
    obtain ⟨F2, d, st2, hd2, rd⟩ := hY i H1 F1 k1 x H2 st.st st.ff hi y
    have e1 : ds.drop i = d :: ds.drop (i + 1) := by
      have := List.getElem?_eq_some_iff.mp hd2
      obtain ⟨h1, h2⟩ := this
      rw [← h2]
      exact List.drop_eq_getElem_cons h1
    rw [e1] at q1
    unfold compM at q1
    have st12 := st.trans st2
    have ok2 : EnvOk g xc k1 (L2.wipe σ vs) H2 F2 (wipeE env vs) := (ok.step st12).wipe vs
    cases ht : t.set d (wipeE env vs) with
    | none => rw [ht] at q1; exact q1.elim
    | some env1 =>
      rw [ht] at q1
      simp only at q1
      refine tgT_ok st2.st.sub t x d _ _ env1 _ rd ht fun σ2 z2 => ⟨?_, ?_⟩
      · rw [(z2.mono (J := vs) hv).wipe, wipe_wipe]
      · have ok3 := z2.env ok2
        have D2 : H2 Dd = some (.lst us) := st2.keep _ _ dD hD
        have fD2 : F2 Dd = none := st2.new _ fD1 (by rw [hD]; exact fun z => by cases z)
        have q2 : Ask g W σ H2 F2 k1 ((noE (p env1 k1)).bind fun b k1 => if b = true then (noE (f env1 k1)).bind fun y k2 => if acc.length < sizeLine then compM t p f (wipeE env vs) (ds.drop (i + 1)) (acc ++ [y]) k2 else .bad else compM t p f (wipeE env vs) (ds.drop (i + 1)) acc k1) P := Ask.after q1 st12
        refine ⟨F2, k1, env1, st2.st, ok3, ask_noE (W := W) (σ := σ) ((Ask.bind q2).imp fun b H3 F3 k3 _ st3 q3 => ?_)⟩
        have D3 : H3 Dd = some (.lst us) := st3.keep _ _ dD D2
        have fD3 : F3 Dd = none := st3.new _ fD2 (by rw [D2]; exact fun z => by cases z)
        have dD3 : ¬ dkM g k3 Dd := fun z => dD (st3.ks.m.mp z)
        have st13 := st12.trans st3
        cases b with
        | false => 
          simp only [Bool.false_eq_true, if_false] at q3 ⊢
          refine ⟨F3, k3, us, acc, st13, D3, fD3, dD3, ru.same (st2.ff.trans st3.ff), ?_⟩
          have q4 : Ask g W σ H2 F2 k1 ((noE (p env1 k1)).bind fun b k1 => if b = true then (noE (f env1 k1)).bind fun y k2 => if acc.length < sizeLine then compM t p f (wipeE env vs) (ds.drop (i + 1)) (acc ++ [y]) k2 else .bad else compM t p f (wipeE env vs) (ds.drop (i + 1)) acc k1) P := q2
          rename_i hb
          rw [show noE (p env1 k1) = .ok false k3 from hb] at q1
          exact q1
        | true =>
          rename_i hb
          simp only [if_true] at q3 ⊢
          refine ⟨F3, k3, env1, st3.st, ok3.step st3, ask_noE (W := W) (σ := σ) ((Ask.bind q3).imp fun y H4 F4 k4 hy st4 q5 v rv => ?_)⟩
          have D4 : H4 Dd = some (.lst us) := st4.keep _ _ dD3 D3
          have fD4 : F4 Dd = none := st4.new _ fD3 (by rw [D3]; exact fun z => by cases z)
          have dD4 : ¬ dkM g k4 Dd := fun z => dD3 (st4.ks.m.mp z)
          have ru4 := ru.same ((st2.ff.trans st3.ff).trans st4.ff)
          rw [show noE (p env1 k1) = .ok true k3 from hb] at q1
          simp only [bind_ok, if_true] at q1
          rw [show noE (f env1 k3) = .ok y k4 from hy] at q1
          simp only [bind_ok] at q1
          by_cases hl : acc.length < sizeLine
          · rw [if_pos hl] at q1
            refine ⟨us, D4, by rw [ru.length]; exact hl, F4, k4, us ++ [v], acc ++ [y], (st13.trans st4).own nD fD4 dD4, upd_same, fD4, dD4, ru4.app (.cons rv .nil), q1⟩
          · rw [if_neg hl] at q1; exact q1.elim
  · obtain ⟨F', k', us, acc, st, h1, h2, h3, h4, h5⟩ := z
    rw [List.drop_length] at h5
    unfold compM at h5
    exact hd acc H' F' k' us st h1 h2 h3 h4 (h5 H' F' st)
/-- [elt for tg in iter if ..] -/
theorem pdn_lc {scope : Scope} {own : List (Str × Nat)} {t : Tgt} (hc : X.calm = true) (hN : X.N.Nodup) (hi : PDI X g xc W tg iter its) (ok : BlkOk X.N X.env.scope scope own) (hv : ∀ i ∈ t.slots, i ∈ own.map (·.2))
    (hg : ∀ (s : Shared) (H : Hp) (C : Addr) (cl : List (Str × Addr)) (fp : List Addr), PDG (X.blk s H scope (compEnvC scope cl C X.env) fp) g tg t) (ht : ∀ (s : Shared) (H : Hp) (C : Addr) (cl : List (Str × Addr)) (fp : List Addr), PDTs (X.blk s H scope (compEnvC scope cl C X.env) fp) g xc W0 ifs p)
    (he : ∀ (s : Shared) (H : Hp) (C : Addr) (cl : List (Str × Addr)) (fp : List Addr), PD (X.blk s H scope (compEnvC scope cl C X.env) fp) g xc W0 elt f) (hs : ∀ x, foldedSetIterable iter X.env x = pure x := by intro _; rfl) :
    PDN X g xc W (.ListComp elt [⟨tg, iter, ifs, 0⟩] scope pos) (sComp t (own.map (·.2)) p f its) := by
  refine PE.imp (pe_lc hc hN hi ok hg ht he hs) fun σ H Q ⟨F, k, env, s, eo, q⟩ => ?_
  refine ⟨F, k, env, s, eo, (Ask.bind q).imp fun ds H1 F1 k1 _ s1 q1 J hJ Dd nD => ?_⟩
  refine compM_rd hv s1.st (eo.step s1) nD hJ q1 fun acc H' F' k' us st h1 h2 h3 h4 hp => ?_
  refine hp Dd us h1 h2 h3 h4 ?_
  cases hq : H Dd with
  | none => rfl
  | some u =>
    by_cases hm : dkM g k Dd
    · exact absurd nD (dk_none s1.st.dk (s1.ks.m.mpr hm)).2
    · rw [s1.keep Dd u hm hq] at nD; cases nD
end
end DL
set_option Elab.async false
set_option linter.all false
set_option maxRecDepth 100000
set_option maxHeartbeats 4000000
/-! [::-1] of a list, a tuple, a text -/
namespace L2
open PySem PySem.Spec PyProof.Rows HT
theorem rev_range (n : Nat) : sliceRange ((n : Int) - 1) (-1) (-1) = (List.range n).reverse := by
  rw [PySem.W.krv_sliceRange, PySem.W.krv_range]
theorem rev_adjust (n : Nat) : Builtin.Slice.sliceAdjust none none (-1) (n : Int) = ((n : Int) - 1, -1) := by
  unfold Builtin.Slice.sliceAdjust
  simp
theorem rev_places (n : Nat) : Builtin.Slice.slicePlaces ((n : Int) - 1) (-1) (-1) = n := by
  unfold Builtin.Slice.slicePlaces
  have h1 : ¬ ((-1 : Int) > 0) := by decide
  simp only [h1, if_false]
  by_cases h : (n : Int) - 1 > -1
  · simp only [h, if_true]
    have e : ((n : Int) - 1 - -1 - 1) / (- -1) = (n : Int) - 1 := by
      rw [show (- -1 : Int) = 1 by decide, Int.ediv_one]; omega
    rw [e]; omega
  · simp only [h, if_false]
    have : n = 0 := by omega
    subst this; rfl
theorem rev_pick {α : Type} (xs : Array α) : ((List.range xs.size).filterMap fun (m : Nat) => xs[((xs.size : Int) - 1 + (m : Int) * (-1)).toNat]?) = xs.toList.reverse := by
  rw [← PySem.W.krv_all xs, ← List.filterMap_reverse, ← PySem.W.krv_range, List.filterMap_map]
  have congr : ∀ {β γ : Type} {f h : β → Option γ} {l : List β}, (∀ x ∈ l, f x = h x) → l.filterMap f = l.filterMap h := by
    intro β γ f h l hl
    induction l with
    | nil => rfl
    | cons a l ih => rw [List.filterMap_cons, List.filterMap_cons, hl a List.mem_cons_self, ih fun x hx => hl x (List.mem_cons_of_mem _ hx)]
  apply congr
  intro k hk
  have := List.mem_range.mp hk
  have e : ((xs.size : Int) - 1 + (k : Int) * (-1)).toNat = xs.size - 1 - k := by omega
  rw [e]; rfl
theorem slicePart_m1 {w : World} {prog : Program} {A : Around} {E : Value → Shared → Prop} {s : Shared} {v : Value} {o : Option Int} {Q : Option Int → Shared → Prop} (p : IsPart v o) (h : Q o s) : wpAny (model prog w) A (Builtin.Slice.slicePartIndex v) Q E s := slicePart_ p h
section
variable {prog : Program} {w : World} {A : Around} {E : Value → Shared → Prop} {s : Shared}
theorem getItem_tuple_rev {t sl : Addr} {items : Array Value} {vl vu vs : Value} {Q : Value → Shared → Prop} (ht : IsTup s.heap t items) (hs : s.heap.IsSliceOf sl vl vu vs) (pl : IsPart vl none) (pu : IsPart vu none) (ps : IsPart vs (some (-1)))
    (h : Q (.ref s.heap.objs.size) { s with heap := s.heap.push { cls := .type "tuple", data := .seq items.toList.reverse.toArray } })
    (hsz : items.size ≤ sizeLine) : wpAny (model prog w) A (getItem (.ref t) (.ref sl)) Q E s := by
  have htake : sizeOk (.seq items.toList.reverse.toArray) := by
    show items.toList.reverse.toArray.size ≤ sizeLine
    rw [List.size_toArray, List.length_reverse, Array.length_toList]
    omega
  obtain ⟨os, hos, hcs, hds⟩ := id hs
  have hTs : s.TypeIs (.ref sl) "slice" := ⟨os, hos, hcs⟩
  unfold getItem
  try with_reducible refine wpAny_holding ?_
  first | refine wpAny_bind (wpAny_pure ?_) | skip
  refine wpAny_bind (wpAny_sequenceKey ht.typeIs (by decide) ?_)
  refine wpAny_bind (wpAny_callSpecial?_slot (name := Str.ofString "__getitem__") ht.typeIs PyProof.Rows.slot_tuple_getitem
    (wpAny_call_entry PyProof.Rows.slot_tuple_getitem ht.typeIs entry_tuple_getitem ?_ (args_tuple_getitem _ _)))
  show wpAny _ _ (Builtin.Tuple.tupleItemsOf (.ref t) >>= _) _ _ s
  refine wpAny_bind (tupleItemsOf_ ht ?_)
  refine wpAny_bind (wpAny_typeOf hTs ?_)
  rw [if_pos (by decide)]
  have happ : ∀ {Q : Int × Int × Nat → Shared → Prop}, Q ((items.size : Int) - 1, -1, items.size) s → wpAny (model prog w) (A.under (.builtin "tuple.__getitem__" ⟨[.ref t, .ref sl], []⟩)) (Builtin.Slice.sliceApplied (.ref sl) (pure (items.size : Int))) Q E s → True := fun _ _ => trivial
  have happ2 : ∀ {B : Around} {Q : Int × Int × Nat → Shared → Prop} {E : Value → Shared → Prop}, Q ((items.size : Int) - 1, -1, items.size) s → wpAny (model prog w) B (Builtin.Slice.sliceApplied (.ref sl) (pure (items.size : Int))) Q E s := by
    intro B Q E h
    unfold Builtin.Slice.sliceApplied Builtin.Slice.sliceFields
    refine wpAny_bind (wpAny_bind (wpAny_field hos hds (x := vl) rfl (wpAny_bind (wpAny_field hos hds (x := vu) rfl (wpAny_bind (wpAny_field hos hds (x := vs) rfl (wpAny_pure ?_)))))))
    refine wpAny_bind (slicePart_m1 ps ?_)
    show wpAny _ _ (if ((-1 : Int) == 0) = true then _ else _) _ _ s
    rw [if_neg (by decide)]
    refine wpAny_bind (slicePart_m1 pl (wpAny_bind (slicePart_m1 pu (wpAny_bind (wpAny_pure ?_)))))
    show wpAny _ _ (match Builtin.Slice.sliceAdjust none none (-1) (items.size : Int) with | (lo, hi) => pure (lo, (-1 : Int), Builtin.Slice.slicePlaces lo hi (-1))) _ _ s
    rw [rev_adjust]
    show wpAny _ _ (pure ((items.size : Int) - 1, (-1 : Int), Builtin.Slice.slicePlaces ((items.size : Int) - 1) (-1) (-1))) _ _ s
    rw [rev_places]
    exact wpAny_pure h
  refine wpAny_bind (happ2 ?_)
  show wpAny _ _ (if ((items.size : Int) - 1 == 0 && (-1 : Int) == 1 && items.size == items.size) = true then _ else _) _ _ s
  rw [if_neg (by simp), rev_pick]
  first
    | exact wpAny_bind (m := Builtin.Tuple.tupleExact _) (wpAny_newObj_type (wpAny_pure ⟨_, rfl, wpAny_pure h⟩) htake)
    | exact wpAny_bind (m := Builtin.Tuple.tupleExact _) (wpAny_newObj_type (wpAny_bind (wpAny_pure (wpAny_pure ⟨_, rfl, wpAny_pure h⟩))) htake)
    | exact wpAny_bind (wpAny_bind (m := Builtin.Tuple.tupleExact _) (wpAny_newObj_type (wpAny_pure (wpAny_pure ⟨_, rfl, wpAny_pure h⟩)) htake))
    | exact wpAny_bind (wpAny_bind (m := Builtin.Tuple.tupleExact _) (wpAny_newObj_type (wpAny_pure ⟨_, rfl, wpAny_pure h⟩) htake))
end
/-- a text from behind -/
def revS (x : Str) : Str := ⟨x.cps.toList.reverse.toArray⟩
theorem revS_pick (x : Str) : (Builtin.Str.strSliceIndices none none (-1) x.length).filterMap (x.cps[·]?) = x.cps.toList.reverse := by
  have e : Builtin.Str.strSliceIndices none none (-1) x.length = sliceRange ((x.length : Int) - 1) (-1) (-1) := by
    unfold Builtin.Str.strSliceIndices
    simp
  rw [e, rev_range, List.filterMap_reverse]
  have := PySem.W.krv_all x.cps
  show ((List.range x.cps.size).filterMap fun i => x.cps[i]?).reverse = _
  rw [this]
section
variable {X : Cx}
def tRevT (K : PySem.W.Frag) (te : TE) : TE := fun σ H Q => te σ H fun v H1 => ∃ a xs, v = .ref a ∧ SqT K H1 a xs ∧ ∀ p, H1 p = none → Q (.ref p) (upd H1 p (.tup xs.reverse))
theorem pe_revT {e : Expr} {te : TE} {k : Nat} {p1 p2 p3 pos : Pos} (he : PE X e te) : PE X (.Subscript e (.Slice none none (some (.UnaryOp .USub (.Constant (.int 1) k p1) p2)) p3) pos) (tRevT X.K te) := by
  refine ⟨fun pins s σ H Q I h => ?_⟩
  refine Subscript_ (thn (he.run pins s σ H _ I h) fun v s1 ⟨x, H1, I1, r1, q1⟩ => ?_)
  obtain ⟨a, xs, ex, hx, q⟩ := q1
  subst ex
  cases r1
  have hst : PO X (some (.UnaryOp .USub (.Constant (.int 1) k p1) p2)) (tPart (tUn (rU fun i => .int (-i)) (tC (.int 1)))) := po_some (pe_un un_neg pe_int)
  refine wpAny_Slice (thn (po_none.run pins s1 σ H1 (fun o H2 => o = none ∧ H2 = H1) I1 ⟨rfl, rfl⟩) fun vl s2 ⟨l, H2, I2, pl, el, e2⟩ => ?_)
  subst el e2
  refine thn (po_none.run pins s2 σ H2 (fun o H3 => o = none ∧ H3 = H2) I2 ⟨rfl, rfl⟩) fun vu s3 ⟨u, H3, I3, pu, eu, e3⟩ => ?_
  subst eu e3
  refine thn (hst.run pins s3 σ H3 (fun o H4 => o = some (-1) ∧ H4 = H3) I3 ⟨1, rfl, -1, rfl, rfl, rfl⟩) fun vs s4 ⟨o, H4, I4, ps, eo, e4⟩ => ?_
  subst eo e4
  have I5 : Inv X pins σ H4 { s4 with heap := s4.heap.push { cls := .type "slice", data := .fields #[vl, vu, vs] } } := I4.kept (t' := s4.toks) fun b ob q => Heap.get?_push_of_some _ q
  obtain ⟨its, r, ht, hz⟩ := I5.tuple hx
  have hlen := r.length
  show wpAny (model X.prog X.w) X.A (subscriptTail e (.Slice none none (some (.UnaryOp .USub (.Constant (.int 1) k p1) p2)) p3) (.ref a) (.ref s4.heap.objs.size)) (EP X pins σ Q) X.xe { s4 with heap := s4.heap.push { cls := .type "slice", data := .fields #[vl, vu, vs] } }
  refine tail_any (ops := [.ref a, .ref s4.heap.objs.size]) ht.typeIs (PyProof.Rows.slot_tuple_getitem.lookup) ?_ (by with_unfolding_all rfl)
  refine getItem_tuple_rev ht (Heap.IsSliceOf.new _ vl vu vs) pl pu ps ?_ (by rw [List.size_toArray]; omega)
  refine ⟨.ref _, _, I5.laid (t' := s4.toks) (o := .tup xs.reverse) (fun b ob q => Heap.get?_push_of_some _ q) (Nat.le_refl _) ?_, rfl, q _ (I5.hok.fresh (Nat.le_refl _))⟩
  exact ⟨by rw [List.length_reverse]; exact hz, its.reverse, r.reverse, IsTup.new _ _⟩
def tRevS (te : TE) : TE := fun σ H Q => te σ H fun v H1 => ∃ x, v = .str x ∧ x.length ≤ sizeLine ∧ Q (.str (revS x)) H1
theorem pe_revS {e : Expr} {te : TE} {k : Nat} {p1 p2 p3 pos : Pos} (he : PE X e te) : PE X (.Subscript e (.Slice none none (some (.UnaryOp .USub (.Constant (.int 1) k p1) p2)) p3) pos) (tRevS te) := by
  refine ⟨fun pins s σ H Q I h => ?_⟩
  refine Subscript_ (thn (he.run pins s σ H _ I h) fun v s1 ⟨x, H1, I1, r1, q1⟩ => ?_)
  obtain ⟨z, ex, hz, q⟩ := q1
  subst ex
  obtain ⟨t, rfl⟩ := r1
  have hst : PO X (some (.UnaryOp .USub (.Constant (.int 1) k p1) p2)) (tPart (tUn (rU fun i => .int (-i)) (tC (.int 1)))) := po_some (pe_un un_neg pe_int)
  refine wpAny_Slice (thn (po_none.run pins s1 σ H1 (fun o H2 => o = none ∧ H2 = H1) I1 ⟨rfl, rfl⟩) fun vl s2 ⟨l, H2, I2, pl, el, e2⟩ => ?_)
  subst el e2
  refine thn (po_none.run pins s2 σ H2 (fun o H3 => o = none ∧ H3 = H2) I2 ⟨rfl, rfl⟩) fun vu s3 ⟨u, H3, I3, pu, eu, e3⟩ => ?_
  subst eu e3
  refine thn (hst.run pins s3 σ H3 (fun o H4 => o = some (-1) ∧ H4 = H3) I3 ⟨1, rfl, -1, rfl, rfl, rfl⟩) fun vs s4 ⟨o, H4, I4, ps, eo, e4⟩ => ?_
  subst eo e4
  have I5 : Inv X pins σ H4 { s4 with heap := s4.heap.push { cls := .type "slice", data := .fields #[vl, vu, vs] } } := I4.kept (t' := s4.toks) fun b ob q => Heap.get?_push_of_some _ q
  show wpAny (model X.prog X.w) X.A (subscriptTail e (.Slice none none (some (.UnaryOp .USub (.Constant (.int 1) k p1) p2)) p3) (.str z t) (.ref s4.heap.objs.size)) (EP X pins σ Q) X.xe { s4 with heap := s4.heap.push { cls := .type "slice", data := .fields #[vl, vu, vs] } }
  refine tail_any (ops := [.str z t, .ref s4.heap.objs.size]) (typeIs_str _ _ _) (F.slot_str_getitem.lookup) ?_ (by with_unfolding_all rfl)
  cases pl
  cases pu
  cases ps with
  | int _ tk =>
    refine wpAny_getItem_str_slice (l := none) (u := none) (st := some (-1, tk)) ⟨_, Heap.get?_push_size _ rfl, rfl, rfl⟩ rfl ?_
    unfold sliceMade slicePicked
    show Made.post (if ((-1 : Int) == 1 && _) = true then Made.val (.str z t) else Made.str ⟨((Builtin.Str.strSliceIndices none none (-1) z.length).filterMap (z.cps[·]?)).toArray⟩) (EP X pins σ Q) _
    rw [if_neg (by simp), revS_pick]
    refine ⟨?_, .str (revS z), H4, I5.tok _, ⟨_, rfl⟩, q⟩
    show z.cps.toList.reverse.toArray.size ≤ sizeLine
    rw [List.size_toArray, List.length_reverse, Array.length_toList]
    exact hz
/-- list(text): its signs -/
theorem call_listS (hc : X.calm = true) : CallR X (.type "list") (fun xs H Q => ∃ x, xs = [.str x] ∧ x.length ≤ sizeLine ∧ ∀ q, H q = none → Q (.ref q) (upd H q (.lst (x.cps.toList.map fun c => V.str ⟨#[c]⟩)))) := by
  intro pins s σ H xs us Q I r h
  obtain ⟨x, rfl, hz, q⟩ := h
  obtain ⟨u, rfl, t, rfl⟩ := vals1 r
  refine call_list_str (I.ok.hd hc) x t (fun h' tk acc' c' hkeep hS hacc => ?_) hz
  refine ⟨.ref s.heap.objs.size, _, I.laid (t' := tk) (o := .lst (x.cps.toList.map fun c => V.str ⟨#[c]⟩)) hkeep (Nat.le_refl _) ⟨?_, acc'.toList, c', ?_, ?_⟩, rfl, q _ (I.hok.fresh (Nat.le_refl _))⟩
  · rw [List.length_map, Array.length_toList]; exact hz
  · refine vals_of_at (by simp [hacc.1]) fun j y w h1 h2 => ?_
    obtain ⟨c, u, e1, rfl⟩ := hacc.2 j w (by rw [← Array.getElem?_toList]; exact h2)
    have e1' : x.cps.toList[j]? = some c := by simpa using e1
    rw [List.getElem?_map, e1'] at h1
    cases h1
    exact ⟨u, rfl⟩
  · rw [Array.toArray_toList]; exact hS
end
end L2
set_option Elab.async false
set_option linter.all false
set_option maxRecDepth 100000
set_option maxHeartbeats 4000000
/-! list(..), [::-1], own classes -/
namespace DL
open PySem PySem.Spec L2
open PySem.W (Frag)
section
variable {X : Cx} {g : G} {xc : XC} {W : WX} {a b c e o tg iter elt : Expr} {es rest ifs : List Expr} {f h q fo ff : Sm D} {p p' : Sm Bool} {l lk its : Sm (List D)} {pos : Pos}
theorem PE.or {t t' : TE} (h : PE X e t) (h' : PE X e t') : PE X e (fun σ H Q => t σ H Q ∨ t' σ H Q) := ⟨fun pins s σ H Q I q => q.elim (h.run pins s σ H Q I) (h'.run pins s σ H Q I)⟩
theorem tD_thenS {α : Type} {σ : L2.St} {H F : Hp} {k : DkO} {env : List En} {f : Sm D} {R : D → DkO → Out α} {Qa : α → Hp → Hp → DkO → Prop} (s : Sta g H F k) (ok : EnvOk g xc k σ H F env)
    (h0 : Ask g W σ H F k ((f env k).bind R) Qa) {Q2 : VK}
    (hn : ∀ v d H1 F1 k1, Stp g H F k H1 F1 k1 → EnvOk g xc k1 σ H1 F1 env → Rep g F1 v d → Ask g W σ H1 F1 k1 (R d k1) Qa → Q2 v H1) : tD g xc W f σ H Q2 :=
  ⟨F, k, env, s, ok, (Ask.bind h0).imp fun d H1 F1 k1 _ s1 q v r => hn v d H1 F1 k1 s1 (ok.step s1) r q⟩
theorem tDA_thenS {α : Type} {σ : L2.St} {H F : Hp} {k : DkO} {env : List En} {l : Sm (List D)} {R : List D → DkO → Out α} {Qa : α → Hp → Hp → DkO → Prop} (s : Sta g H F k) (ok : EnvOk g xc k σ H F env)
    (h0 : Ask g W σ H F k ((l env k).bind R) Qa) {Q2 : List V → Hp → Prop}
    (hn : ∀ vs ds H1 F1 k1, Stp g H F k H1 F1 k1 → EnvOk g xc k1 σ H1 F1 env → RepAll g F1 vs ds → Ask g W σ H1 F1 k1 (R ds k1) Qa → Q2 vs H1) : tDA g xc W l σ H Q2 :=
  ⟨F, k, env, s, ok, (Ask.bind h0).imp fun ds H1 F1 k1 _ s1 q vs r => hn vs ds H1 F1 k1 s1 (ok.step s1) r q⟩
theorem rep_signs {F : Hp} {x : Str} (hx : SOk x) : RepAll g F (x.cps.toList.map fun c => V.str ⟨#[c]⟩) (signsD x) := by
  have key : ∀ l : List Nat, (∀ c ∈ l, c ∈ x.cps.toList) → RepAll g F (l.map fun c => V.str ⟨#[c]⟩) (l.map fun c => D.str ⟨#[c]⟩) := by
    intro l
    induction l with
    | nil => intro _; exact .nil
    | cons c l ih => intro hl; exact .cons (.str (sign_ok hx (hl c List.mem_cons_self))) (ih fun y hy => hl y (List.mem_cons_of_mem _ hy))
  exact key _ fun _ h => h
theorem none_back {H F H1 F1 : Hp} {k k1 : DkO} {p : Addr} (st : Stp g H F k H1 F1 k1) (np : H1 p = none) : H p = none := by
  cases hq : H p with
  | none => rfl
  | some u =>
    by_cases hm : dkM g k p
    · exact absurd np (dk_none st.st.dk (st.ks.m.mpr hm)).2
    · rw [st.keep p u hm hq] at np; cases np
theorem none_sub {H F : Hp} {k : DkO} {p : Addr} (s : Sta g H F k) (np : H p = none) : F p = none := by
  cases hq : F p with
  | none => rfl
  | some u => rw [s.sub _ _ hq] at np; cases np
/-- list(e) -/
theorem pdn_list {x : Str} {p2 : Pos} (hK : X.K = g.K) (hc : X.calm = true) (hg : Gl X x) (hm : X.mg x = none) (hv : bootBuiltins x = some (.type "list")) (ha : PD X g xc W e f) (hn : x ≠ "__name__" := by decide) (hdb : (x == ("__debug__" : Str)) = false := by decide)
    (he : starEach [e] X.env = (false, eval e X.env) :: starEach [] X.env := by rfl) (hpl : (backTo pos (starEach [] X.env)).any (·.1) = false := by rfl) : PDN X g xc W (.Call (.Name x p2) [e] [] pos) (iVal f) := by
  refine PE.imp (pe_callTy (CallR.or call_list_of (call_listS hc)) hg hm hv (pa_cons ha pa_nil he) hn hdb he hpl) fun σ H Q ⟨F, k, env, s, ok, q⟩ => ?_
  refine tD_thenS (R := fun d k1 => .of (itemsOf d) k1) s ok q fun v d H1 F1 k1 s1 ok1 r q1 => ?_
  have fin : ∀ (ds : List D) (vs : List V), itemsOf d = some ds → RepAll g F1 vs ds → ∀ pp, H1 pp = none → Q (.ref pp) (upd H1 pp (.lst vs)) := fun ds vs e rs pp np => by
    rw [e] at q1
    exact q1 _ _ (Stp.hid s1.st np) pp vs upd_same (none_sub s1.st np) (dkM_ne s1.st np) rs (none_back s1 np)
  cases d with
  | lst ds =>
    obtain ⟨y, vs, rfl, h1, r1⟩ := repLst r
    exact .inl ⟨y, vs, rfl, .inl (SqL.of (s1.st.sub _ _ h1)), fin ds vs rfl r1⟩
  | tup ds =>
    obtain ⟨y, vs, rfl, h1, r1⟩ := repTup r
    exact .inl ⟨y, vs, rfl, .inr (by rw [hK]; exact s1.st.sub.seqT h1), fin ds vs rfl r1⟩
  | str x =>
    obtain ⟨rfl, hx⟩ := repStr r
    exact .inr ⟨x, rfl, hx.1, fin _ _ rfl (rep_signs hx)⟩
  | _ => exact q1.elim
/-- e[::-1] -/
def revD : D → Option D
  | .lst ds => some (.lst ds.reverse)
  | .tup ds => some (.tup ds.reverse)
  | .str x => some (.str (revS x))
  | _ => none
theorem rev_ok {x : Str} (h : SOk x) : SOk (revS x) := by
  refine ⟨?_, strOk_sub h.2 fun c hc => ?_⟩
  · show x.cps.toList.reverse.toArray.size ≤ sizeLine
    rw [List.size_toArray, List.length_reverse, Array.length_toList]; exact h.1
  · have hc' : c ∈ x.cps.toList.reverse := hc
    exact List.mem_reverse.mp hc'
def sRev (f : Sm D) : Sm D := fun env k => (f env k).bind fun d k1 => .of (revD d) k1
theorem pd_rev {kk : Nat} {p1 p2 p3 : Pos} (hK : X.K = g.K) (ha : PD X g xc W e f) : PD X g xc W (.Subscript e (.Slice none none (some (.UnaryOp .USub (.Constant (.int 1) kk p1) p2)) p3) pos) (sRev f) := by
  refine PE.imp (PE.or (pe_revL ha) (PE.or (pe_revT ha) (pe_revS ha))) fun σ H Q ⟨F, k, env, s, ok, q⟩ => ?_
  unfold sRev at q
  cases hf : f env k with
  | bad => rw [hf] at q; exact q.elim
  | err c fs k1 =>
    rw [hf] at q
    exact .inl ⟨F, k, env, s, ok, by rw [hf]; exact q⟩
  | ok d k1 =>
    rw [hf] at q
    cases d with
    | lst ds =>
      refine .inl ⟨F, k, env, s, ok, by
        rw [hf]
        intro H' F' st v r
        obtain ⟨y, vs, rfl, h1, r1⟩ := repLst r
        refine ⟨y, vs, rfl, SqL.of (st.st.sub _ _ h1), fun pp np => ?_⟩
        have s2 := Stp.laid (o := .lst vs.reverse) st.st np
        exact q _ _ (st.trans s2) _ (.lst upd_same (r1.rev.same s2.ff))⟩
    | tup ds =>
      refine .inr (.inl ⟨F, k, env, s, ok, by
        rw [hf]
        intro H' F' st v r
        obtain ⟨y, vs, rfl, h1, r1⟩ := repTup r
        refine ⟨y, vs, rfl, by rw [hK]; exact st.st.sub.seqT h1, fun pp np => ?_⟩
        have s2 := Stp.laid (o := .tup vs.reverse) st.st np
        exact q _ _ (st.trans s2) _ (.tup (SqT.of upd_same) (r1.rev.same s2.ff))⟩)
    | str x =>
      refine .inr (.inr ⟨F, k, env, s, ok, by
        rw [hf]
        intro H' F' st v r
        obtain ⟨rfl, hx⟩ := repStr r
        exact ⟨x, rfl, hx.1, q _ _ st _ (.str (rev_ok hx))⟩⟩)
    | _ => exact q.elim

/-! ### own classes -/
/-- no other own class comes from it -/
def SubNo (g : G) (c : String) : Prop := ∀ c', c' ∈ g.own → c' ≠ c → PySem.W.mroIn g.K (g.cl c') (.ref (g.cl c)) = some false
theorem notFirst_of (hO : OwnAll g) {c : String} (hc : c ∈ g.own) (hn : SubNo g c) {d : D} {F : Hp} {v : V} (hl : d.isCls = false) (r : Rep g F v d) : PySem.W.notFirst g.K (g.cl c) (if d.isObj = true then .ref (g.cl (tyN d)) else .type (tyN d)) = true := by
  have tyq : ∀ n, n ∈ ["NoneType", "bool", "int", "str", "list", "tuple", "dict"] → PySem.W.notFirst g.K (g.cl c) (.type n) = true := fun n hn => by
    unfold PySem.W.notFirst
    have z : PySem.W.subIn g.K (.type n) (.ref (g.cl c)) = some false := mro_ty n hn _
    rw [z]; simp
  cases r with
  | obj hc' h r =>
    rename_i a dx c' fs ds
    show PySem.W.notFirst g.K (g.cl c) (.ref (g.cl c')) = true
    unfold PySem.W.notFirst
    by_cases e : c' = c
    · subst e; simp
    · have z : PySem.W.subIn g.K (.ref (g.cl c')) (.ref (g.cl c)) = some false := hn c' hc' e
      rw [z]; simp
  | non => exact tyq "NoneType" (by decide)
  | bl _ => exact tyq "bool" (by decide)
  | int _ => exact tyq "int" (by decide)
  | str _ => exact tyq "str" (by decide)
  | lst _ _ => exact tyq "list" (by decide)
  | tup _ _ => exact tyq "tuple" (by decide)
  | dct _ _ => exact tyq "dict" (by decide)
  | dk => exact tyq "dict" (by decide)
  | cls _ => cases hl
  | shw _ => cases hl
def sIsC (cn : String) (f : Sm D) : Sm D := fun env k => (f env k).bind fun d k1 => match d with
  | .dk => .bad
  | .cls _ => .bad
  | .shw _ => .bad
  | d => .ok (.bl (isCl cn d)) k1
/-- isinstance(e, C) -/
theorem pd_isiC {cn : String} {x : Str} {p2 p3 : Pos} (hK : X.K = g.K) (hO : OwnAll g) (hcn : cn ∈ g.own) (hsn : SubNo g cn) (hC : PE X (.Name x p3) (tC (.ref (g.cl cn)))) (hg : Gl X "isinstance") (hm : X.mg "isinstance" = none) (ha : PD X g xc W e f)
    (he1 : starEach [e, .Name x p3] X.env = (false, eval e X.env) :: starEach [.Name x p3] X.env := by rfl)
    (hpl : (backTo pos (starEach [.Name x p3] X.env)).any (·.1) = false := by rfl) : PD X g xc W (.Call (.Name "isinstance" p2) [e, .Name x p3] [] pos) (sIsC cn f) := by
  refine PE.imp (pe_callB call_isi hg hm (by decide +kernel) (pa_cons ha (pa_cons hC pa_nil) he1) (by decide) (by decide) he1 hpl) fun σ H Q ⟨F, k, env, s, ok, q⟩ => ?_
  refine tD_then' s ok q fun v d H1 F1 k1 s1 ok1 ff1 r q1 => ?_
  have hd : d ≠ .dk := fun z => by subst z; exact q1.elim
  have hl : d.isCls = false := by
    cases d <;> first | rfl | exact q1.elim
  have q2 : Ask g W σ H1 F1 k1 (.ok (.bl (isCl cn d)) k1) fun d H' F' k' => ∀ v, Rep g F' v d → Q v H' := by
    cases d <;> first | exact q1 | exact absurd rfl hd | cases hl
  obtain ⟨t, ht, et⟩ := ty_of hO s1 (fun z => absurd z hd) hl r
  refine ⟨v, .ref (g.cl cn), t, .ref (g.cl cn), isCl cn d, rfl, .own _, by rw [hK]; exact ht, by rw [hK, et]; exact kit_own hO hl r hcn hsn, q2 _ _ (.refl s1) _ (.bl _)⟩
theorem askF_noE {α : Type} {E : XK} {σ : L2.St} {H F : Hp} {k : DkO} {o : Out α} {Q : α → Hp → Hp → DkO → Prop} (h : Ask g W σ H F k (noE o) Q) : AskF g E H F k o Q := by
  cases o with
  | ok a k' => exact h
  | err c fs k' => exact h.elim
  | bad => exact h
section
variable {kk : Nat} {fa C : Addr} {fd : FuncData} {ps ks : List Str} {n : Nat} {fn : Fn} {cn : String}
/-- a special method of one's own, called alone -/
def ownO (cn : String) (fn : Fn) (C : D → Bool) : List D → DkO → Out D := fun ds k => match ds with
  | [.obj c' fs] => if c' = cn then (noE (fn [.obj c' fs] k)).bind fun d k1 => if C d = true then .ok d k1 else .bad else .bad
  | _ => .bad
def lenC : D → Bool
  | .int i => decide (0 ≤ i) && decide (i < 4611686018427387904)
  | _ => false
def strC : D → Bool
  | .str _ => true
  | _ => false
theorem ownO_case {cn : String} {fn : Fn} {C : D → Bool} {ds : List D} {σ : L2.St} {H F : Hp} {k : DkO} {Q : D → Hp → Hp → DkO → Prop} (q : Ask g W σ H F k (ownO cn fn C ds k) Q) :
    ∃ fs, ds = [.obj cn fs] ∧ Ask g W σ H F k (noE (fn [.obj cn fs] k)) fun d H1 F1 k1 => C d = true ∧ Q d H1 F1 k1 := by
  unfold ownO at q
  split at q
  · split at q
    · rename_i c' fs e
      subst e
      refine ⟨fs, rfl, (Ask.bind q).imp fun d H1 F1 k1 _ s1 q1 => ?_⟩
      by_cases hC : C d = true
      · rw [if_pos hC] at q1; exact ⟨hC, q1 _ _ (.refl s1.st)⟩
      · rw [if_neg hC] at q1; exact q1.elim
    · exact q.elim
  · exact q.elim
theorem callo_lenOwn (hK : X.K = g.K) (Fm : FnG X.prog X.w X.K X.mg X.base kk fa fd ps (SpD g 1 fn)) (hr : Room (kk + 1) X.A) (hgd : X.A.guards = some []) (hb : Binds X.K fd ps []) (hs : PySem.W.findIn X.K (.ref (g.cl cn)) "__len__" = some (some (.ref fa))) (hf : PySem.W.isFn X.K (.ref fa) = true) :
    CallO X g (.builtin "len") (ownO cn fn lenC) := by
  refine ⟨_, call_lenOwn Fm hr hgd hb hs hf, fun W σ H F k xs ds Q s rs q => ?_⟩
  obtain ⟨fs, rfl, q1⟩ := ownO_case q
  obtain ⟨v, rfl, r⟩ := rep1 rs
  obtain ⟨y, dx, ws, rfl, hc, h1, rf⟩ := repObj r
  refine ⟨y, dx, ws, rfl, s.sub _ _ h1, rfl, F, k, [.obj cn fs], s, .cons r .nil, askF_noE (q1.imp fun d H1 F1 k1 _ s1 z v rv => ?_)⟩
  obtain ⟨z1, z2⟩ := z
  cases d with
  | int i =>
    simp only [lenC, Bool.and_eq_true, decide_eq_true_eq] at z1
    rw [repInt rv]
    refine ⟨i.toNat, by rw [Int.toNat_of_nonneg z1.1], by omega, ?_⟩
    rw [Int.toNat_of_nonneg z1.1]
    exact z2 _ (.int _)
  | _ => simp [lenC] at z1
theorem callo_strOwn (hK : X.K = g.K) (Fm : FnG X.prog X.w X.K X.mg X.base kk fa fd ps (SpD g 1 fn)) (hr : Room (kk + 2) X.A) (hgd : X.A.guards = some []) (hb : Binds X.K fd ps []) (hs : PySem.W.findIn X.K (.ref (g.cl cn)) "__str__" = some (some (.ref fa))) (hf : PySem.W.isFn X.K (.ref fa) = true) :
    CallO X g (.type "str") (ownO cn fn strC) := by
  refine ⟨_, call_strOwn Fm hr hgd hb hs hf, fun W σ H F k xs ds Q s rs q => ?_⟩
  obtain ⟨fs, rfl, q1⟩ := ownO_case q
  obtain ⟨v, rfl, r⟩ := rep1 rs
  obtain ⟨y, dx, ws, rfl, hc, h1, rf⟩ := repObj r
  refine ⟨y, dx, ws, rfl, s.sub _ _ h1, rfl, F, k, [.obj cn fs], s, .cons r .nil, askF_noE (q1.imp fun d H1 F1 k1 _ s1 z v rv => ?_)⟩
  obtain ⟨z1, z2⟩ := z
  cases d with
  | str x => rw [(repStr rv).1]; exact ⟨x, rfl, z2 _ (by rw [← (repStr rv).1]; exact rv)⟩
  | _ => simp [strC] at z1

/-! ### operators that may run an own def -/
def OpO (X : Cx) (g : G) (f : Value → Value → Sem Value) (op : D → D → DkO → Out D) : Prop :=
  ∃ r : R2, OpR X f r ∧ ∀ (W : WX) (σ : L2.St) H F k x y a b Q, Sta g H F k → Rep g F x a → Rep g F y b → Ask g W σ H F k (op a b k) (fun d H' F' k' => ∀ v, Rep g F' v d → Q v H') → r x y H Q
def pureOp (o : D → D → Option D) : D → D → DkO → Out D := fun a b k => .of (o a b) k
theorem OpD.toO {f : Value → Value → Sem Value} {o : D → D → Option D} (h : OpD X g f o) : OpO X g f (pureOp o) := by
  obtain ⟨r, h1, h2⟩ := h
  exact ⟨r, h1, fun W σ H F k x y a b Q s ra rb q => op_ask h2 s ra rb q⟩
def orOp (o o' : D → D → DkO → Out D) : D → D → DkO → Out D := fun a b k => match o a b k with
  | .bad => o' a b k
  | r => r
theorem OpO.or {f : Value → Value → Sem Value} {o o' : D → D → DkO → Out D} (h : OpO X g f o) (h' : OpO X g f o') : OpO X g f (orOp o o') := by
  obtain ⟨r, h1, h2⟩ := h
  obtain ⟨r', h1', h2'⟩ := h'
  refine ⟨_, OpR.or h1 h1', fun W σ H F k x y a b Q s ra rb q => ?_⟩
  unfold orOp at q
  cases e : o a b k with
  | bad => rw [e] at q; exact .inr (h2' W σ H F k x y a b Q s ra rb q)
  | ok d k' => rw [e] at q; exact .inl (h2 W σ H F k x y a b Q s ra rb (by rw [e]; exact q))
  | err c fs k' => rw [e] at q; exact .inl (h2 W σ H F k x y a b Q s ra rb (by rw [e]; exact q))
def D.isDk : D → Bool
  | .dk => true
  | _ => false
def ownEq (cn : String) (fn : Fn) (w : Bool → Bool) : D → D → DkO → Out D := fun a b k => match a with
  | .obj c' fs => if c' = cn ∧ b.isCls = false ∧ b.isDk = false then (noE (fn [.obj c' fs, b] k)).bind fun d k1 => match d with | .bl z => .ok (.bl (w z)) k1 | _ => .bad else .bad
  | _ => .bad
theorem ownEq_case {w : Bool → Bool} {a b : D} {σ : L2.St} {H F : Hp} {k : DkO} {Q : D → Hp → Hp → DkO → Prop} (q : Ask g W σ H F k (ownEq cn fn w a b k) Q) :
    ∃ fs, a = .obj cn fs ∧ b.isCls = false ∧ b ≠ .dk ∧ Ask g W σ H F k (noE (fn [.obj cn fs, b] k)) fun d H1 F1 k1 => ∃ z, d = .bl z ∧ Q (.bl (w z)) H1 F1 k1 := by
  unfold ownEq at q
  split at q
  · split at q
    · rename_i c' fs e
      obtain ⟨e1, e2, e3⟩ := e
      subst e1
      refine ⟨fs, rfl, e2, (fun z => by subst z; cases e3), (Ask.bind q).imp fun d H1 F1 k1 _ s1 q1 => ?_⟩
      cases d with
      | bl z => exact ⟨z, rfl, q1 _ _ (.refl s1.st)⟩
      | _ => exact q1.elim
    · exact q.elim
  · exact q.elim
theorem opo_own_ {op : CmpOp} {w : Bool → Bool} (hK : X.K = g.K) (hO : OwnAll g) (hcn : cn ∈ g.own) (hsn : SubNo g cn) (ho : OpR X (compareOp op) (rOwnCmp X.K (g.cl cn) (SpD g 2 fn) w)) : OpO X g (compareOp op) (ownEq cn fn w) := by
  refine ⟨_, ho, fun W σ H F k x y a b Q s ra rb q => ?_⟩
  obtain ⟨fs, rfl, e2, e3, q1⟩ := ownEq_case q
  obtain ⟨yy, dx, ws, rfl, hc, h1, rf⟩ := repObj ra
  obtain ⟨t, ht, et⟩ := ty_of hO s (fun z => absurd z e3) e2 rb
  refine ⟨yy, dx, ws, t, rfl, s.sub _ _ h1, by rw [hK]; exact ht, by rw [hK, et]; exact notFirst_of hO hcn hsn e2 rb, rfl, F, k, [.obj cn fs, b], s, .cons ra (.cons rb .nil), askF_noE (q1.imp fun d H1 F1 k1 _ s1 z v rv => ?_)⟩
  obtain ⟨z, rfl, z2⟩ := z
  exact ⟨z, repBl rv, z2 _ (.bl _)⟩
theorem opo_eqOwn (hK : X.K = g.K) (hO : OwnAll g) (hcn : cn ∈ g.own) (hsn : SubNo g cn) (Fm : FnG X.prog X.w X.K X.mg X.base kk fa fd ps (SpD g 2 fn)) (hr : Room kk X.A) (hgd : X.A.guards = some []) (hb : Binds X.K fd ps []) (hs : PySem.W.findIn X.K (.ref (g.cl cn)) "__eq__" = some (some (.ref fa))) (hf : PySem.W.isFn X.K (.ref fa) = true) :
    OpO X g (compareOp .Eq) (ownEq cn fn fun b => b) := opo_own_ hK hO hcn hsn (op_eqOwn Fm hr hgd hb hs hf)
theorem opo_neOwn (hK : X.K = g.K) (hO : OwnAll g) (hcn : cn ∈ g.own) (hsn : SubNo g cn) (Fm : FnG X.prog X.w X.K X.mg X.base kk fa fd ps (SpD g 2 fn)) (hr : Room (kk + 1) X.A) (hgd : X.A.guards = some []) (hb : Binds X.K fd ps []) (hn : PySem.W.findIn X.K (.ref (g.cl cn)) "__ne__" = some (some (.builtin "object.__ne__"))) (hs : PySem.W.findIn X.K (.ref (g.cl cn)) "__eq__" = some (some (.ref fa))) (hf : PySem.W.isFn X.K (.ref fa) = true)
    (ho : PySem.W.subIn X.K (.ref (g.cl cn)) (.type "object") = some true) : OpO X g (compareOp .NotEq) (ownEq cn fn fun b => !b) := opo_own_ hK hO hcn hsn (op_neOwn Fm hr hgd hb hn hs hf ho)
def sOpO (o : D → D → DkO → Out D) (f h : Sm D) : Sm D := fun env k => (f env k).bind fun x k1 => (h env k1).bind fun y k2 => o x y k2
theorem pd_cmpO {op : CmpOp} {o : D → D → DkO → Out D} (ho : OpO X g (compareOp op) o) (ha : PD X g xc W a f) (hb : PD X g xc W b h) (hm : behindInMarks op b = false) : PD X g xc W (.Compare a [op] [b] pos) (sOpO o f h) := by
  obtain ⟨r, h1, h2⟩ := ho
  refine PE.imp (pe_cmpR h1 ha hb hm) fun σ H Q ⟨F, k, env, s, ok, q⟩ => ?_
  refine tD_then' s ok q fun x da H1 F1 k1 s1 ok1 ff1 rx q1 => ?_
  refine tD_then' (R := fun y k2 => o da y k2) s1 ok1 q1 fun y db H2 F2 k2 s2 ok2 ff2 ry q2 => ?_
  exact h2 W σ H2 F2 k2 x y da db Q s2 (rx.same ff2) ry q2
theorem pdt_cmpO {op : CmpOp} {o : D → D → DkO → Out D} (ho : OpO X g (compareOp op) o) (ha : PD X g xc W a f) (hb : PD X g xc W b h) (hm : behindInMarks op b = false) : PDT X g xc W (.Compare a [op] [b] pos) (sB (sOpO o f h)) := by
  obtain ⟨r, h1, h2⟩ := ho
  refine PT.imp (pt_cmpR h1 ha hb hm) fun σ H Q ⟨F, k, env, s, ok, q⟩ => ?_
  have q' : Ask g W σ H F k ((f env k).bind fun x k1 => (h env k1).bind fun y k2 => (o x y k2).bind fun d k3 => match d with | .bl b => .ok b k3 | _ => .bad) fun b H' F' k' => Q b H' := by
    have e : sB (sOpO o f h) env k = (f env k).bind fun x k1 => (h env k1).bind fun y k2 => (o x y k2).bind fun d k3 => match d with | .bl b => .ok b k3 | _ => .bad := by
      unfold sB sOpO
      cases f env k with
      | ok x k1 => simp only [bind_ok]; cases h env k1 <;> rfl
      | err c fs k1 => rfl
      | bad => rfl
    rw [← e]; exact q
  refine tD_then' s ok q' fun x da H1 F1 k1 s1 ok1 ff1 rx q1 => ?_
  refine tD_then' s1 ok1 q1 fun y db H2 F2 k2 s2 ok2 ff2 ry q2 => ?_
  refine h2 W σ H2 F2 k2 x y da db _ s2 (rx.same ff2) ry ((Ask.bind q2).imp fun d H3 F3 k3 _ s3 q3 v rv => ?_)
  cases d with
  | bl b => rw [repBl rv]; exact ⟨b, rfl, q3 _ _ (.refl s3.st)⟩
  | _ => exact q3.elim

/-! ### making -/
/-- the fields that an __init__ gives -/
abbrev FnI := List D → DkO → Out (List (Str × D))
def rem (H : Hp) (x : Addr) : Hp := fun b => if b = x then none else H b
theorem rem_same {H : Hp} {x : Addr} : rem H x x = none := if_pos rfl
theorem rem_ne {H : Hp} {x b : Addr} (h : b ≠ x) : rem H x b = H b := if_neg h
/-- an __init__'s promise -/
def SpI (g : G) (cn : String) (n : Nat) (fn : FnI) : Sp := fun vs H Q E => vs.length = n + 1 ∧ ∃ x dx ws F k ds, vs = .ref x :: ws ∧ H x = some (.ins (g.cl cn) dx []) ∧ Sta g (rem H x) F k ∧ ¬ dkM g k x ∧ RepAll g F ws ds ∧
  AskF g E (rem H x) F k (fn ds k) fun fs H' F' k' => ∀ dx' fv, H' x = some (.ins (g.cl cn) dx' fv) → F' x = none → RepFs g F' fv fs → Q .non H'
def sMake (cn : String) (n : Nat) (fn : FnI) (l : Sm (List D)) : Sm D := fun env k => (l env k).bind fun ds k1 => if ds.length = n then (fn ds k1).bind fun fs k2 => .ok (.obj cn fs) k2 else .bad
theorem make_rd {fn : FnI} {σ : L2.St} {H F : Hp} {k : DkO} {ds : List D} {ws : List V} {Q : VK} {x dx : Addr} (hO : OwnAll g) (hcn : cn ∈ g.own) (s : Sta g H F k) (r : RepAll g F ws ds) (hn : ds.length = n) (hx : H x = none) (hd : H dx = none) (hne : dx ≠ x)
    (q : Ask g W σ H F k ((fn : FnI) ds k |>.bind fun fs k2 => .ok (.obj cn fs) k2) fun d H' F' k' => ∀ v, Rep g F' v d → Q v H') :
    SpI g cn n fn (.ref x :: ws) (upd (upd H dx (.own x)) x (.ins (g.cl cn) dx [])) (fun v H3 => v = .non ∧ Q (.ref x) H3) (WE W σ) := by
  have e : rem (upd (upd H dx (.own x)) x (.ins (g.cl cn) dx [])) x = upd H dx (.own x) := by
    funext b
    by_cases hb : b = x
    · subst hb; rw [rem_same, upd_ne (Ne.symm hne)]; exact hx.symm
    · rw [rem_ne hb, upd_ne hb]
  have s1 : Stp g H F k (upd H dx (.own x)) F k := Stp.hid s hd
  refine ⟨by rw [List.length_cons, r.length, hn], x, dx, ws, F, k, ds, rfl, upd_same, by rw [e]; exact s1.st, dkM_ne s hx, r, ?_⟩
  rw [e]
  refine AskF.of (σ := σ) (Ask.after ?_ s1)
  cases hf : fn ds k with
  | bad => rw [hf] at q; exact q.elim
  | err c fs k' => rw [hf] at q; exact q
  | ok fs k' =>
    rw [hf] at q
    intro H' F' st dx2 fv h1 h2 h3
    refine ⟨rfl, ?_⟩
    have dx' : ¬ dkM g k' x := fun z => dkM_ne s hx (st.ks.m.mp z)
    exact q H' _ (st.frz hx h2 dx' h1) _ (.obj hcn upd_same (h3.same (same_frz h2)))
/-- a class by its name -/
theorem pd_globC {x : Str} (hC : PE X (.Name x pos) (tC (.ref (g.cl cn)))) : PD X g xc W (.Name x pos) (sC (.cls cn)) := pd_const hC fun _ => .cls _
def sOfC (cn : String) (ff : Sm D) (r : Sm D) : Sm D := fun env k => (ff env k).bind fun d k1 => match d with
  | .cls c' => if c' = cn then r env k1 else .bad
  | _ => .bad
theorem repCls {F : Hp} {v : V} {cn : String} (h : Rep g F v (.cls cn)) : v = .ref (g.cl cn) := by cases h; rfl
theorem ofC_rd {r : Sm D} {σ : L2.St} {H F : Hp} {k : DkO} {env : List En} {Q : VK} {Q2 : VK} (s : Sta g H F k) (ok : EnvOk g xc k σ H F env) (q : Ask g W σ H F k (sOfC cn ff r env k) fun d H' F' k' => ∀ v, Rep g F' v d → Q v H')
    (hn : ∀ H1 F1 k1, Sta g H1 F1 k1 → EnvOk g xc k1 σ H1 F1 env → Ask g W σ H1 F1 k1 (r env k1) (fun d H' F' k' => ∀ v, Rep g F' v d → Q v H') → Q2 (.ref (g.cl cn)) H1) : tD g xc W ff σ H Q2 := by
  refine tD_then' s ok q fun v d H1 F1 k1 s1 ok1 ff1 rv q1 => ?_
  cases d with
  | cls c' =>
    change Ask g W σ H1 F1 k1 (if c' = cn then r env k1 else .bad) _ at q1
    by_cases e : c' = cn
    · rw [if_pos e] at q1
      subst e
      rw [repCls rv]
      exact hn _ _ _ s1 ok1 q1
    · rw [if_neg e] at q1; exact q1.elim
  | _ => exact q1.elim
theorem kb_of {K : Frag} {fd : FuncData} {ps : List Str} (hb : Binds K fd ps []) : KBinds K fd ps [] (fun us _ => us) (fun vs _ => vs) :=
  ⟨fun s us ws hk hl => by have := hb s us hk (by rw [List.append_nil]; exact hl); rw [List.append_nil] at this; exact this, fun r _ => r⟩
/-- C(e, ..) -/
theorem pd_make {fn : FnI} {x : Str} {p2 : Pos} {f2 : Addr} (hK : X.K = g.K) (hO : OwnAll g) (hcn : cn ∈ g.own) (M : Mk X.K (g.cl cn) f2) (Fm : FnG X.prog X.w X.K X.mg X.base kk f2 fd ps (SpI g cn n fn)) (hr : Room (kk + 1) X.A) (hgd : X.A.guards = some []) (hb : Binds X.K fd ps []) (tk : Takes X W)
    (hf : PD X g xc W (.Name x p2) ff) (ha : PDA X g xc W (e :: es) l)
    (he : starEach (e :: es) X.env = (false, eval e X.env) :: starEach es X.env := by rfl) (hpl : (backTo pos (starEach es X.env)).any (·.1) = false := by rfl) :
    PD X g xc W (.Call (.Name x p2) (e :: es) [] pos) (sOfC cn ff (sMake cn n fn l)) := by
  refine PE.imp (pe_makeG M Fm hr hgd (kb_of hb) (fun σ => passAt tk σ) hf ha he hpl) fun σ H Q ⟨F, k, env, s, ok, q⟩ => ?_
  refine ofC_rd s ok q fun H0 F0 k0 s0 ok0 q0 => ⟨rfl, ?_⟩
  refine tDA_then s0 ok0 q0 fun vs ds H1 F1 k1 s1 ok1 ff1 r q1 => ?_
  by_cases hn : ds.length = n
  · rw [if_pos hn] at q1
    exact fun x dx hx hd hne => make_rd hO hcn s1 r hn hx hd hne q1
  · rw [if_neg hn] at q1; exact q1.elim
/-- values of the names alone, in another order -/
def ordK {α : Type} (j : Nat) (ix : List Nat) (ws : List α) : List α := if ws.length = j then ix.filterMap fun i => ws[i]? else []
theorem ord_one {α : Type} {v : α} {j : Nat} {ix : List Nat} {ws : List α} (h : ws.length = j) : ord 1 j (0 :: ix.map (· + 1)) [v] ws = v :: ordK j ix ws := by
  unfold ord ordK
  rw [if_pos ⟨rfl, h⟩, if_pos h, List.filterMap_cons]
  show v :: _ = _
  rw [List.filterMap_map]
  rfl
theorem rep_ordK {F : Hp} {j : Nat} {ix : List Nat} {zs : List V} {ws : List D} (rz : RepAll g F zs ws) : RepAll g F (ordK j ix zs) (ordK j ix ws) := by
  unfold ordK
  rw [rz.length]
  split
  · exact rep_pick rz ix
  · exact .nil
def sOrdK (j : Nat) (ix : List Nat) (lk : Sm (List D)) : Sm (List D) := fun env k => (lk env k).bind fun ds k1 => if ds.length = j then .ok (ordK j ix ds) k1 else .bad
/-- C(k = v, ..) -/
theorem pd_makeK0 {fn : FnI} {x : Str} {p2 : Pos} {f2 : Addr} {kws : List Keyword} {j : Nat} {ix : List Nat} (hK : X.K = g.K) (hO : OwnAll g) (hcn : cn ∈ g.own) (M : Mk X.K (g.cl cn) f2) (Fm : FnG X.prog X.w X.K X.mg X.base kk f2 fd ps (SpI g cn n fn)) (hr : Room (kk + 1) X.A) (hgd : X.A.guards = some [])
    (hb : KBinds X.K fd ps ks (ord 1 j (0 :: ix.map (· + 1))) (ord 1 j (0 :: ix.map (· + 1)))) (tk : Takes X W)
    (hf : PD X g xc W (.Name x p2) ff) (hkw : PDK X g xc W kws lk)
    (hall : (backToKw pos (keywordEach kws X.env)).all (·.1.isSome) = true := by rfl) (hks : (backToKw pos (keywordEach kws X.env)).filterMap (·.1) = ks := by rfl)
    (hpl : ((backTo pos (starEach [] X.env)).any (·.1) || (backToKw pos (keywordEach kws X.env)).any (·.1.isNone)) = false := by rfl) :
    PD X g xc W (.Call (.Name x p2) [] kws pos) (sOfC cn ff (sMake cn n fn (sOrdK j ix lk))) := by
  refine PE.imp (pe_makeK0G M Fm hr hgd hb (fun σ => passAt tk σ) hf hkw hall hks hpl) fun σ H Q ⟨F, k, env, s, ok, q⟩ => ?_
  refine ofC_rd s ok q fun H0 F0 k0 s0 ok0 q0 => ⟨rfl, ?_⟩
  have q1 : Ask g W σ H0 F0 k0 ((lk env k0).bind fun ds k1 => if ds.length = j then (if (ordK j ix ds).length = n then (fn (ordK j ix ds) k1).bind fun fs k2 => .ok (.obj cn fs) k2 else .bad) else .bad) fun d H' F' k' => ∀ v, Rep g F' v d → Q v H' := by
    unfold sMake sOrdK at q0
    cases hlk : lk env k0 with
    | bad => rw [hlk] at q0; exact q0
    | err c fs k1 => rw [hlk] at q0; exact q0
    | ok ds k1 =>
      rw [hlk] at q0
      simp only [bind_ok] at q0 ⊢
      by_cases hj : ds.length = j
      · rw [if_pos hj] at q0 ⊢; exact q0
      · rw [if_neg hj] at q0 ⊢; exact q0
  refine tDA_then s0 ok0 q1 fun vs ds H1 F1 k1 s1 ok1 ff1 r q2 => ?_
  by_cases hj : ds.length = j
  · rw [if_pos hj] at q2
    by_cases hn : (ordK j ix ds).length = n
    · rw [if_pos hn] at q2
      intro x dx hx hd hne
      show SpI g cn n fn (ord 1 j (0 :: ix.map (· + 1)) [.ref x] vs) _ _ _
      rw [ord_one (by rw [r.length]; exact hj)]
      exact make_rd hO hcn s1 (rep_ordK r) hn hx hd hne q2
    · rw [if_neg hn] at q2; exact q2.elim
  · rw [if_neg hj] at q2; exact q2.elim

/-! ### classmethods -/
def sCM (cn : String) (n : Nat) (fn : Fn) (fo : Sm D) (l : Sm (List D)) : Sm D := sOfC cn fo fun env k => (l env k).bind fun ds k1 => if ds.length + 1 = n then fn (.cls cn :: ds) k1 else .bad
theorem pd_cmeth {m : Str} {apos : Pos} {pl : Sem Bool} {mc : Value} {p1 g1 : Addr} (hK : X.K = g.K) (r : ClX.CRead X.K (g.cl cn) mc) (c : ClX.CMet X.K (g.cl cn) mc m p1 g1) (Fm : FnG X.prog X.w X.K X.mg X.base kk g1 fd ps (SpD g n fn)) (hr : Room kk X.A) (hgd : X.A.guards = some []) (hb : Binds X.K fd ps []) (tk : Takes X W)
    (ho : PD X g xc W o fo) (ha : PDA X g xc W (e :: es) l)
    (hst : starEach (e :: es) X.env = (false, eval e X.env) :: starEach es X.env := by rfl) (hpl : (backTo pos (starEach es X.env)).any (·.1) = false := by rfl)
    (ht : eval (.Call (.Attribute o m apos) (e :: es) [] pos) X.env = (do
      let ov ← eval o X.env
      standAt apos.atName
      let (f, first) ← holding [ov] (getMethod ov m pl)
      callWith pos f first (backTo pos (starEach (e :: es) X.env)) (backToKw pos (keywordEach [] X.env))) := by rfl) : PD X g xc W (.Call (.Attribute o m apos) (e :: es) [] pos) (sCM cn n fn fo l) := by
  refine PE.imp (pe_cmethG (pl := pl) ho r c Fm hr hgd (kb_of hb) (fun σ => passAt tk σ) ha hst hpl ht) fun σ H Q ⟨F, k, env, s, ok, q⟩ => ?_
  refine ofC_rd s ok q fun H0 F0 k0 s0 ok0 q0 => ⟨rfl, ?_⟩
  refine tDA_then s0 ok0 q0 fun vs ds H1 F1 k1 s1 ok1 ff1 r q1 => ?_
  by_cases hn : ds.length + 1 = n
  · rw [if_pos hn] at q1
    exact ⟨by rw [List.length_cons, r.length]; exact hn, F1, k1, _, s1, .cons (.cls _) r, .of q1⟩
  · rw [if_neg hn] at q1; exact q1.elim
theorem pd_cmethK0 {m : Str} {apos : Pos} {pl : Sem Bool} {mc : Value} {p1 g1 : Addr} {kws : List Keyword} {j : Nat} {ix : List Nat} (hK : X.K = g.K) (r : ClX.CRead X.K (g.cl cn) mc) (c : ClX.CMet X.K (g.cl cn) mc m p1 g1) (Fm : FnG X.prog X.w X.K X.mg X.base kk g1 fd ps (SpD g n fn)) (hr : Room kk X.A) (hgd : X.A.guards = some [])
    (hb : KBinds X.K fd ps ks (ord 1 j (0 :: ix.map (· + 1))) (ord 1 j (0 :: ix.map (· + 1)))) (tk : Takes X W)
    (ho : PD X g xc W o fo) (hkw : PDK X g xc W kws lk)
    (hall : (backToKw pos (keywordEach kws X.env)).all (·.1.isSome) = true := by rfl) (hks : (backToKw pos (keywordEach kws X.env)).filterMap (·.1) = ks := by rfl)
    (hpl : ((backTo pos (starEach [] X.env)).any (·.1) || (backToKw pos (keywordEach kws X.env)).any (·.1.isNone)) = false := by rfl)
    (ht : eval (.Call (.Attribute o m apos) [] kws pos) X.env = (do
      let ov ← eval o X.env
      standAt apos.atName
      let (f, first) ← holding [ov] (getMethod ov m pl)
      callWith pos f first (backTo pos (starEach [] X.env)) (backToKw pos (keywordEach kws X.env))) := by rfl) : PD X g xc W (.Call (.Attribute o m apos) [] kws pos) (sCM cn n fn fo (sOrdK j ix lk)) := by
  refine PE.imp (pe_cmethK0G (pl := pl) ho r c Fm hr hgd hb (fun σ => passAt tk σ) hkw hall hks hpl ht) fun σ H Q ⟨F, k, env, s, ok, q⟩ => ?_
  refine ofC_rd s ok q fun H0 F0 k0 s0 ok0 q0 => ⟨rfl, ?_⟩
  have q1 : Ask g W σ H0 F0 k0 ((lk env k0).bind fun ds k1 => if ds.length = j then (if (ordK j ix ds).length + 1 = n then fn (.cls cn :: ordK j ix ds) k1 else .bad) else .bad) fun d H' F' k' => ∀ v, Rep g F' v d → Q v H' := by
    unfold sOrdK at q0
    cases hlk : lk env k0 with
    | bad => rw [hlk] at q0; exact q0
    | err c fs k1 => rw [hlk] at q0; exact q0
    | ok ds k1 =>
      rw [hlk] at q0
      simp only [bind_ok] at q0 ⊢
      by_cases hj : ds.length = j
      · rw [if_pos hj] at q0 ⊢; exact q0
      · rw [if_neg hj] at q0 ⊢; exact q0
  refine tDA_then s0 ok0 q1 fun vs ds H1 F1 k1 s1 ok1 ff1 r q2 => ?_
  by_cases hj : ds.length = j
  · rw [if_pos hj] at q2
    by_cases hn : (ordK j ix ds).length + 1 = n
    · rw [if_pos hn] at q2
      show SpD g n fn (ord 1 j (0 :: ix.map (· + 1)) [.ref (g.cl cn)] vs) _ _ _
      rw [ord_one (by rw [r.length]; exact hj)]
      exact ⟨by rw [List.length_cons, (rep_ordK r).length]; exact hn, F1, k1, _, s1, .cons (.cls _) (rep_ordK r), .of q2⟩
    · rw [if_neg hn] at q2; exact q2.elim
  · rw [if_neg hj] at q2; exact q2.elim
end
end
end DL
set_option Elab.async false
set_option linter.all false
set_option maxRecDepth 100000
set_option maxHeartbeats 4000000
namespace PySem
namespace XBadText
open PySem.W PySem.Calls PyProof.Rows PySem.HandSPX PySem.Lw
def iA (p1 p2 : Pos) : Arguments := { posonlyargs := [], args := [{ arg := "self", annotation := none, pos := p1 }, { arg := "line", annotation := none, pos := p2 }], vararg := none, kwonlyargs := [], kw_defaults := [], kwarg := none, defaults := [] }
def iB (q1 q2 q3 q4 : Pos) : List Stmt := [.Assign [.Attribute (.Name "self" q1) "line" q2] (.Name "line" q3) q4]
def iS : Scope := { kind := .function, names := [(PySem.Str.ofString "self", .local), (PySem.Str.ofString "line", .local)], isGenerator := false, isCoroutine := false, more := [] }
/-- what the written part says of the class at C and of its __init__ at fI -/
structure Txt (K : Frag) (mg : Str → Option Value) (C fI : Addr) : Prop where
  gC : mg "BadText" = some (.ref C)
  ini : excInitIn K C exTail "Exception.__new__" = true
  ovr : excOver K C exTail = true
  sa : findIn K (.ref C) "__setattr__" = some (some (.builtin "object.__setattr__"))
  ga : findIn K (.ref C) "__getattribute__" = some (some (.builtin "BaseException.__getattribute__"))
  gg : findIn K (.ref C) "__getattr__" = some none
  noN : findIn K (.ref C) "line" = some none
  tkr : takerIn K C "line" = some none
  iC : findIn K (.ref C) "__init__" = some (some (.ref fI))
  tI : typeIn K (.ref fI) = some (.type "function")
  kC : keepIn K (.ref C) = true
  exC : subIn K (.ref C) (.type "BaseException") = some true
  tyC : typeIn K (.ref C) = some (.type "type")
  hdC : hasDictIn K C = true
  fn : ∃ (oc : Value) (od : Option Addr) (doc pm : Value) (an : Option Addr) (cdv ct : Value) (osl : Array (Option Value)) (p1 p2 q1 q2 q3 q4 : Pos),
    K.lookup fI = some ⟨oc, od, .func (fnOf "__init__" "BadText.__init__" (iA p1 p2) (iB q1 q2 q3 q4) iS .none .none doc pm an cdv ct), osl⟩ ∧ codeIn K cdv "BadText.__init__" = true
section
variable {prog : Program} {w : World} {A : Around} {E : Value → Shared → Prop} {R : Result → Shared → Prop} {s : Shared} {K : Frag} {mg : Str → Option Value} {C fI : Addr}
theorem init_ok (T : Txt K mg C fI) {x t0 : Addr} {v : Value} (X : K.In s.heap) (hlim : s.heap.NoLimit) (hx : s.heap.get? x = some (excO C t0)) (hroom : A.depth < recursionLimit)
    (hq : ∀ h' tk dx, InitEnd "line" s.heap h' x C dx t0 v → R (.ok (.ret .none)) { s with heap := h', toks := tk }) :
    codeAny (model prog w) A (.call (.ref fI) ⟨[.ref x, v], []⟩) R s := by
  obtain ⟨oc, od, doc, pm, an, cdv, ct, osl, p1, p2, q1, q2, q3, q4, ho, hcd⟩ := T.fn
  refine Att.call_fn (binds := [("self", .ref x), ("line", v)]) X hlim ho hcd hroom (BindsTo.of_eq (by first | rfl | with_unfolding_all rfl)) (by first | rfl | decide | with_unfolding_all rfl) (fun s1 IC => ?_) rfl rfl rfl
  obtain ⟨h1, tk1, rfl⟩ := IC.toInCall.same
  have k : ∀ b o, s.heap.get? b = some o → h1.get? b = some o := IC.toInCall.keep
  have hn := IC.toInCall.ns
  have X1 : K.In h1 := X.keeps k
  have hx1 := k _ _ hx
  show wpAny _ _ (execs _ _) _ _ _
  refine wpAny_execs_cons (plainObj_wpAny_Assign_Attribute ?_)
  refine ldC (v := v) hn (by first | rfl | with_unfolding_all rfl | kernel_rfl) (ldC (v := .ref x) hn (by first | rfl | with_unfolding_all rfl | kernel_rfl) ?_)
  refine set_plain X1 (ox := excO C t0) (od := none) ⟨hx1, rfl, rfl, trivial⟩ T.sa ?_
  refine store_first X1 T.ovr T.hdC T.tkr hx1 (fun h3 tk3 dx k3 dn dne hx3 hn3 => ?_)
  show wpAny _ _ (execs _ _) _ _ _
  have z : s.heap.objs.size < h1.objs.size := hn.lt
  exact wpAny_execs_nil (hq h3 tk3 dx ⟨fun b o hb e => k3 b o hb (k b o e), hx3, Nat.le_of_lt (Nat.lt_of_lt_of_le z dn), dne, hn3⟩)
theorem made_ok (T : Txt K mg C fI) {v : Value} (X : K.In s.heap) (hlim : s.heap.NoLimit) (hroom : A.depth + 1 < recursionLimit)
    (hq : ∀ h' tk e d, OwnMade "line" s.heap h' e C d v → R (.ok (.ret (.ref e))) { s with heap := h', toks := tk }) :
    codeAny (model prog w) A (.call (.ref C) ⟨[v], []⟩) R s := by
  obtain ⟨nm, N, qn, bs, bm, hdct, sn, sub, ab, col, dd, k0, k1, k2, k3, k5, hC, hbm⟩ := excInit_of X T.ini
  obtain ⟨hp, g, dr, tk, os⟩ := s
  refine call_own PySem.F.excBase_Exception hbm hC (looks_findIn X T.iC) (fun self => bind_fn X self T.tI) (one_size v) ?_
  have k : ∀ b o, hp.get? b = some o → ((hp.push (kdv_tup [v])).push (excO C hp.objs.size)).get? b = some o := fun b o e => Heap.get?_push_of_some _ (Heap.get?_push_of_some _ e)
  have hget : ((hp.push (kdv_tup [v])).push (excO C hp.objs.size)).get? (hp.objs.size + 1) = some (excO C hp.objs.size) := by heap_get
  refine init_ok (s := ⟨(hp.push (kdv_tup [v])).push (excO C hp.objs.size), g, dr, tk, os⟩) T (X.keeps k) (hlim.keeps k) hget ?_ fun h' tk' dx I => ?_
  · show A.depth + 1 < recursionLimit
    exact hroom
  · exact ⟨rfl, hq h' tk' (hp.objs.size + 1) dx (OwnMade.of I k)⟩
end
end XBadText
end PySem
namespace L2
open PySem PySem.Spec PyProof.Rows
section
variable {X : Cx} {C fI : Addr}
theorem pmk_BadText {a : Expr} {ta : TA} {p pos : Pos} {k : Nat} (T : PySem.XBadText.Txt X.K X.mg C fI) (hr : Room k X.A) (ha : PA X [a] ta) (hg : Gl X "BadText" := by rfl)
    (he : starEach (a :: []) X.env = (false, eval a X.env) :: starEach [] X.env := by rfl) (hpl : (backTo pos (starEach [] X.env)).any (·.1) = false := by rfl) :
    PMk X (.Call (.Name "BadText" p) [a] [] pos) (tMk1 "line" C ta) := by
  intro pins s σ H Q I h
  refine wpAny_Call_Name_kw (ld_glob I hg T.gC ?_)
  refine PySem.W.callWith_K (h₀ := X.base) I.ok.mod.kin T.kC (thn (ha.run pos pins s σ H _ I h) fun us s1 hh => ?_) he hpl
  obtain ⟨vs, H1, I1, r1, v, ev, q1⟩ := hh
  subst ev
  refine ⟨I1.kIn, ?_⟩
  cases r1 with
  | cons rv rn =>
    rename_i v' us'
    cases rn
    show wpAny _ _ (call (.ref C) [v']) _ _ _
    have hlim := I1.nolimit
    obtain ⟨hp, g, dr, tk, os⟩ := s1
    refine wpAny_call (PySem.XBadText.made_ok T I1.kIn hlim (by have := hr.dp; omega) fun h' tk' e d M => ?_)
    exact mk1_of I1 (raises_own T.exC T.tyC) rv M q1
theorem ps_raiseBadText {a : Expr} {ta : TA} {W : WX} {p pos pos2 : Pos} {k : Nat} (hc : X.calm = true) (T : PySem.XBadText.Txt X.K X.mg C fI) (hr : Room k X.A) (tk : Takes X W) (ha : PA X [a] ta) (hg : Gl X "BadText" := by rfl)
    (he : starEach (a :: []) X.env = (false, eval a X.env) :: starEach [] X.env := by rfl) (hpl : (backTo pos (starEach [] X.env)).any (·.1) = false := by rfl) :
    PS X (.Raise (some (.Call (.Name "BadText" p) [a] [] pos)) none pos2) (tRaise1 "line" C W ta) := ps_raise hc tk (pmk_BadText T hr ha hg he hpl)
theorem xfc_BadText {K : PySem.W.Frag} {mg : Str → Option Value} (T : PySem.XBadText.Txt K mg C fI) : XfC K C := ⟨T.ga, T.gg, T.exC, T.hdC⟩
end
end L2
set_option Elab.async false
set_option linter.all false
set_option maxRecDepth 100000
set_option maxHeartbeats 4000000
/-! statements -/
namespace DL
open PySem PySem.Spec L2
open PySem.W (Frag)
inductive OutS where
  | nx (env : List En) (k : DkO)
  | rt (d : D) (k : DkO)
  | bk (env : List En) (k : DkO)
  | ct (env : List En) (k : DkO)
  | err (c : String) (fs : List (Str × D)) (env : List En) (k : DkO)
  | bad
abbrev Ss := List En → DkO → OutS
/-- one's own objects: new since H0, each in one slot -/
structure Own (H0 : Hp) (σ : L2.St) (env : List En) : Prop where
  new : ∀ (i : Nat) (e : En), env[i]? = some e → e.isOwn = true → ∃ p, σ[i]? = some (some (.ref p)) ∧ H0 p = none
  dis : ∀ (i j : Nat) (e e' : En) (p : Addr), env[i]? = some e → e.isOwn = true → env[j]? = some e' → e'.isOwn = true → σ[i]? = some (some (.ref p)) → σ[j]? = some (some (.ref p)) → i = j
section
variable {g : G} {xc : XC} {H0 F0 H F H1 F1 : Hp} {k0 k k1 : DkO} {σ : L2.St} {env : List En} {W : WX} {D : Ends}
theorem set_get {α : Type} {l : List α} {i j : Nat} {x y : α} (h : (l.set i x)[j]? = some y) : (j = i ∧ y = x ∧ i < l.length) ∨ (j ≠ i ∧ l[j]? = some y) := by
  by_cases hj : j = i
  · subst hj
    by_cases hl : j < l.length
    · rw [List.getElem?_set_self hl] at h; cases h; exact .inl ⟨rfl, rfl, hl⟩
    · rw [List.getElem?_eq_none (by simpa using hl)] at h; cases h
  · rw [List.getElem?_set_ne (Ne.symm hj)] at h; exact .inr ⟨hj, h⟩
/-- a slot that is no more one's own -/
theorem Own.set_d {i : Nat} {w : Option V} {e : En} (o : Own H0 σ env) (he : e.isOwn = false) : Own H0 (σ.set i w) (env.set i e) := by
  have key : ∀ (j : Nat) (e' : En), (env.set i e)[j]? = some e' → e'.isOwn = true → j ≠ i ∧ env[j]? = some e' := fun j e' h ho => by
    rcases set_get h with ⟨_, rfl, _⟩ | z
    · rw [he] at ho; cases ho
    · exact z
  refine ⟨fun j e' h ho => ?_, fun j l e1 e2 p h1 o1 h2 o2 s1 s2 => ?_⟩
  · obtain ⟨hj, h'⟩ := key j e' h ho
    rw [List.getElem?_set_ne (Ne.symm hj)]
    exact o.new j e' h' ho
  · obtain ⟨hj, h1'⟩ := key j e1 h1 o1
    obtain ⟨hl, h2'⟩ := key l e2 h2 o2
    rw [List.getElem?_set_ne (Ne.symm hj)] at s1
    rw [List.getElem?_set_ne (Ne.symm hl)] at s2
    exact o.dis j l e1 e2 p h1' o1 h2' o2 s1 s2
/-- .. that is one's own from now on -/
theorem Own.set_own {i : Nat} {p : Addr} {e : En} (o : Own H0 σ env) (np : H0 p = none) (hd : ∀ (j : Nat) (e' : En), j ≠ i → env[j]? = some e' → e'.isOwn = true → σ[j]? ≠ some (some (.ref p))) (hl : σ.length = env.length) : Own H0 (σ.set i (some (.ref p))) (env.set i e) := by
  refine ⟨fun j e' h ho => ?_, fun j l e1 e2 q h1 o1 h2 o2 s1 s2 => ?_⟩
  · rcases set_get h with ⟨rfl, rfl, hi⟩ | ⟨hj, h'⟩
    · rw [List.getElem?_set_self (by rw [hl]; exact hi)]; exact ⟨p, rfl, np⟩
    · rw [List.getElem?_set_ne (Ne.symm hj)]; exact o.new j e' h' ho
  · rcases set_get h1 with ⟨rfl, rfl, hi⟩ | ⟨hj, h1'⟩
    · rcases set_get h2 with ⟨rfl, _, _⟩ | ⟨hj2, h2'⟩
      · rfl
      · rw [List.getElem?_set_self (by rw [hl]; exact hi)] at s1
        cases s1
        rw [List.getElem?_set_ne (Ne.symm hj2)] at s2
        exact absurd s2 (hd l e2 hj2 h2' o2)
    · rcases set_get h2 with ⟨rfl, _, hi⟩ | ⟨hj2, h2'⟩
      · rw [List.getElem?_set_self (by rw [hl]; exact hi)] at s2
        cases s2
        rw [List.getElem?_set_ne (Ne.symm hj)] at s1
        exact absurd s1 (hd j e1 hj h1' o1)
      · rw [List.getElem?_set_ne (Ne.symm hj)] at s1
        rw [List.getElem?_set_ne (Ne.symm hj2)] at s2
        exact o.dis j l e1 e2 q h1' o1 h2' o2 s1 s2
theorem Own.setTo {I : List Nat} {σ' : L2.St} {env' : List En} (a : SetTo g F I σ env σ' env') (o : Own H0 σ env) : Own H0 σ' env' := by
  induction a with
  | refl => exact o
  | step hi r _ ih => exact ih (o.set_d rfl)
/-- what an own slot holds -/
theorem own_addr {e : En} {w : Option V} (h : EnOk g xc k H F w e) (ho : e.isOwn = true) : ∃ p u, w = some (.ref p) ∧ H p = some u ∧ F p = none ∧ ¬ dkM g k p := by
  cases e with
  | own ds => obtain ⟨p, vs, e, h1, h2, h3, _⟩ := h; exact ⟨p, _, e, h1, h2, h3⟩
  | ownK ds => obtain ⟨p, vs, e, h1, h2, h3, _⟩ := h; exact ⟨p, _, e, h1, h2, h3⟩
  | ownO c ds => obtain ⟨p, dx, vs, e, h1, h2, h3, _⟩ := h; exact ⟨p, _, e, h1, h2, h3⟩
  | _ => cases ho
theorem getD_some {i : Nat} {v : V} (h : σ[i]?.getD none = some v) : σ[i]? = some (some v) := by
  cases hs : σ[i]? with
  | none => rw [hs] at h; cases h
  | some w => rw [hs] at h; rw [show w = some v from h]
/-- a write to one of them -/
theorem EnvOk.upd {i : Nat} {p : Addr} {u : HO} {e0 e : En} (ok : EnvOk g xc k σ H F env) (o : Own H0 σ env) (he : env[i]? = some e0) (ho : e0.isOwn = true) (hs : σ[i]? = some (some (.ref p))) (r : EnOk g xc k (upd H p u) F (some (.ref p)) e) : EnvOk g xc k σ (upd H p u) F (env.set i e) := by
  refine ⟨by simpa using ok.1, fun j e' h => ?_⟩
  rcases set_get h with ⟨rfl, rfl, _⟩ | ⟨hj, h'⟩
  · rw [hs]; exact r
  · have z := ok.2 j e' h'
    have ne : e'.isOwn = true → ∀ q, σ[j]?.getD none = some (.ref q) → q ≠ p := fun ho' q hq e => by
      subst e
      exact hj (o.dis j i e' e0 q h' ho' he ho (getD_some hq) hs)
    cases e' with
    | own ds => obtain ⟨q, vs, e, h1, h2⟩ := z; exact ⟨q, vs, e, by rw [upd_ne (ne rfl q e)]; exact h1, h2⟩
    | ownK ds => obtain ⟨q, vs, e, h1, h2⟩ := z; exact ⟨q, vs, e, by rw [upd_ne (ne rfl q e)]; exact h1, h2⟩
    | ownO c ds => obtain ⟨q, dx, vs, e, h1, h2⟩ := z; exact ⟨q, dx, vs, e, by rw [upd_ne (ne rfl q e)]; exact h1, h2⟩
    | _ => exact z
end

/-- what is asked for a statement's outcome, from the def's entry (H0, F0, k0) -/
def AskS (g : G) (xc : XC) (W : WX) (H0 F0 : Hp) (k0 : DkO) (D : Ends) : OutS → Prop
  | .nx env k => ∀ σ H F, Stp g H0 F0 k0 H F k → EnvOk g xc k σ H F env → Own H0 σ env → D.nx σ H
  | .rt d k => ∀ H F v, Stp g H0 F0 k0 H F k → Rep g F v d → D.rt v H
  | .bk env k => ∀ σ H F, Stp g H0 F0 k0 H F k → EnvOk g xc k σ H F env → Own H0 σ env → D.bk σ H
  | .ct env k => ∀ σ H F, Stp g H0 F0 k0 H F k → EnvOk g xc k σ H F env → Own H0 σ env → D.ct σ H
  | .err c fs env k => ∀ dx σ H F vs, Stp g H0 F0 k0 H F k → EnvOk g xc k σ H F env → Own H0 σ env → H dx = none → RepFs g F vs fs → W (.ref (g.cl c)) (some dx) σ (upd H dx (.xd vs))
  | .bad => False
def tS (g : G) (xc : XC) (W : WX) (f : Ss) : TS := fun D σ H => ∃ H0 F0 k0 F k env, Stp g H0 F0 k0 H F k ∧ EnvOk g xc k σ H F env ∧ Own H0 σ env ∧ AskS g xc W H0 F0 k0 D (f env k)
def PDS (X : Cx) (g : G) (xc : XC) (W : WX) (st : Stmt) (f : Ss) : Prop := PS X st (tS g xc W f)
def PDSs (X : Cx) (g : G) (xc : XC) (W : WX) (sts : List Stmt) (f : Ss) : Prop := PSs X sts (tS g xc W f)
theorem PS.imp {X : Cx} {st : Stmt} {t t' : TS} (h : PS X st t) (f : ∀ D σ H, t' D σ H → t D σ H) : PS X st t' := ⟨fun pins s σ H D I q => h.run pins s σ H D I (f D σ H q)⟩
theorem PSs.imp {X : Cx} {st : List Stmt} {t t' : TS} (h : PSs X st t) (f : ∀ D σ H, t' D σ H → t D σ H) : PSs X st t' := ⟨fun pins s σ H D I q => h.run pins s σ H D I (f D σ H q)⟩
/-- an expression's outcome, in a statement -/
def outS {α : Type} (o : Out α) (env : List En) (R : α → DkO → OutS) : OutS := match o with
  | .ok a k => R a k
  | .err c fs k => .err c fs env k
  | .bad => .bad
section
variable {X : Cx} {g : G} {xc : XC} {W : WX} {e o tg iter : Expr} {es : List Expr} {f h fo : Sm D} {p : Sm Bool} {l its : Sm (List D)} {pos pos' : Pos} {st : Stmt} {rest body orelse : List Stmt} {s t u : Ss}
variable {H0 F0 H F : Hp} {k0 k : DkO} {σ : L2.St} {env : List En} {D : Ends}
theorem askS_ask {α : Type} {o : Out α} {R : α → DkO → OutS} (S : Stp g H0 F0 k0 H F k) (ok : EnvOk g xc k σ H F env) (ow : Own H0 σ env) (q : AskS g xc W H0 F0 k0 D (outS o env R)) :
    Ask g W σ H F k o fun a H1 F1 k1 => Stp g H0 F0 k0 H1 F1 k1 ∧ EnvOk g xc k1 σ H1 F1 env ∧ AskS g xc W H0 F0 k0 D (R a k1) := by
  cases o with
  | bad => exact q
  | err c fs k1 => exact fun dx H1 F1 vs s1 hd r => q dx σ H1 F1 vs (S.trans s1) (ok.step s1) ow hd r
  | ok a k1 => exact fun H1 F1 s1 => ⟨S.trans s1, ok.step s1, q⟩
/-- a statement that first asks an expression -/
theorem tS_D {R : DL.D → DkO → OutS} {Q : VK} (z : Stp g H0 F0 k0 H F k) (ok : EnvOk g xc k σ H F env) (ow : Own H0 σ env) (q : AskS g xc W H0 F0 k0 D (outS (f env k) env R))
    (hn : ∀ v d H1 F1 k1, Stp g H0 F0 k0 H1 F1 k1 → EnvOk g xc k1 σ H1 F1 env → Rep g F1 v d → AskS g xc W H0 F0 k0 D (R d k1) → Q v H1) : tD g xc W f σ H Q :=
  ⟨F, k, env, z.st, ok, (askS_ask z ok ow q).imp fun d H1 F1 k1 _ _ ⟨a1, a2, a3⟩ v r => hn v d H1 F1 k1 a1 a2 r a3⟩
theorem tS_T {R : Bool → DkO → OutS} {Q : Bool → Hp → Prop} (z : Stp g H0 F0 k0 H F k) (ok : EnvOk g xc k σ H F env) (ow : Own H0 σ env) (q : AskS g xc W H0 F0 k0 D (outS (p env k) env R))
    (hn : ∀ b H1 F1 k1, Stp g H0 F0 k0 H1 F1 k1 → EnvOk g xc k1 σ H1 F1 env → AskS g xc W H0 F0 k0 D (R b k1) → Q b H1) : tDT g xc W p σ H Q :=
  ⟨F, k, env, z.st, ok, (askS_ask z ok ow q).imp fun d H1 F1 k1 _ _ ⟨a1, a2, a3⟩ => hn d H1 F1 k1 a1 a2 a3⟩
theorem tS_A {R : List DL.D → DkO → OutS} {Q : List V → Hp → Prop} (z : Stp g H0 F0 k0 H F k) (ok : EnvOk g xc k σ H F env) (ow : Own H0 σ env) (q : AskS g xc W H0 F0 k0 D (outS (l env k) env R))
    (hn : ∀ vs ds H1 F1 k1, Stp g H0 F0 k0 H1 F1 k1 → EnvOk g xc k1 σ H1 F1 env → RepAll g F1 vs ds → AskS g xc W H0 F0 k0 D (R ds k1) → Q vs H1) : tDA g xc W l σ H Q :=
  ⟨F, k, env, z.st, ok, (askS_ask z ok ow q).imp fun d H1 F1 k1 _ _ ⟨a1, a2, a3⟩ v r => hn v d H1 F1 k1 a1 a2 r a3⟩

/-! ### blocks -/
def sSeq (s t : Ss) : Ss := fun env k => match s env k with
  | .nx env' k' => t env' k'
  | o => o
def sSkip : Ss := fun env k => .nx env k
theorem pds_nil : PDSs X g xc W [] sSkip := PSs.imp pss_nil fun D σ H ⟨H0, F0, k0, F, k, env, z, ok, ow, q⟩ => q σ H F z ok ow
theorem pds_one (hh : PDS X g xc W st s) : PDSs X g xc W [st] s := pss_one hh
theorem pds_cons (hh : PDS X g xc W st s) (hr : PDSs X g xc W rest t) : PDSs X g xc W (st :: rest) (sSeq s t) := by
  refine PSs.imp (pss_cons hh hr) fun D σ H ⟨H0, F0, k0, F, k, env, z, ok, ow, q⟩ => ?_
  refine ⟨H0, F0, k0, F, k, env, z, ok, ow, ?_⟩
  unfold sSeq at q
  cases hs : s env k with
  | nx env' k' =>
    rw [hs] at q
    exact fun σ1 H1 F1 z1 ok1 ow1 => ⟨H0, F0, k0, F1, k', env', z1, ok1, ow1, q⟩
  | rt d k' => rw [hs] at q; exact q
  | bk env' k' => rw [hs] at q; exact q
  | ct env' k' => rw [hs] at q; exact q
  | err c fs env' k' => rw [hs] at q; exact q
  | bad => rw [hs] at q; exact q
theorem pds_pass : PDS X g xc W (.Pass pos) sSkip := PS.imp ps_pass fun D σ H ⟨H0, F0, k0, F, k, env, z, ok, ow, q⟩ => q σ H F z ok ow
theorem pds_doc {x : Str} {j : Nat} : PDS X g xc W (.Expr (.Constant (.str x) j pos) pos') sSkip := PS.imp ps_doc fun D σ H ⟨H0, F0, k0, F, k, env, z, ok, ow, q⟩ => q σ H F z ok ow
theorem pds_break : PDS X g xc W (.Break pos) (fun env k => .bk env k) := PS.imp ps_break fun D σ H ⟨H0, F0, k0, F, k, env, z, ok, ow, q⟩ => q σ H F z ok ow
theorem pds_continue : PDS X g xc W (.Continue pos) (fun env k => .ct env k) := PS.imp ps_continue fun D σ H ⟨H0, F0, k0, F, k, env, z, ok, ow, q⟩ => q σ H F z ok ow
def sExpr (f : Sm DL.D) : Ss := fun env k => outS (f env k) env fun _ k1 => .nx env k1
theorem pds_expr (he : PD X g xc W e f) (hs : swapsWith e none pos.line X.env = pure false := by rfl) : PDS X g xc W (.Expr e pos) (sExpr f) :=
  PS.imp (ps_expr he hs) fun D σ H ⟨H0, F0, k0, F, k, env, z, ok, ow, q⟩ => tS_D z ok ow q fun v d H1 F1 k1 z1 ok1 r q1 => q1 _ _ _ z1 ok1 ow
def sRet (f : Sm DL.D) : Ss := fun env k => outS (f env k) env fun d k1 => .rt d k1
theorem pds_ret (he : PD X g xc W e f) : PDS X g xc W (.Return (some e) pos) (sRet f) :=
  PS.imp (ps_ret he) fun D σ H ⟨H0, F0, k0, F, k, env, z, ok, ow, q⟩ => tS_D z ok ow q fun v d H1 F1 k1 z1 ok1 r q1 => q1 _ _ v z1 r
theorem pds_retN : PDS X g xc W (.Return none pos) (fun _ k => .rt .non k) :=
  PS.imp ps_retN fun D σ H ⟨H0, F0, k0, F, k, env, z, ok, ow, q⟩ => q _ _ _ z .non
def sIfS (p : Sm Bool) (s t : Ss) : Ss := fun env k => outS (p env k) env fun b k1 => if b = true then s env k1 else t env k1
theorem pds_if (hc : PDT X g xc W e p) (ha : PDSs X g xc W body s) (hb : PDSs X g xc W orelse t) : PDS X g xc W (.If e body orelse pos) (sIfS p s t) := by
  refine PS.imp (ps_if hc ha hb) fun D σ H ⟨H0, F0, k0, F, k, env, z, ok, ow, q⟩ => ?_
  refine tS_T z ok ow q fun b H1 F1 k1 z1 ok1 q1 => ?_
  cases b with
  | true => exact ⟨H0, F0, k0, F1, k1, env, z1, ok1, ow, q1⟩
  | false => exact ⟨H0, F0, k0, F1, k1, env, z1, ok1, ow, q1⟩
def sSet (i : Nat) (f : Sm DL.D) : Ss := fun env k => outS (f env k) env fun d k1 => .nx (env.set i (.d d)) k1
theorem pds_set {i : Nat} {x : Str} {p1 : Pos} (hN : X.N.Nodup) (hi : X.N[i]? = some x) (hx : Loc X.env.scope x) (he : PD X g xc W e f) (hs : swapsWith e (some (.Name x p1)) pos.line X.env = pure false := by rfl) (hf : X.fn x = true ∨ X.env.scope.names.lookup x = some .local := by first | exact .inl rfl | exact .inr rfl | assumption) : PDS X g xc W (.Assign [.Name x p1] e pos) (sSet i f) := by
  refine PS.imp (ps_set hN hi hx he hs hf) fun D σ H ⟨H0, F0, k0, F, k, env, z, ok, ow, q⟩ => ?_
  exact tS_D z ok ow q fun v d H1 F1 k1 z1 ok1 r q1 => q1 _ _ _ z1 (ok1.set (.set_d r)) (ow.set_d rfl)
def sAsg (t : Tgt) (f : Sm DL.D) : Ss := fun env k => outS (f env k) env fun d k1 => match t.set d env with
  | some env' => .nx env' k1
  | none => .bad
theorem pds_asg {t : Tgt} (he : PD X g xc W e f) (hg : PDG X g tg t) (hs : swapsWithSole [tg] e pos.line X.env = pure false := by rfl) (hw : swappedStores [tg] e X.env = pure none := by rfl)
    (h1 : (assignEach [tg] X.env).map (·.2) = [assign tg X.env] := by rfl) : PDS X g xc W (.Assign [tg] e pos) (sAsg t f) := by
  refine PS.imp (ps_asg he hg hs hw h1) fun D σ H ⟨H0, F0, k0, F, k, env, z, ok, ow, q⟩ => ?_
  refine tS_D z ok ow q fun v d H1 F1 k1 z1 ok1 r q1 => ?_
  cases ht : t.set d env with
  | none => rw [ht] at q1; exact q1.elim
  | some env' =>
    rw [ht] at q1
    exact tgT_ok z1.st.sub t v d _ _ env' _ r ht fun σ' z2 => q1 _ _ _ z1 (z2.env ok1) (ow.setTo z2)
end
end DL
set_option Elab.async false
set_option linter.all false
set_option maxRecDepth 100000
set_option maxHeartbeats 4000000
/-! own lists and objects, loops, exceptions -/
namespace DL
open PySem PySem.Spec L2
open PySem.W (Frag)
section
variable {X : Cx} {g : G} {xc : XC} {W : WX} {e o tg iter : Expr} {es : List Expr} {f h fo : Sm D} {p : Sm Bool} {l its : Sm (List D)} {pos pos' : Pos} {st : Stmt} {rest body orelse : List Stmt} {s t u : Ss}
variable {H0 F0 H F : Hp} {k0 k : DkO} {σ : L2.St} {env : List En} {D : Ends}
theorem Stp.no0 (z : Stp g H0 F0 k0 H F k) {p : Addr} (np : H p = none) : H0 p = none := none_back z np
/-- a fresh address is in no own slot -/
theorem fresh_not {p : Addr} (ok : EnvOk g xc k σ H F env) (np : H p = none) : ∀ (j : Nat) (e' : En), env[j]? = some e' → e'.isOwn = true → σ[j]? ≠ some (some (.ref p)) := fun j e' he ho hs => by
  obtain ⟨q, u, e, h1, _⟩ := own_addr (ok.2 j e' he) ho
  rw [hs] at e
  cases e
  rw [np] at h1; cases h1

/-! ### name = a new list -/
def sSetN (i : Nat) (l : Sm (List DL.D)) : Ss := fun env k => outS (l env k) env fun ds k1 => .nx (env.set i (.own ds)) k1
theorem setN_rd {i : Nat} (z : Stp g H0 F0 k0 H F k) (ok : EnvOk g xc k σ H F env) (ow : Own H0 σ env) (q : AskS g xc W H0 F0 k0 D (sSetN i l env k)) :
    ∃ F k env, Sta g H F k ∧ EnvOk g xc k σ H F env ∧ AskN g W σ H F k (l env k) fun v H1 => D.nx (σ.set i (some v)) H1 := by
  refine ⟨F, k, env, z.st, ok, (askS_ask z ok ow q).imp fun ds H1 F1 k1 _ s1 ⟨z1, ok1, q1⟩ p vs hp fp dp r np => ?_⟩
  refine q1 _ _ _ z1 (ok1.set (e := .own ds) ⟨p, vs, rfl, hp, fp, dp, r⟩) (ow.set_own (z.no0 np) (fun j e' _ he ho => fresh_not ok np j e' he ho) ok.1)
theorem pds_setN {i : Nat} {x : Str} {p1 : Pos} (hN : X.N.Nodup) (hi : X.N[i]? = some x) (hx : Loc X.env.scope x) (he : PDN X g xc W e l) (hs : swapsWith e (some (.Name x p1)) pos.line X.env = pure false := by rfl) (hf : X.fn x = true ∨ X.env.scope.names.lookup x = some .local := by first | exact .inl rfl | exact .inr rfl | assumption) : PDS X g xc W (.Assign [.Name x p1] e pos) (sSetN i l) := by
  refine PS.imp (ps_set hN hi hx he hs hf) fun D σ H ⟨H0, F0, k0, F, k, env, z, ok, ow, q⟩ => ?_
  exact setN_rd z ok ow q
/-- name = [.. for ..], on one line -/
theorem pds_setLc {i : Nat} {y : Str} {py spos : Pos} {tg elt : Expr} {ifs : List Expr} {scope : Scope} {own : List (Str × Nat)} {tt : Tgt} (hc : X.calm = true) (hN : X.N.Nodup) (hy : X.N[i]? = some y) (hyl : X.env.scope.names.lookup y = some .local)
    (hsw : swapsWith (.ListComp elt [⟨tg, iter, ifs, 0⟩] scope pos) (some (.Name y py)) spos.line X.env = pure true) (hi : PDI X g xc W tg iter its) (ok : BlkOk X.N X.env.scope scope own) (hv : ∀ i ∈ tt.slots, i ∈ own.map (·.2))
    (hg : ∀ (s : Shared) (H : Hp) (C : Addr) (cl : List (Str × Addr)) (fp : List Addr), PDG (X.blk s H scope (compEnvC scope cl C X.env) fp) g tg tt) (ht : ∀ (s : Shared) (H : Hp) (C : Addr) (cl : List (Str × Addr)) (fp : List Addr), PDTs (X.blk s H scope (compEnvC scope cl C X.env) fp) g xc W0 ifs p)
    (he : ∀ (s : Shared) (H : Hp) (C : Addr) (cl : List (Str × Addr)) (fp : List Addr), PD (X.blk s H scope (compEnvC scope cl C X.env) fp) g xc W0 elt f) (hs : ∀ x, foldedSetIterable iter X.env x = pure x := by intro _; rfl) :
    PDS X g xc W (.Assign [.Name y py] (.ListComp elt [⟨tg, iter, ifs, 0⟩] scope pos) spos) (sSetN i (sComp tt (own.map (·.2)) p f its)) := by
  refine PS.imp (ps_setLc hc hN hy hyl hsw hi ok hg ht he hs) fun D σ H ⟨H0, F0, k0, F, k, env, z, eo, ow, q⟩ => ?_
  obtain ⟨F, k, env, s, eo, q⟩ := setN_rd z eo ow q
  refine ⟨F, k, env, s, eo, (Ask.bind q).imp fun ds H1 F1 k1 _ s1 q1 J hJ Dd nD => ?_⟩
  refine compM_rd hv s1.st (eo.step s1) nD hJ q1 fun acc H' F' k' us st h1 h2 h3 h4 hp => ?_
  exact hp Dd us h1 h2 h3 h4 (none_back s1 nD)

/-! ### one's own list -/
def sApnd (i : Nat) (f : Sm DL.D) : Ss := fun env k => match env[i]? with
  | some (.own ds) => outS (f env k) env fun d k1 => if ds.length < sizeLine then .nx (env.set i (.own (ds ++ [d]))) k1 else .bad
  | _ => .bad
/-- x.append(e) -/
theorem pds_append {i : Nat} {apos cpos : Pos} (hK : X.K = g.K) (hx : PE X o (tVar i)) (he : PD X g xc W e f)
    (hbase : attributeBase o "append" X.env (eval o X.env) = eval o X.env := by rfl)
    (hfew : ((backTo cpos (starEach [e] X.env)).all (fun x => !x.1) && (backToKw cpos (keywordEach [] X.env)).all (fun x => x.1.isSome)
      && decide (([e] : List Expr).length + ([] : List Keyword).length + (if ([] : List Keyword).isEmpty then 0 else 1) < 30)) = true := by rfl)
    (hline : (apos.endLine == cpos.line) = true := by rfl) (hs : starEach [e] X.env = (false, eval e X.env) :: starEach [] X.env := by rfl) (hplain : (backTo cpos (starEach [] X.env)).any (·.1) = false := by rfl)
    (hsw : swapsWith (.Call (.Attribute o "append" apos) [e] [] cpos) none pos.line X.env = pure false := by rfl) : PDS X g xc W (.Expr (.Call (.Attribute o "append" apos) [e] [] cpos) pos) (sApnd i f) := by
  refine PS.imp (ps_expr (pe_bm PySem.F.plainAttrs_list PySem.F.slot_list_append PySem.F.type_list_append mt_append hx (pa_cons he pa_nil hs) hbase hfew hline hs hplain) hsw) fun D σ H ⟨H0, F0, k0, F, k, env, z, ok, ow, q⟩ => ?_
  unfold sApnd at q
  cases hi : env[i]? with
  | none => rw [hi] at q; exact q.elim
  | some en =>
    rw [hi] at q
    cases en with
    | own ds =>
      obtain ⟨a, vs, ev, ha, fa, da, r⟩ := ok.2 i _ hi
      refine ⟨.ref a, getD_some ev, .inl ⟨rfl, vs, SqL.of ha⟩, ?_⟩
      have key : tD g xc W f σ H fun v H2 => ∃ (l : Addr) (xs : List V) (y : V), V.ref a = .ref l ∧ [v] = [y] ∧ H2 l = some (.lst xs) ∧ xs.length < sizeLine ∧ D.nx σ (upd H2 l (.lst (xs ++ [y]))) := by
        refine ⟨F, k, env, z.st, ok, (askS_ask z ok ow q).imp fun d H1 F1 k1 _ s1 ⟨z1, ok1, q1⟩ v rv => ?_⟩
        have hv : vs.length = ds.length := r.length
        have a1 : H1 a = some (.lst vs) := s1.keep _ _ da ha
        refine ⟨a, vs, v, rfl, rfl, a1, ?_⟩
        by_cases hl : ds.length < sizeLine
        · rw [if_pos hl] at q1
          refine ⟨by rw [hv]; exact hl, ?_⟩
          have f1 : F1 a = none := s1.new _ fa (by rw [ha]; exact fun z => by cases z)
          have d1 : ¬ dkM g k1 a := fun z => da (s1.ks.m.mp z)
          obtain ⟨pa, hpa, npa⟩ := ow.new i _ hi rfl
          have epa : pa = a := by
            have := getD_some ev
            rw [hpa] at this
            cases this; rfl
          subst epa
          have z2 : Stp g H0 F0 k0 (upd H1 pa (.lst (vs ++ [v]))) F1 k1 := z1.own npa f1 d1
          refine q1 _ _ _ z2 (ok1.upd ow hi rfl hpa ⟨pa, _, rfl, upd_same, f1, d1, (r.same s1.ff).app (.cons rv .nil)⟩) ?_
          have := ow.set_own (i := i) (p := pa) (e := .own (ds ++ [d])) npa (fun j e' hj he ho hs => hj (ow.dis j i e' _ pa he ho hi rfl hs hpa)) ok.1
          have es : σ.set i (some (.ref pa)) = σ := by
            apply List.ext_getElem?
            intro j
            by_cases hj : j = i
            · subst hj
              obtain ⟨hlt, _⟩ := List.getElem?_eq_some_iff.mp hpa
              rw [List.getElem?_set_self hlt, hpa]
            · rw [List.getElem?_set_ne (Ne.symm hj)]
          rw [es] at this
          exact this
        · rw [if_neg hl] at q1; exact q1.elim
      exact key
    | _ => exact q.elim
/-- from now on known -/
def frzE : En → En
  | .own ds => .d (.lst ds)
  | .ownK ds => .d (.dct ds)
  | e => e
def sFrzS (i : Nat) (s : Ss) : Ss := fun env k => match env[i]? with
  | some e => s (env.set i (frzE e)) k
  | none => s env k
theorem frz_step {i : Nat} {e : En} (z : Stp g H0 F0 k0 H F k) (ok : EnvOk g xc k σ H F env) (ow : Own H0 σ env) (hi : env[i]? = some e) : ∃ F1, Stp g H0 F0 k0 H F1 k ∧ EnvOk g xc k σ H F1 (env.set i (frzE e)) ∧ Own H0 σ (env.set i (frzE e)) := by
  have base : ∀ {a : Addr} {o : HO} {e' : En}, e.isOwn = true → σ[i]? = some (some (.ref a)) → H a = some o → F a = none → ¬ dkM g k a → (EnOk g xc k H (upd F a o) (some (.ref a)) e') → e'.isOwn = false → ∃ F1, Stp g H0 F0 k0 H F1 k ∧ EnvOk g xc k σ H F1 (env.set i e') ∧ Own H0 σ (env.set i e') := by
    intro a o e' ho hs ha fa da r ho'
    obtain ⟨pa, hpa, npa⟩ := ow.new i _ hi ho
    rw [hs] at hpa
    cases hpa
    have z1 := z.frz npa fa da ha
    refine ⟨_, z1, ⟨by simpa using ok.1, fun j e2 h2 => ?_⟩, ?_⟩
    · rcases set_get h2 with ⟨rfl, rfl, _⟩ | ⟨hj, h2'⟩
      · rw [hs]; exact r
      · have q := ok.2 j e2 h2'
        have sf := same_frz (F := F) (p := a) (o := o) fa
        have ne : e2.isOwn = true → ∀ b, σ[j]?.getD none = some (.ref b) → b ≠ a := fun ho2 b hb e => by
          subst e
          exact hj (ow.dis j i e2 e b h2' ho2 hi ho (getD_some hb) hs)
        cases e2 with
        | no => trivial
        | d x => obtain ⟨v, e, r⟩ := q; exact ⟨v, e, r.same sf⟩
        | own ds => obtain ⟨b, vs, e, h1, h2, h3, r⟩ := q; exact ⟨b, vs, e, h1, by rw [upd_ne (ne rfl b e)]; exact h2, h3, r.same sf⟩
        | ownK ds => obtain ⟨b, vs, e, h1, h2, h3, r⟩ := q; exact ⟨b, vs, e, h1, by rw [upd_ne (ne rfl b e)]; exact h2, h3, r.same sf⟩
        | ownO c ds => obtain ⟨b, dx, vs, e, h1, h2, h3, r, hx⟩ := q; exact ⟨b, dx, vs, e, h1, by rw [upd_ne (ne rfl b e)]; exact h2, h3, r.same sf, hx⟩
        | exc c ds => obtain ⟨b, dx, vs, e, h1, h2, r⟩ := q; exact ⟨b, dx, vs, e, h1, sf _ _ h2, r.same sf⟩
    · have := ow.set_d (i := i) (w := some (.ref a)) (e := e') ho'
      have es : σ.set i (some (.ref a)) = σ := by
        apply List.ext_getElem?
        intro j
        by_cases hj : j = i
        · subst hj
          obtain ⟨hlt, _⟩ := List.getElem?_eq_some_iff.mp hs
          rw [List.getElem?_set_self hlt, hs]
        · rw [List.getElem?_set_ne (Ne.symm hj)]
      rw [es] at this
      exact this
  have same : ∀ {e' : En}, e' = e → ∃ F1, Stp g H0 F0 k0 H F1 k ∧ EnvOk g xc k σ H F1 (env.set i e') ∧ Own H0 σ (env.set i e') := by
    intro e' ee
    subst ee
    have es : env.set i e' = env := by
      apply List.ext_getElem?
      intro j
      by_cases hj : j = i
      · subst hj
        obtain ⟨hlt, _⟩ := List.getElem?_eq_some_iff.mp hi
        rw [List.getElem?_set_self hlt, hi]
      · rw [List.getElem?_set_ne (Ne.symm hj)]
    rw [es]
    exact ⟨F, z, ok, ow⟩
  cases e with
  | own ds =>
    obtain ⟨a, vs, ev, ha, fa, da, r⟩ := ok.2 i _ hi
    exact base rfl (getD_some ev) ha fa da ⟨_, rfl, .lst upd_same (r.same (same_frz fa))⟩ rfl
  | ownK ds =>
    obtain ⟨a, vs, ev, ha, fa, da, r⟩ := ok.2 i _ hi
    exact base rfl (getD_some ev) ha fa da ⟨_, rfl, .dct upd_same (r.same (same_frz fa))⟩ rfl
  | _ => exact same rfl
theorem pds_frz {i : Nat} (hh : PDS X g xc W st s) : PDS X g xc W st (sFrzS i s) := by
  refine PS.imp hh fun D σ H ⟨H0, F0, k0, F, k, env, z, ok, ow, q⟩ => ?_
  unfold sFrzS at q
  cases hi : env[i]? with
  | none => rw [hi] at q; exact ⟨H0, F0, k0, F, k, env, z, ok, ow, q⟩
  | some e =>
    rw [hi] at q
    obtain ⟨F1, z1, ok1, ow1⟩ := frz_step z ok ow hi
    exact ⟨H0, F0, k0, F1, k, _, z1, ok1, ow1, q⟩

/-! ### loops -/
/-- what is known meanwhile counts -/
theorem Stp.self (z : Stp g H0 F0 k0 H F k) : Stp g H0 F k0 H F k := ⟨z.st, .refl _, z.keep, fun _ e _ => e, z.ks⟩
theorem Stp.reb {H1 F1 : Hp} {k1 : DkO} (z : Stp g H0 F0 k0 H F k) (z1 : Stp g H0 F k0 H1 F1 k1) : Stp g H0 F0 k0 H1 F1 k1 :=
  ⟨z1.st, z.ff.trans z1.ff, z1.keep, fun b e h => z1.new b (z.new b e h) h, z1.ks⟩
theorem AskS.reb {o : OutS} (z : Stp g H0 F0 k0 H F k) (q : AskS g xc W H0 F0 k0 D o) : AskS g xc W H0 F k0 D o := by
  cases o with
  | nx env k' => exact fun σ H F z1 => q σ H F (z.reb z1)
  | rt d k' => exact fun H F v z1 => q H F v (z.reb z1)
  | bk env k' => exact fun σ H F z1 => q σ H F (z.reb z1)
  | ct env k' => exact fun σ H F z1 => q σ H F (z.reb z1)
  | err c fs env k' => exact fun dx σ H F vs z1 => q dx σ H F vs (z.reb z1)
  | bad => exact q
def forM (t : Tgt) (body : Ss) : List DL.D → List En → DkO → OutS
  | [], env, k => .nx env k
  | d :: ds, env, k => match t.set d env with
    | none => .bad
    | some env1 => match body env1 k with
      | .nx env2 k2 => forM t body ds env2 k2
      | .ct env2 k2 => forM t body ds env2 k2
      | .bk env2 k2 => .nx env2 k2
      | o => o
def sFor (t : Tgt) (its : Sm (List DL.D)) (body : Ss) : Ss := fun env k => outS (its env k) env fun ds k1 => forM t body ds env k1
theorem pds_for {tt : Tgt} (hp : PassesOwn (model X.prog X.w) X.A X.env X.xe) (hc : X.calm = true) (hi : PDI X g xc W tg iter its) (hg : PDG X g tg tt) (hb : PDSs X g xc W body s)
    (hs : ∀ x, foldedSetIterable iter X.env x = pure x := by intro _; rfl) : PDS X g xc W (.For tg iter body [] pos) (sFor tt its s) := by
  refine PS.imp (ps_for hp hc hi hg hb hs) fun D σ H ⟨H0, F0, k0, F, k, env, z, ok, ow, q⟩ => ?_
  refine ⟨F, k, env, z.st, ok, (askS_ask z ok ow q).imp fun ds H1 F1 k1 _ s1 ⟨z1, ok1, q1⟩ J hJ => ?_⟩
  obtain ⟨GG, Y, wk, hG, hY⟩ := hJ
  refine for_it wk (fun i σ' H' => ∃ F' k' env', Stp g H0 F0 k0 H' F' k' ∧ EnvOk g xc k' σ' H' F' env' ∧ Own H0 σ' env' ∧ Same F1 F' ∧ AskS g xc W H0 F0 k0 D (forM tt s (ds.drop i) env' k'))
    ⟨F1, k1, env, z1, ok1, ow, .refl _, by rw [List.drop_zero]; exact q1⟩ (fun i σ' H' _ hh => ?_) (fun i x σ' H1' H2' hi' hh y => ?_) (fun σ' H' hh => ?_)
  · obtain ⟨F', k', env', z', _, _, ff, _⟩ := hh
    exact hG _ (ff.trans z'.st.sub)
  · obtain ⟨F', k', env', z', ok', ow', ff, q'⟩ := hh
    obtain ⟨F2, d, st2, hd2, rd⟩ := hY i H1' F' k' x H2' z'.st ff hi' y
    have e1 : ds.drop i = d :: ds.drop (i + 1) := by
      obtain ⟨h1, h2⟩ := List.getElem?_eq_some_iff.mp hd2
      rw [← h2]
      exact List.drop_eq_getElem_cons h1
    rw [e1] at q'
    unfold forM at q'
    cases ht : tt.set d env' with
    | none => rw [ht] at q'; exact q'.elim
    | some env1 =>
      rw [ht] at q'
      simp only at q'
      refine tgT_ok st2.st.sub tt x d _ _ env1 _ rd ht fun σ2 z2 => ?_
      have z3 := z'.trans st2
      refine ⟨H0, F2, k0, F2, k', env1, z3.self, z2.env (ok'.step st2), ow'.setTo z2, ?_⟩
      cases hb' : s env1 k' with
      | nx env2 k2 =>
        rw [hb'] at q'
        intro σ3 H3 F3 z4 ok4 ow4
        exact ⟨F3, k2, env2, z3.reb z4, ok4, ow4, (ff.trans st2.ff).trans z4.ff, q'⟩
      | ct env2 k2 =>
        rw [hb'] at q'
        intro σ3 H3 F3 z4 ok4 ow4
        exact ⟨F3, k2, env2, z3.reb z4, ok4, ow4, (ff.trans st2.ff).trans z4.ff, q'⟩
      | bk env2 k2 => rw [hb'] at q'; exact fun σ4 H4 F4 z4 => q' σ4 H4 F4 (z3.reb z4)
      | rt d2 k2 => rw [hb'] at q'; exact fun H4 F4 v z4 => q' H4 F4 v (z3.reb z4)
      | err c fs env2 k2 => rw [hb'] at q'; exact fun dx σ4 H4 F4 vs z4 => q' dx σ4 H4 F4 vs (z3.reb z4)
      | bad => rw [hb'] at q'; exact q'
  · obtain ⟨F', k', env', z', ok', ow', ff, q'⟩ := hh
    rw [List.drop_length] at q'
    unfold forM at q'
    exact q' _ _ _ z' ok' ow'
end
end DL
set_option Elab.async false
set_option linter.all false
set_option maxRecDepth 100000
set_option maxHeartbeats 4000000
/-! pairs, while, fields of self, raise, try -/
namespace DL
open PySem PySem.Spec L2
open PySem.W (Frag)
section
variable {X : Cx} {g : G} {xc : XC} {W : WX} {e o tg iter : Expr} {es : List Expr} {f h fo : Sm D} {p : Sm Bool} {l its : Sm (List D)} {m : Sm (List En)} {pos pos' : Pos} {st : Stmt} {rest body orelse : List Stmt} {s t u : Ss}
variable {H0 F0 H F : Hp} {k0 k : DkO} {σ : L2.St} {env : List En} {D : Ends}

/-! ### several values, some of them new lists -/
inductive EnsOk (g : G) (Hs H F : Hp) (k : DkO) : List V → List En → List Addr → Prop
  | nil : EnsOk g Hs H F k [] [] []
  | d {v : V} {x : DL.D} {vs : List V} {es : List En} {ps : List Addr} (r : Rep g F v x) (rs : EnsOk g Hs H F k vs es ps) : EnsOk g Hs H F k (v :: vs) (.d x :: es) ps
  | own {q : Addr} {us : List V} {ds : List DL.D} {vs : List V} {es : List En} {ps : List Addr} (hq : H q = some (.lst us)) (fq : F q = none) (dq : ¬ dkM g k q) (nq : Hs q = none) (hn : q ∉ ps) (r : RepAll g F us ds) (rs : EnsOk g Hs H F k vs es ps) : EnsOk g Hs H F k (.ref q :: vs) (.own ds :: es) (q :: ps)
theorem EnsOk.back {Hs Hs' : Hp} {vs : List V} {es : List En} {ps : List Addr} (h : EnsOk g Hs H F k vs es ps) (hb : ∀ q, Hs q = none → Hs' q = none) : EnsOk g Hs' H F k vs es ps := by
  induction h with
  | nil => exact .nil
  | d r _ ih => exact .d r ih
  | own hq fq dq nq hn r _ ih => exact .own hq fq dq (hb _ nq) hn r ih
theorem EnsOk.mem {Hs : Hp} {vs : List V} {es : List En} {ps : List Addr} (h : EnsOk g Hs H F k vs es ps) : ∀ q ∈ ps, Hs q = none := by
  induction h with
  | nil => exact fun _ z => nomatch z
  | d r _ ih => exact ih
  | own hq fq dq nq hn r _ ih =>
    intro q hq'
    rcases List.mem_cons.mp hq' with z | z
    · rw [z]; exact nq
    · exact ih q z
def PDM (X : Cx) (g : G) (xc : XC) (W : WX) (es : List Expr) (m : Sm (List En)) : Prop :=
  PA X es fun σ H Q => ∃ F k env, Sta g H F k ∧ EnvOk g xc k σ H F env ∧ Ask g W σ H F k (m env k) fun ens H' F' k' => ∀ vs ps, EnsOk g H H' F' k' vs ens ps → Q vs H'
def mNil : Sm (List En) := fun _ k => .ok [] k
def mD (f : Sm DL.D) (m : Sm (List En)) : Sm (List En) := fun env k => (f env k).bind fun d k1 => (m env k1).bind fun es k2 => .ok (.d d :: es) k2
def mN (l : Sm (List DL.D)) (m : Sm (List En)) : Sm (List En) := fun env k => (l env k).bind fun ds k1 => (m env k1).bind fun es k2 => .ok (.own ds :: es) k2
theorem pdm_nil : PDM X g xc W [] mNil := PA.imp pa_nil fun σ H Q ⟨F, k, env, s, ok, q⟩ => q H F (.refl s) [] [] .nil
theorem pdm_d (ha : PD X g xc W e f) (hr : PDM X g xc W es m) (hs : starEach (e :: es) X.env = (false, eval e X.env) :: starEach es X.env := by rfl) : PDM X g xc W (e :: es) (mD f m) := by
  refine PA.imp (pa_cons ha hr hs) fun σ H Q ⟨F, k, env, s, ok, q⟩ => ?_
  refine tD_thenS s ok q fun v d H1 F1 k1 s1 ok1 r q1 => ?_
  refine ⟨F1, k1, env, s1.st, ok1, (Ask.bind q1).imp fun es H2 F2 k2 _ s2 q2 vs ps hes => ?_⟩
  exact q2 _ _ (.refl s2.st) _ ps (.d (r.same s2.ff) (hes.back fun q hq => none_back s1 hq))
theorem pdm_n (ha : PDN X g xc W e l) (hr : PDM X g xc W es m) (hs : starEach (e :: es) X.env = (false, eval e X.env) :: starEach es X.env := by rfl) : PDM X g xc W (e :: es) (mN l m) := by
  refine PA.imp (pa_cons ha hr hs) fun σ H Q ⟨F, k, env, s, ok, q⟩ => ?_
  refine ⟨F, k, env, s, ok, (Ask.bind q).imp fun ds H1 F1 k1 _ s1 q1 a us ha fa da r na => ?_⟩
  refine ⟨F1, k1, env, s1.st, ok.step s1, (Ask.bind q1).imp fun es H2 F2 k2 _ s2 q2 vs ps hes => ?_⟩
  refine q2 _ _ (.refl s2.st) _ (a :: ps) (.own (s2.keep _ _ da ha) (s2.new _ fa (by rw [ha]; exact fun z => by cases z)) (fun z => da (s2.ks.m.mp z)) na (fun hm => ?_) (r.same s2.ff) (hes.back fun q hq => none_back s1 hq))
  have := hes.mem a hm
  rw [ha] at this; cases this
/-- slots by number -/
def setsE : List Nat → List En → List En → Option (List En)
  | [], [], env => some env
  | i :: is, e :: es, env => setsE is es (env.set i e)
  | _, _, _ => none
def setsV : List Nat → List V → L2.St → Option L2.St
  | [], [], σ => some σ
  | i :: is, v :: vs, σ => setsV is vs (σ.set i (some v))
  | _, _, _ => none
theorem sets_rd {Hs : Hp} (hb : ∀ q, Hs q = none → H0 q = none) : ∀ {vs : List V} {es : List En} {ps : List Addr} (h : EnsOk g Hs H F k vs es ps) (is : List Nat) {σ : L2.St} {env env' : List En}, EnvOk g xc k σ H F env → Own H0 σ env → (∀ q ∈ ps, ∀ (j : Nat) (e' : En), env[j]? = some e' → e'.isOwn = true → σ[j]? ≠ some (some (.ref q))) →
    setsE is es env = some env' → ∃ σ', setsV is vs σ = some σ' ∧ EnvOk g xc k σ' H F env' ∧ Own H0 σ' env' := by
  intro vs es ps h
  induction h with
  | nil =>
    intro is σ env env' ok ow hf he
    cases is with
    | nil => simp only [setsE] at he; cases he; exact ⟨σ, rfl, ok, ow⟩
    | cons i is => simp [setsE] at he
  | d r _ ih =>
    intro is σ env env' ok ow hf he
    cases is with
    | nil => simp [setsE] at he
    | cons i is =>
      simp only [setsE, setsV] at he ⊢
      refine ih is (ok.set (.set_d r)) (ow.set_d rfl) (fun q hq j e' hj ho hs => ?_) he
      rcases set_get hj with ⟨rfl, rfl, _⟩ | ⟨hji, hj'⟩
      · cases ho
      · rw [List.getElem?_set_ne (Ne.symm hji)] at hs
        exact hf q hq j e' hj' ho hs
  | own hq fq dq nq hn r _ ih =>
    intro is σ env env' ok ow hf he
    rename_i a us ds vs es ps _
    cases is with
    | nil => simp [setsE] at he
    | cons i is =>
      simp only [setsE, setsV] at he ⊢
      refine ih is (ok.set (e := .own ds) ⟨a, us, rfl, hq, fq, dq, r⟩) (ow.set_own (hb _ nq) (fun j e' _ hj ho => hf a List.mem_cons_self j e' hj ho) ok.1) (fun q hqm j e' hj ho hs => ?_) he
      rcases set_get hj with ⟨rfl, rfl, hi⟩ | ⟨hji, hj'⟩
      · rw [List.getElem?_set_self (by rw [ok.1]; exact hi)] at hs
        cases hs
        exact hn hqm
      · rw [List.getElem?_set_ne (Ne.symm hji)] at hs
        exact hf q (List.mem_cons_of_mem _ hqm) j e' hj' ho hs
def sPar (is : List Nat) (m : Sm (List En)) : Ss := fun env k => outS (m env k) env fun es k1 => match setsE is es env with
  | some env' => .nx env' k1
  | none => .bad
theorem par_rd {is : List Nat} (z : Stp g H0 F0 k0 H F k) (ok : EnvOk g xc k σ H F env) (ow : Own H0 σ env) (q : AskS g xc W H0 F0 k0 D (sPar is m env k)) :
    ∃ F k env, Sta g H F k ∧ EnvOk g xc k σ H F env ∧ Ask g W σ H F k (m env k) fun ens H' F' k' => ∀ vs ps, EnsOk g H H' F' k' vs ens ps → ∃ σ', setsV is vs σ = some σ' ∧ D.nx σ' H' := by
  refine ⟨F, k, env, z.st, ok, (askS_ask z ok ow q).imp fun ens H1 F1 k1 _ s1 ⟨z1, ok1, q1⟩ vs ps hes => ?_⟩
  cases hse : setsE is ens env with
  | none => rw [hse] at q1; exact q1.elim
  | some env' =>
    rw [hse] at q1
    obtain ⟨σ', h1, h2, h3⟩ := sets_rd (H0 := H0) (fun q hq => z.no0 hq) hes is ok1 ow (fun q hq => fresh_not ok (hes.mem q hq)) hse
    exact ⟨σ', h1, q1 _ _ _ z1 h2 h3⟩
theorem pds_par {i j : Nat} {x y : Str} {a b : Expr} {px py pt : Pos} {kt k2 pt2} (hc : X.calm = true) (hN : X.N.Nodup) (hi : X.N[i]? = some x) (hj : X.N[j]? = some y) (hij : i ≠ j)
    (hx : X.env.scope.names.lookup x = some .local) (hy : X.env.scope.names.lookup y = some .local) (ha : PDM X g xc W [a, b] m)
    (hw : swappedStores [.Tuple [.Name x px, .Name y py] kt pt] (.Tuple [a, b] k2 pt2) X.env = pure (some [x, y]))
    (hs : swapsWithSole [.Tuple [.Name x px, .Name y py] kt pt] (.Tuple [a, b] k2 pt2) pos.line X.env = pure false := by rfl) :
    PDS X g xc W (.Assign [.Tuple [.Name x px, .Name y py] kt pt] (.Tuple [a, b] k2 pt2) pos) (sPar [i, j] m) := by
  refine PS.imp (ps_par hc hN hi hj hij hx hy ha hw hs) fun D σ H ⟨H0, F0, k0, F, k, env, z, ok, ow, q⟩ => ?_
  obtain ⟨F, k, env, s, ok, q⟩ := par_rd z ok ow q
  refine ⟨F, k, env, s, ok, q.imp fun ens H' F' k' _ _ q1 vs ps hes => ?_⟩
  obtain ⟨σ', h1, h2⟩ := q1 vs ps hes
  rcases vs with _ | ⟨v, _ | ⟨w, _ | ⟨y, vs⟩⟩⟩ <;> simp only [setsV, Option.some.injEq, reduceCtorEq] at h1
  exact ⟨v, w, rfl, by rw [h1]; exact h2⟩
theorem pds_par3 {i j l : Nat} {x y zn : Str} {a b c : Expr} {px py pz pt : Pos} {kt k2 pt2} (hc : X.calm = true) (hN : X.N.Nodup) (hi : X.N[i]? = some x) (hj : X.N[j]? = some y) (hl : X.N[l]? = some zn) (hij : i ≠ j) (hil : i ≠ l) (hjl : j ≠ l)
    (hx : X.env.scope.names.lookup x = some .local) (hy : X.env.scope.names.lookup y = some .local) (hz : X.env.scope.names.lookup zn = some .local) (ha : PDM X g xc W [a, b, c] m)
    (hw : swappedStores [.Tuple [.Name x px, .Name y py, .Name zn pz] kt pt] (.Tuple [a, b, c] k2 pt2) X.env = pure (some [x, y, zn]))
    (hs : swapsWithSole [.Tuple [.Name x px, .Name y py, .Name zn pz] kt pt] (.Tuple [a, b, c] k2 pt2) pos.line X.env = pure false := by rfl) :
    PDS X g xc W (.Assign [.Tuple [.Name x px, .Name y py, .Name zn pz] kt pt] (.Tuple [a, b, c] k2 pt2) pos) (sPar [i, j, l] m) := by
  refine PS.imp (ps_par3 hc hN hi hj hl hij hil hjl hx hy hz ha hw hs) fun D σ H ⟨H0, F0, k0, F, k, env, z, ok, ow, q⟩ => ?_
  obtain ⟨F, k, env, s, ok, q⟩ := par_rd z ok ow q
  refine ⟨F, k, env, s, ok, q.imp fun ens H' F' k' _ _ q1 vs ps hes => ?_⟩
  obtain ⟨σ', h1, h2⟩ := q1 vs ps hes
  rcases vs with _ | ⟨v, _ | ⟨w, _ | ⟨y, _ | ⟨y2, vs⟩⟩⟩⟩ <;> simp only [setsV, Option.some.injEq, reduceCtorEq] at h1
  exact ⟨v, w, y, rfl, by rw [h1]; exact h2⟩

/-! ### while -/
def whileM (p : Sm Bool) (s : Ss) : Nat → Ss
  | 0 => fun _ _ => .bad
  | n + 1 => fun env k => outS (p env k) env fun b k1 => if b = true then (match s env k1 with
      | .nx env2 k2 => whileM p s n env2 k2
      | .ct env2 k2 => whileM p s n env2 k2
      | .bk env2 k2 => .nx env2 k2
      | o => o) else .nx env k1
theorem pds_while (n : Nat) (hp : PassesOwn (model X.prog X.w) X.A X.env X.xe) (hc : PDT X g xc W e p) (hb : PDSs X g xc W body s) : PDS X g xc W (.While e body [] pos) (whileM p s n) := by
  refine PS.imp (ps_while hp hc hb) fun D σ H ⟨H0, F0, k0, F, k, env, z, ok, ow, q⟩ => ?_
  refine ⟨fun n σ' H' => ∃ F' k' env', Stp g H0 F0 k0 H' F' k' ∧ EnvOk g xc k' σ' H' F' env' ∧ Own H0 σ' env' ∧ AskS g xc W H0 F0 k0 D (whileM p s n env' k'), ⟨n, F, k, env, z, ok, ow, q⟩, ?_⟩
  rintro n σ' H' ⟨F', k', env', z', ok', ow', q'⟩
  cases n with
  | zero => exact q'.elim
  | succ n =>
    unfold whileM at q'
    refine tS_T z' ok' ow' q' fun b H1 F1 k1 z1 ok1 q1 => ?_
    cases b with
    | false => exact q1 _ _ _ z1 ok1 ow'
    | true =>
      simp only [if_true] at q1 ⊢
      refine ⟨fun σ2 H2 => ∃ F2 k2 env2, Stp g H0 F0 k0 H2 F2 k2 ∧ EnvOk g xc k2 σ2 H2 F2 env2 ∧ Own H0 σ2 env2 ∧ AskS g xc W H0 F0 k0 D (whileM p s n env2 k2), fun σ2 H2 hh => ⟨n, Nat.lt_succ_self _, hh⟩, ?_⟩
      refine ⟨H0, F0, k0, F1, k1, env', z1, ok1, ow', ?_⟩
      cases hb' : s env' k1 with
      | nx env2 k2 => rw [hb'] at q1; exact fun σ3 H3 F3 z4 ok4 ow4 => ⟨F3, k2, env2, z4, ok4, ow4, q1⟩
      | ct env2 k2 => rw [hb'] at q1; exact fun σ3 H3 F3 z4 ok4 ow4 => ⟨F3, k2, env2, z4, ok4, ow4, q1⟩
      | bk env2 k2 => rw [hb'] at q1; exact q1
      | rt d2 k2 => rw [hb'] at q1; exact q1
      | err c fs env2 k2 => rw [hb'] at q1; exact q1
      | bad => rw [hb'] at q1; exact q1

/-! ### fields of self -/
def putD (f : Str) (v : DL.D) : List (Str × DL.D) → List (Str × DL.D)
  | [] => [(f, v)]
  | (a, x) :: r => if a = f then (a, v) :: r else (a, x) :: putD f v r
theorem RepFs.put {F : Hp} {fl : Str} {v : V} {d : DL.D} (r : Rep g F v d) : ∀ {vs : List (Str × V)} {ds : List (Str × DL.D)}, RepFs g F vs ds → RepFs g F (putF fl v vs) (putD fl d ds)
  | _, _, .nil => .cons r .nil
  | _, _, .cons (k := a) r1 rs => by
    unfold putF putD
    by_cases h : a = fl
    · rw [if_pos h, if_pos h]; exact .cons r rs
    · rw [if_neg h, if_neg h]; exact .cons r1 (RepFs.put r rs)
theorem RepFs.length {F : Hp} : ∀ {vs : List (Str × V)} {ds : List (Str × DL.D)}, RepFs g F vs ds → vs.length = ds.length
  | _, _, .nil => rfl
  | _, _, .cons _ r => by rw [List.length_cons, List.length_cons, RepFs.length r]
def sSetF (i : Nat) (c : String) (fl : Str) (f : Sm DL.D) : Ss := fun env k => outS (f env k) env fun d k1 => match env[i]? with
  | some (.ownO c' fs) => if c' = c ∧ fs.length < 1000 then .nx (env.set i (.ownO c (putD fl d fs))) k1 else .bad
  | _ => .bad
theorem set_same {i : Nat} {w : Option V} (h : σ[i]? = some w) : σ.set i w = σ := by
  apply List.ext_getElem?
  intro j
  by_cases hj : j = i
  · subst hj
    obtain ⟨hlt, _⟩ := List.getElem?_eq_some_iff.mp h
    rw [List.getElem?_set_self hlt, h]
  · rw [List.getElem?_set_ne (Ne.symm hj)]
theorem pds_setF {i : Nat} {c : String} {fl : Str} {p1 : Pos} (hK : X.K = g.K) (hcl : Cls g.K (g.cl c)) (hna : NoAttr g.K (g.cl c) fl) (hx : PE X o (tVar i)) (he : PD X g xc W e f) (hs : swapsWith e (some (.Attribute o fl p1)) pos.line X.env = pure false := by rfl) :
    PDS X g xc W (.Assign [.Attribute o fl p1] e pos) (sSetF i c fl f) := by
  refine PS.imp (ps_fld hx he hs) fun D σ H ⟨H0, F0, k0, F, k, env, z, ok, ow, q⟩ => ?_
  refine tS_D z ok ow q fun v d H1 F1 k1 z1 ok1 r q1 => ?_
  cases hi : env[i]? with
  | none => rw [hi] at q1; exact q1.elim
  | some en =>
    rw [hi] at q1
    cases en with
    | ownO c' fs =>
      simp only at q1
      by_cases hc : c' = c ∧ fs.length < 1000
      · rw [if_pos hc] at q1
        obtain ⟨rfl, hl⟩ := hc
        obtain ⟨a, dx, ws, ev, ha, fa, da, rf, hxs⟩ := ok1.2 i _ hi
        have hs' := getD_some ev
        refine ⟨.ref a, hs', a, g.cl c', dx, ws, rfl, ha, by rw [hK]; exact hcl, by rw [hK]; exact hna, by rw [rf.length]; exact hl, ?_⟩
        obtain ⟨pa, hpa, npa⟩ := ow.new i _ hi rfl
        have epa : pa = a := by rw [hs'] at hpa; cases hpa; rfl
        subst epa
        refine q1 _ _ _ (z1.own npa fa da) (ok1.upd ow hi rfl hs' ⟨pa, dx, _, rfl, upd_same, fa, da, rf.put r, hxs⟩) ?_
        have := ow.set_own (i := i) (p := pa) (e := .ownO c' (putD fl d fs)) npa (fun j e' hj he ho hs => hj (ow.dis j i e' _ pa he ho hi rfl hs hs')) ok.1
        rw [set_same hs'] at this
        exact this
      · rw [if_neg hc] at q1; exact q1.elim
    | _ => exact q1.elim

/-! ### raise, try -/
def sRaise (c : String) (fl : Str) (l : Sm (List DL.D)) : Ss := fun env k => outS (l env k) env fun ds k1 => match ds with
  | [d] => .err c [(fl, d)] env k1
  | _ => .bad
theorem pds_raise {c : String} {fl : Str} (hR : PS X st (tRaise1 fl (g.cl c) W (tDA g xc W l))) : PDS X g xc W st (sRaise c fl l) := by
  refine PS.imp hR fun D σ H ⟨H0, F0, k0, F, k, env, z, ok, ow, q⟩ => ?_
  refine tS_A z ok ow q fun vs ds H1 F1 k1 z1 ok1 r q1 => ?_
  rcases ds with _ | ⟨d, _ | ⟨d2, ds⟩⟩
  · exact q1.elim
  · obtain ⟨v, rfl, rv⟩ := rep1 r
    exact ⟨v, rfl, fun dx hd => q1 dx σ H1 F1 [(fl, v)] z1 ok1 ow hd (.cons rv .nil)⟩
  · exact q1.elim
def En.isExc : En → Bool
  | .exc _ _ => true
  | _ => false
def noExc (env : List En) : Bool := env.all fun e => !e.isExc
theorem envOk_xc {a : Addr} {d : Option Addr} {cls : Value} {xc' : XC} (h : noExc env = true) (ok : EnvOk g (xcOf a d cls) k σ H F env) : EnvOk g xc' k σ H F env := by
  refine ⟨ok.1, fun i e he => ?_⟩
  have := List.all_eq_true.mp h e (List.mem_of_getElem? he)
  have z := ok.2 i e he
  cases e with
  | exc c fs => simp [En.isExc] at this
  | ownO c fs => obtain ⟨_, _, _, _, _, _, _, _, e⟩ := z; cases d <;> cases e
  | _ => exact z
theorem envOk_none {xc' : XC} (ok : EnvOk g .none k σ H F env) : EnvOk g xc' k σ H F env := by
  refine ⟨ok.1, fun i e he => ?_⟩
  have z := ok.2 i e he
  cases e with
  | exc c fs => obtain ⟨_, _, _, _, e, _⟩ := z; cases e
  | ownO c fs => obtain ⟨_, _, _, _, _, _, _, _, e⟩ := z; cases e
  | _ => exact z
/-- behind the suite -/
def unExc (i : Nat) : OutS → OutS
  | .nx env k => if noExc (env.set i .no) = true then .nx (env.set i .no) k else .bad
  | .bk env k => if noExc (env.set i .no) = true then .bk (env.set i .no) k else .bad
  | .ct env k => if noExc (env.set i .no) = true then .ct (env.set i .no) k else .bad
  | .rt d k => .rt d k
  | .err _ _ _ _ => .bad
  | .bad => .bad
def sTry (yes : String → Option Bool) (i : Nat) (sb sh : Ss) : Ss := fun env k => match sb env k with
  | .err c fs env' k' => match yes c with
    | some true => unExc i (sh (env'.set i (.exc c fs)) k')
    | some false => .err c fs env' k'
    | none => .bad
  | o => o
theorem unExc_rd {i : Nat} {a : Addr} {d : Option Addr} {cls : Value} {r : OutS} (q : AskS g .none W H0 F0 k0 D (unExc i r)) :
    AskS g (xcOf a d cls) W0 H0 F0 k0 { nx := fun σ' H' => D.nx (σ'.set i none) H', rt := D.rt, bk := fun σ' H' => D.bk (σ'.set i none) H', ct := fun σ' H' => D.ct (σ'.set i none) H' } r := by
  cases r with
  | nx env k =>
    change AskS g .none W H0 F0 k0 D (if noExc (env.set i .no) = true then .nx (env.set i .no) k else .bad) at q
    by_cases hn : noExc (env.set i .no) = true
    · rw [if_pos hn] at q
      exact fun σ H F z ok ow => q _ H F z (envOk_xc hn (ok.set (w := none) (e := .no) trivial)) (ow.set_d rfl)
    · rw [if_neg hn] at q; exact q.elim
  | bk env k =>
    change AskS g .none W H0 F0 k0 D (if noExc (env.set i .no) = true then .bk (env.set i .no) k else .bad) at q
    by_cases hn : noExc (env.set i .no) = true
    · rw [if_pos hn] at q
      exact fun σ H F z ok ow => q _ H F z (envOk_xc hn (ok.set (w := none) (e := .no) trivial)) (ow.set_d rfl)
    · rw [if_neg hn] at q; exact q.elim
  | ct env k =>
    change AskS g .none W H0 F0 k0 D (if noExc (env.set i .no) = true then .ct (env.set i .no) k else .bad) at q
    by_cases hn : noExc (env.set i .no) = true
    · rw [if_pos hn] at q
      exact fun σ H F z ok ow => q _ H F z (envOk_xc hn (ok.set (w := none) (e := .no) trivial)) (ow.set_d rfl)
    · rw [if_neg hn] at q; exact q.elim
  | rt d k => exact q
  | err c fs env k => exact q.elim
  | bad => exact q
theorem pds_try {x n : Str} {c : Value} {i : Nat} {b₀ : Stmt} {suite : List Stmt} {np : Pos} {yes : String → Option Bool} {sb sh : Ss} (hK : X.K = g.K) (hs : X.stack = X.env :: X.outer) (hf : X.env.frame = some X.env.locals) (hN : X.N.Nodup) (hi : X.N[i]? = some n) (hln : X.env.kindOf n = some .local) (hc : Names X x c) (tk : Takes X W)
    (hy : ∀ c' b, yes c' = some b → PySem.W.exmOne g.K (.ref (g.cl c')) c = some b)
    (hb : ∀ (W : WX) (pn : List (Addr × Obj)) (xe : Value → Shared → Prop), Takes (X.tr pn xe) W → PassesOwn (model X.prog X.w) X.A X.env xe → PDSs (X.tr pn xe) g .none W body sb)
    (hsu : ∀ (a : Addr) (oe : Obj) (cls : Value) (d : Option Addr) (pn : List (Addr × Obj)), Zc cls d oe → (∃ vs, oe.data = .fields vs) → PDSs (X.suite a ((a, oe) :: pn)) g (xcOf a d cls) W0 (b₀ :: suite) sh) :
    PDS X g .none W (.Try body [.ExceptHandler (some (.Name x np)) (some n) (b₀ :: suite) pos'] [] [] pos) (sTry yes i sb sh) := by
  refine PS.imp (ps_try_as hs hf hN hi hln hc tk hb hsu) fun D σ H ⟨H0, F0, k0, F, k, env, z, ok, ow, q⟩ => ?_
  refine ⟨H0, F0, k0, F, k, env, z, ok, ow, ?_⟩
  unfold sTry at q
  cases hsb : sb env k with
  | err c' fs env' k' =>
    rw [hsb] at q
    intro dx σ1 H1 F1 vs z1 ok1 ow1 hd r
    simp only at q
    cases hyc : yes c' with
    | none => rw [hyc] at q; exact q.elim
    | some b =>
      rw [hyc] at q
      refine ⟨b, by rw [hK]; exact hy c' b hyc, fun e a ha => ?_, fun e => ?_⟩
      · subst e
        have s2 := Stp.laid (o := .xd vs) z1.st hd
        refine ⟨H0, F0, k0, _, k', env'.set i (.exc c' fs), z1.trans s2, ?_, ow1.set_d rfl, unExc_rd q⟩
        exact (envOk_none (ok1.step s2)).set (e := .exc c' fs) ⟨a, dx, vs, rfl, rfl, upd_same, r.same s2.ff⟩
      · subst e
        exact q dx σ1 H1 F1 vs z1 ok1 ow1 hd r
  | nx env' k' => rw [hsb] at q; exact q
  | rt d k' => rw [hsb] at q; exact q
  | bk env' k' => rw [hsb] at q; exact q
  | ct env' k' => rw [hsb] at q; exact q
  | bad => rw [hsb] at q; exact q
/-- e.field, of the caught exception -/
def sXf (c : String) (fl : Str) (i : Nat) : Sm DL.D := fun env k => match env[i]? with
  | some (.exc c' fs) => if c' = c then .of (fs.lookup fl) k else .bad
  | _ => .bad
theorem pd_xf {a : Addr} {oe : Obj} {cls : Value} {d : Option Addr} {pn : List (Addr × Obj)} {i : Nat} {c : String} {n : Str} (T : XfC X.K (g.cl c)) (hno : PySem.W.findIn X.K (.ref (g.cl c)) n = some none)
    (hz : Zc cls d oe) (hf : ∃ vs, oe.data = .fields vs) (he : PE (X.suite a ((a, oe) :: pn)) e (tVar i)) (hb : attributeBase e n X.env (eval e X.env) = eval e X.env := by rfl) :
    PD (X.suite a ((a, oe) :: pn)) g (xcOf a d cls) W (.Attribute e n pos) (sXf c n i) := by
  refine PE.imp (pe_xf T hno hz hf he hb) fun σ H Q ⟨F, k, env, s, ok, q⟩ => ?_
  unfold sXf at q
  cases hi : env[i]? with
  | none => rw [hi] at q; exact q.elim
  | some en =>
    rw [hi] at q
    cases en with
    | exc c' fs =>
      simp only at q
      by_cases hc : c' = c
      · rw [if_pos hc] at q
        subst hc
        obtain ⟨b, dx, vs, ev, hxc, hdx, rf⟩ := ok.2 i _ hi
        cases d with
        | none => cases hxc
        | some dd =>
          cases hxc
          cases hl : fs.lookup n with
          | none => rw [hl] at q; exact q.elim
          | some y =>
            rw [hl] at q
            obtain ⟨w, h1, h2⟩ := rf.lookup hl
            exact ⟨_, getD_some ev, rfl, rfl, dx, vs, w, rfl, s.sub _ _ hdx, h1, q H F (.refl s) w h2⟩
      · rw [if_neg hc] at q; exact q.elim
    | _ => exact q.elim
/-- isinstance(e, C), e the caught exception -/
def sXi (c : String) (b : Bool) (i : Nat) : Sm DL.D := fun env k => match env[i]? with
  | some (.exc c' fs) => if c' = c then .ok (.bl b) k else .bad
  | _ => .bad
theorem pd_xi {a C2 : Addr} {oe : Obj} {cls : Value} {d : Option Addr} {pn : List (Addr × Obj)} {i : Nat} {c : String} {b : Bool} {x2 : Str} {p2 p3 : Pos} (T : ExcC X.K (g.cl c)) (hki : PySem.W.kitOne X.K (.ref (g.cl c)) (.ref C2) = some b)
    (hz : Zc cls d oe) (hf : ∃ vs, oe.data = .fields vs) (he : PE (X.suite a ((a, oe) :: pn)) e (tVar i)) (hC : PE (X.suite a ((a, oe) :: pn)) (.Name x2 p3) (tC (.ref C2))) (hg : Gl X "isinstance") (hm : X.mg "isinstance" = none)
    (he1 : starEach [e, .Name x2 p3] X.env = (false, eval e X.env) :: starEach [.Name x2 p3] X.env := by rfl)
    (hpl : (backTo pos (starEach [.Name x2 p3] X.env)).any (·.1) = false := by rfl) :
    PD (X.suite a ((a, oe) :: pn)) g (xcOf a d cls) W (.Call (.Name "isinstance" p2) [e, .Name x2 p3] [] pos) (sXi c b i) := by
  refine PE.imp (pe_callB (call_isED T hz hf) hg hm (by decide +kernel) (pa_cons he (pa_cons hC pa_nil) he1) (by decide) (by decide) he1 hpl) fun σ H Q ⟨F, k, env, s, ok, q⟩ => ?_
  unfold sXi at q
  cases hi : env[i]? with
  | none => rw [hi] at q; exact q.elim
  | some en =>
    rw [hi] at q
    cases en with
    | exc c' fs =>
      simp only at q
      by_cases hc : c' = c
      · rw [if_pos hc] at q
        subst hc
        obtain ⟨y, dx, vs, ev, hxc, hdx, rf⟩ := ok.2 i _ hi
        cases d with
        | none => cases hxc
        | some dd =>
          cases hxc
          exact ⟨_, getD_some ev, rfl, ⟨dx, vs, rfl, s.sub _ _ hdx⟩, .ref C2, .ref C2, b, rfl, fun u r => r, hki, q H F (.refl s) _ (.bl _)⟩
      · rw [if_neg hc] at q; exact q.elim
    | _ => exact q.elim
end
end DL
set_option Elab.async false
set_option linter.all false
set_option maxRecDepth 100000
set_option maxHeartbeats 4000000
/-! defs -/
namespace DL
open PySem PySem.Spec L2 PyProof.Rows
open PySem.W (Frag)
def entryE (n : Nat) (ds : List D) : List En := ds.map En.d ++ List.replicate (n - ds.length) En.no
def endD : OutS → Out D
  | .nx _ k => .ok .non k
  | .rt d k => .ok d k
  | .err c fs _ k => .err c fs k
  | _ => .bad
/-- a def by its body -/
def fnD (n : Nat) (s : Ss) : Fn := fun ds k => endD (s (entryE n ds) k)
def selfE (cn : String) (env : List En) (k : DkO) : Out (List (Str × D)) := match env[0]? with
  | some (En.ownO c fs) => if c = cn then .ok fs k else .bad
  | _ => .bad
def endI (cn : String) : OutS → Out (List (Str × D))
  | .nx env k => selfE cn env k
  | .err c fs _ k => .err c fs k
  | _ => .bad
/-- an __init__ by its body -/
def fnI (cn : String) (n : Nat) (s : Ss) : FnI := fun ds k => endI cn (s (.ownO cn [] :: entryE (n - 1) ds) k)
section
variable {P : Program} {w : World} {g : G} {mg : Str → Option Value} {base : Heap} {x qual : Str} {st : Stmt} {f : Addr} {fd : FuncData} {N ps : List Str} {k : Nat} {s : Ss}
theorem entry_ok {xc : XC} {H F : Hp} {kk : DkO} {vs : List V} {ds : List D} {n : Nat} (r : RepAll g F vs ds) : EnvOk g xc kk (vs.map some ++ List.replicate (n - vs.length) none) H F (entryE n ds) := by
  unfold entryE
  refine ⟨by simp [r.length], fun i e he => ?_⟩
  by_cases hi : i < ds.length
  · rw [List.getElem?_append_left (by simpa using hi), List.getElem?_map] at he
    rw [List.getElem?_append_left (by simpa [r.length] using hi), List.getElem?_map]
    cases hd : ds[i]? with
    | none => rw [hd] at he; cases he
    | some d =>
      rw [hd] at he
      cases he
      obtain ⟨v, hv, rv⟩ := r.get hd
      rw [hv]
      exact ⟨v, rfl, rv⟩
  · rw [List.getElem?_append_right (by simpa using hi)] at he
    rcases List.getElem?_eq_some_iff.mp he with ⟨h1, h2⟩
    rw [List.getElem_replicate] at h2
    subst h2
    trivial
theorem entry_noOwn {n : Nat} {ds : List D} {i : Nat} {e : En} (h : (entryE n ds)[i]? = some e) : e.isOwn = false := by
  have := List.mem_of_getElem? h
  unfold entryE at this
  rcases List.mem_append.mp this with z | z
  · obtain ⟨d, _, rfl⟩ := List.mem_map.mp z; rfl
  · rw [(List.mem_replicate.mp z).2]; rfl
theorem own_entry {H : Hp} {σ : L2.St} {n : Nat} {ds : List D} : Own H σ (entryE n ds) :=
  ⟨fun i e h ho => (by rw [entry_noOwn h] at ho; cases ho), fun i j e e' p h ho => (by rw [entry_noOwn h] at ho; cases ho)⟩
/-- a def keeps its promise by trees -/
theorem fn_of_body {n m : Nat} (Fm : Fun g.K x qual st f fd) (S : FnScope N ps (defScope st)) (hn : ps.length = n) (hm : N.length = m)
    (hbody : ∀ (cdv : Value) (A : Around) (outer : List Env) (sh : Shared) (H : Hp) (E : XK), Room k (A.deeper (envOfC qual (defScope st) sh.heap.objs.size f cdv)) → A.guards = some [] →
      PDSs (cxOf (L2.CX P w) P w g.K mg base N qual (defScope st) f cdv A outer sh H E) g .none (fun c d _ H => E c d H) (defBody st) s) : FnG P w g.K mg base (k + 1) f fd ps (SpD g n (fnD m s)) := by
  subst hn hm
  refine Fm.okXG S (fun vs H Q E h => h.1) fun cdv A outer sh H vs Q E hr hgd hsp => ?_
  obtain ⟨hl, F, kk, ds, sta, r, q⟩ := hsp
  refine ⟨_, hbody cdv A outer sh H E hr hgd, H, F, kk, F, kk, entryE N.length ds, .refl sta, entry_ok r, own_entry, ?_⟩
  unfold fnD at q
  cases ho : s (entryE N.length ds) kk with
  | nx env k' => rw [ho] at q; exact fun σ H' F' z _ _ => q H' F' z _ .non
  | rt d k' => rw [ho] at q; exact fun H' F' v z rv => q H' F' z v rv
  | err c fs env k' => rw [ho] at q; exact fun dx σ H' F' vs z _ _ hd rf => q dx H' F' vs z hd rf
  | bk env k' => rw [ho] at q; exact q.elim
  | ct env k' => rw [ho] at q; exact q.elim
  | bad => rw [ho] at q; exact q.elim
/-- an __init__ keeps its promise -/
theorem init_of_body {n m : Nat} {cn : String} (Fm : Fun g.K x qual st f fd) (S : FnScope N ps (defScope st)) (hn : ps.length = n + 1) (hm : N.length = m + 1)
    (hbody : ∀ (cdv : Value) (A : Around) (outer : List Env) (sh : Shared) (H : Hp) (E : XK) (p : Addr), Room k (A.deeper (envOfC qual (defScope st) sh.heap.objs.size f cdv)) → A.guards = some [] →
      PDSs (cxOf (L2.CX P w) P w g.K mg base N qual (defScope st) f cdv A outer sh H E) g (.self p) (fun c d _ H => E c d H) (defBody st) s) : FnG P w g.K mg base (k + 1) f fd ps (SpI g cn n (fnI cn (m + 1) s)) := by
  refine Fm.okXG S (fun vs H Q E h => by rw [hn]; exact h.1) fun cdv A outer sh H vs Q E hr hgd hsp => ?_
  obtain ⟨hl, p, dx, ws, F, kk, ds, rfl, hp, sta, dp, r, q⟩ := hsp
  have fp : F p = none := none_sub sta rem_same
  have subH : ∀ b o, rem H p b = some o → H b = some o := fun b o e => by
    by_cases hb : b = p
    · subst hb; rw [rem_same] at e; cases e
    · rw [rem_ne hb] at e; exact e
  have z0 : Stp g (rem H p) F kk H F kk := by
    refine ⟨⟨fun b o e => subH b o (sta.sub b o e), ?_⟩, .refl _, fun b o _ e => subH b o e, fun b e _ => e, .refl _⟩
    cases kk with
    | none => trivial
    | some d =>
      obtain ⟨h1, h2, h3, h4⟩ := sta.dk
      exact ⟨subH _ _ h1, subH _ _ h2, h3, h4⟩
  have e1 : entryE m ds = entryE (m + 1 - 1) ds := rfl
  have okE : EnvOk g (.self p) kk (L2.start N (.ref p :: ws)) H F (.ownO cn [] :: entryE m ds) := by
    have e0 : L2.start N (.ref p :: ws) = some (.ref p) :: (ws.map some ++ List.replicate (m - ws.length) none) := by
      unfold L2.start
      rw [hm, List.length_cons, List.map_cons, List.cons_append]
      have : m + 1 - (ws.length + 1) = m - ws.length := by omega
      rw [this]
    rw [e0]
    have oe : EnvOk g (.self p) kk (ws.map some ++ List.replicate (m - ws.length) none) H F (entryE m ds) := entry_ok r
    refine ⟨by rw [List.length_cons, List.length_cons, oe.1], fun i e he => ?_⟩
    cases i with
    | zero => cases he; exact ⟨p, dx, [], rfl, hp, fp, dp, .nil, rfl⟩
    | succ i => exact oe.2 i e (by simpa using he)
  have owE : Own (rem H p) (L2.start N (.ref p :: ws)) (.ownO cn [] :: entryE m ds) := by
    refine ⟨fun i e he ho => ?_, fun i j e e' q h1 o1 h2 o2 _ _ => ?_⟩
    · cases i with
      | zero => exact ⟨p, rfl, rem_same⟩
      | succ i => rw [entry_noOwn (i := i) (by simpa using he)] at ho; cases ho
    · cases i with
      | zero =>
        cases j with
        | zero => rfl
        | succ j => rw [entry_noOwn (i := j) (by simpa using h2)] at o2; cases o2
      | succ i => rw [entry_noOwn (i := i) (by simpa using h1)] at o1; cases o1
  refine ⟨_, hbody cdv A outer sh H E p hr hgd, rem H p, F, kk, F, kk, _, z0, okE, owE, ?_⟩
  unfold fnI at q
  rw [← e1] at q
  cases ho : s (.ownO cn [] :: entryE m ds) kk with
  | nx env k' =>
    rw [ho] at q
    intro σ H' F' z ok' _
    change AskF g E (rem H p) F kk (selfE cn env k') _ at q
    unfold selfE at q
    cases h0 : env[0]? with
    | none => rw [h0] at q; exact q.elim
    | some en =>
      rw [h0] at q
      cases en with
      | ownO c fs =>
        simp only at q
        by_cases hc : c = cn
        · rw [if_pos hc] at q
          subst hc
          obtain ⟨a, dx2, vs2, ev, h1, h2, h3, rf, hx⟩ := ok'.2 0 _ h0
          cases hx
          exact q H' F' z dx2 vs2 h1 h2 rf
        · rw [if_neg hc] at q; exact q.elim
      | _ => exact q.elim
  | rt d k' => rw [ho] at q; exact q.elim
  | err c fs env k' => rw [ho] at q; exact fun dx σ H' F' vs z _ _ hd rf => q dx H' F' vs z hd rf
  | bk env k' => rw [ho] at q; exact q.elim
  | ct env k' => rw [ho] at q; exact q.elim
  | bad => rw [ho] at q; exact q.elim
end
end DL
set_option Elab.async false
set_option linter.all false
set_option maxRecDepth 100000
set_option maxHeartbeats 4000000
/-! the deck -/
namespace DL
open PySem PySem.Spec L2
open PySem.W (Frag)
abbrev DKL (l : Addr) (m t : Int) : List (Key × V) := [(.inr "cells", .ref l), (.inr "mixed", .int m), (.inr "draws", .int t)]
def Keep (d l : Addr) (H H' : Hp) : Prop := ∀ b o, b ≠ d → b ≠ l → H b = some o → H' b = some o
theorem Keep.refl {d l : Addr} {H : Hp} : Keep d l H H := fun _ _ _ _ e => e
theorem Keep.trans {d l : Addr} {H H1 H2 : Hp} (a : Keep d l H H1) (b : Keep d l H1 H2) : Keep d l H H2 := fun x o h1 h2 e => b x o h1 h2 (a x o h1 h2 e)
theorem Same.keep {d l : Addr} {H H' : Hp} (s : Same H H') : Keep d l H H' := fun b o _ _ e => s b o e
theorem same_new {H H' : Hp} {p : Addr} {o : HO} (s : Same H H') (np : H' p = none) : Same H (upd H' p o) := fun c q e => by
  rw [upd_ne (ne_of_none (s c q e) np)]
  exact s c q e
theorem put_draws {l : Addr} {m t u : Int} : putK (DKL l m t) (.inr "draws") (.int u) = DKL l m u := by rfl
theorem val_cells {l : Addr} {m t : Int} : valV (DKL l m t) (.inr "cells") = some (.ref l) := by rfl
theorem val_mixed {l : Addr} {m t : Int} : valV (DKL l m t) (.inr "mixed") = some (.int m) := by rfl
theorem val_draws {l : Addr} {m t : Int} : valV (DKL l m t) (.inr "draws") = some (.int t) := by rfl
theorem get_cells {H : Hp} {d l : Addr} {m t : Int} (h : H d = some (.dK (DKL l m t))) : DGet H d (.str "cells") (some (.ref l)) := .inl ⟨_, .inr "cells", .inl h, rfl, val_cells.symm⟩
theorem get_mixed {H : Hp} {d l : Addr} {m t : Int} (h : H d = some (.dK (DKL l m t))) : DGet H d (.str "mixed") (some (.int m)) := .inl ⟨_, .inr "mixed", .inl h, rfl, val_mixed.symm⟩
theorem get_draws {H : Hp} {d l : Addr} {m t : Int} (h : H d = some (.dK (DKL l m t))) : DGet H d (.str "draws") (some (.int t)) := .inl ⟨_, .inr "draws", .inl h, rfl, val_draws.symm⟩
theorem put_draws' {H : Hp} {d l : Addr} {m t u : Int} (h : H d = some (.dK (DKL l m t))) : DPut H d (.str "draws") (.int u) (upd H d (.dK (DKL l m u))) := .inl ⟨_, .inr "draws", h, rfl, by show 3 < sizeLine; decide, by rw [put_draws]⟩
theorem ints_ok (ns : List Int) : (ns.map V.int).all okV = true := by
  rw [List.all_eq_true]
  intro x hx
  obtain ⟨i, _, rfl⟩ := List.mem_map.mp hx
  rfl
abbrev rMd : R2 := rI (fun x j => 0 < j) fun i j => V.int (i % j)
abbrev rMl : R2 := rI CMul fun i j => V.int (i * j)
abbrev rAd : R2 := rI0 fun i j => V.int (i + j)
abbrev rNt : List V → Hp → VK → Prop := fun xs H Q => (∃ i, xs = [V.int i] ∧ Q (V.int i) H) ∨ ∃ k, xs = [V.bl k] ∧ Q (V.int (if k = true then 1 else 0)) H
theorem cmulL {i j : Int} (h : 0 ≤ i ∧ i < 18446744073709551616) : CMul i j := .inl ⟨by omega, by omega⟩
theorem cmulR {i j : Int} (h : 0 ≤ j ∧ j < 18446744073709551616) : CMul i j := .inr ⟨by omega, by omega⟩
theorem md_lt (x : Int) {j : Int} (h : 0 < j) : 0 ≤ x % j ∧ x % j < j := ⟨Int.emod_nonneg _ (by omega), Int.emod_lt_of_pos _ h⟩
/-- what a draw gives, of the figure -/
def tailR (c0 t F j : Int) : Int :=
  let f2 := (F % 2147483629 + 60623 * t * t + c0) * 40692 % 2147483647
  let f3 := (f2 * f2 + 69621 * t + c0) % 2147483579
  (f3 * 39373 % 2147483549).fdiv 64 % j
theorem tailR_lt {c0 t F j : Int} (h : 0 < j) : 0 ≤ tailR c0 t F j ∧ tailR c0 t F j < j := md_lt _ h
theorem drop_le {ns : List Int} (h : ns.length ≤ 63) : ns.dropLast.length ≤ 63 := by rw [List.length_dropLast]; omega
theorem push_le {ns : List Int} {x : Int} (h : ns.length ≤ 63) (h0 : ns ≠ []) : (ns.dropLast ++ [x]).length ≤ 63 := by
  have := List.length_pos_iff.mpr h0
  rw [List.length_append, List.length_dropLast, List.length_singleton]; omega
/-- a draw below j -/
def drawK (c0 : Int) (k : Dk) (j : Int) : Int × Dk :=
  if h : k.ns = [] then (tailR c0 (k.t + 1) k.m j, ⟨k.c, k.ns, k.m, k.t + 1, k.len⟩)
  else if 10 ^ 18 ≤ k.ns.getLast h then (k.ns.getLast h % j, ⟨k.c, k.ns.dropLast ++ [(k.ns.getLast h).fdiv j], k.m, k.t + 1, push_le k.len h⟩)
  else (tailR c0 (k.t + 1) (k.m + k.ns.getLast h % 2147483563) j, ⟨k.c, k.ns.dropLast, k.m, k.t + 1, drop_le k.len⟩)
def tOk (t : Int) : Bool := decide (0 ≤ t) && decide (t < 2 ^ 63)
def bOk (b : Int) : Bool := decide (0 < b) && decide (b < 1073741824)
def drawF (c0 : Int) : Fn := fun ds k => match ds, k with
  | [.dk, .int b], some k => if bOk b && tOk k.t then .ok (.int (drawK c0 k b).1) (some (drawK c0 k b).2) else .bad
  | _, _ => .bad
/-- what is known of a draw -/
theorem draw_ok {c0 b : Int} {k : Dk} (hb : bOk b = true) (ht : tOk k.t = true) : ∃ r k', drawF c0 [.dk, .int b] (some k) = .ok (.int r) (some k') ∧ 0 ≤ r ∧ r < b ∧ k'.t = k.t + 1 := by
  have hb' : 0 < b := by
    simp only [bOk, Bool.and_eq_true, decide_eq_true_eq] at hb
    exact hb.1
  refine ⟨(drawK c0 k b).1, (drawK c0 k b).2, ?_, ?_⟩
  · unfold drawF
    simp only [hb, ht, Bool.and_self, if_true]
  · unfold drawK
    by_cases h : k.ns = []
    · rw [dif_pos h]; exact ⟨(tailR_lt hb').1, (tailR_lt hb').2, rfl⟩
    · rw [dif_neg h]
      by_cases h2 : 10 ^ 18 ≤ k.ns.getLast h
      · rw [if_pos h2]; exact ⟨(md_lt _ hb').1, (md_lt _ hb').2, rfl⟩
      · rw [if_neg h2]; exact ⟨(tailR_lt hb').1, (tailR_lt hb').2, rfl⟩
theorem drawF_some {c0 : Int} {ds : List D} {k : DkO} {g : G} {E : XK} {H F : Hp} {Q : D → Hp → Hp → DkO → Prop} (q : AskF g E H F k (drawF c0 ds k) Q) : ∃ b kk, ds = [.dk, .int b] ∧ k = some kk ∧ bOk b = true ∧ tOk kk.t = true ∧ AskF g E H F k (.ok (.int (drawK c0 kk b).1) (some (drawK c0 kk b).2)) Q := by
  unfold drawF at q
  split at q
  · rename_i b kk
    by_cases hc : (bOk b && tOk kk.t) = true
    · rw [if_pos hc] at q
      rw [Bool.and_eq_true] at hc
      exact ⟨b, kk, rfl, rfl, hc.1, hc.2, q⟩
    · rw [if_neg hc] at q; exact q.elim
  · exact q.elim
theorem deck_stp {g : G} {H F H' : Hp} {k k' : Dk} (s : Sta g H F (some k)) (kp : Keep g.dk k.c H H') (h1 : H' g.dk = some (.dK (DKL k.c k'.m k'.t))) (h2 : H' k.c = some (.lst (k'.ns.map V.int))) (hc : k'.c = k.c) : Stp g H F (some k) H' F (some k') := by
  obtain ⟨e1, e2, e3, e4⟩ := s.dk
  refine ⟨⟨fun b o e => kp b o ?_ ?_ (s.sub b o e), by rw [hc]; exact h1, by rw [hc]; exact h2, e3, by rw [hc]; exact e4⟩, .refl _, fun b o hb e => kp b o (fun z => hb (.inl z)) (fun z => hb (.inr z)) e, fun b e _ => e, hc.symm⟩
  · intro z; subst z; rw [e3] at e; cases e
  · intro z; subst z; rw [e4] at e; cases e
theorem repDk {g : G} {F : Hp} {v : V} (h : Rep g F v .dk) : v = .ref g.dk := by cases h; rfl
theorem cut_take {ns : List Int} {k : Nat} : cutV (ns.map V.int) none (some (k : Int)) = (ns.take k).map V.int := by
  unfold cutV
  rw [HT.sIx_none, HT.sIx_nat, List.drop_zero, Nat.sub_zero, ← List.map_take, List.length_map]
  congr 1
  rcases Nat.le_total k ns.length with z | z
  · rw [Nat.min_eq_left z]
  · rw [Nat.min_eq_right z, List.take_length, List.take_of_length_le z]
/-- the new deck -/
def spDeck (K : Frag) : Sp := fun vs H Q _ => ∃ (a : Addr) (ns : List Int), vs = [.ref a] ∧ SqL K H a (ns.map V.int) ∧ ∀ (d : Addr) (k : Dk) H', k.t = 0 → d ≠ k.c → H' d = some (.dK (DKL k.c k.m k.t)) → H' k.c = some (.lst (k.ns.map V.int)) → Q (.ref d) H'
end DL
set_option Elab.async false
set_option linter.all false
set_option maxRecDepth 100000
set_option maxHeartbeats 4000000
/-! more operators, forms of statements -/
namespace DL
open PySem PySem.Spec L2
open PySem.W (Frag)
section
variable {X : Cx} {g : G} {xc : XC} {W : WX} {e o tg iter : Expr} {es : List Expr} {f h fo : Sm D} {p : Sm Bool} {l its : Sm (List D)} {m : Sm (List En)} {pos pos' : Pos} {st : Stmt} {rest body orelse : List Stmt} {s t u : Ss}
/-! text * n, tuple * n -/
def mulS (x : Str) (n : Nat) : Str := ⟨(List.replicate n x.cps.toList).flatten.toArray⟩
def mulSD : D → D → Option D
  | .str x, .int n => if decide (0 ≤ n) && decide (n ≤ 1000) && decide (x.length ≤ 1000) then some (.str (mulS x n.toNat)) else none
  | _, _ => none
theorem txt_mul {x : Str} {n : Int} (h : 0 ≤ n) : Txt.mul x n = mulS x n.toNat := by
  have key : ∀ (k : Nat) (acc : Array Nat), ((List.replicate k x.cps).foldl (· ++ ·) acc) = acc ++ (List.replicate k x.cps.toList).flatten.toArray := by
    intro k
    induction k with
    | zero => intro acc; simp
    | succ k ih =>
      intro acc
      rw [List.replicate_succ, List.foldl_cons, ih, List.replicate_succ, List.flatten_cons, ← List.append_toArray, Array.append_assoc]
  unfold Txt.mul mulS
  by_cases h1 : n < 1
  · have : n = 0 := by omega
    subst this
    rfl
  · rw [if_neg h1]
    by_cases h2 : (n == 1 || x.length == 0) = true
    · rw [if_pos h2]
      rw [Bool.or_eq_true] at h2
      rcases h2 with z | z
      · have : n = 1 := eq_of_beq z
        subst this
        show x = ⟨(List.replicate 1 x.cps.toList).flatten.toArray⟩
        simp
      · have : x.cps.size = 0 := eq_of_beq z
        have e : x.cps = #[] := Array.eq_empty_of_size_eq_zero this
        obtain ⟨c⟩ := x
        subst e
        simp
    · rw [if_neg h2, key]
      simp
theorem mulS_len (x : Str) (n : Nat) : (mulS x n).length = n * x.length := by
  show (List.replicate n x.cps.toList).flatten.toArray.size = n * x.cps.size
  rw [List.size_toArray, List.length_flatten]
  simp
theorem mulS_ok {x : Str} {n : Nat} (h : SOk x) (hl : n * x.length ≤ sizeLine) : SOk (mulS x n) := by
  refine ⟨by rw [mulS_len]; exact hl, strOk_sub h.2 fun c hc => ?_⟩
  have hc' : c ∈ (List.replicate n x.cps.toList).flatten := hc
  rw [List.mem_flatten] at hc'
  obtain ⟨l, h1, h2⟩ := hc'
  rw [(List.mem_replicate.mp h1).2] at h2
  exact h2
theorem mulOk_of {x : Str} {n : Int} (h0 : 0 ≤ n) (h1 : n ≤ 1000) (hx : x.length ≤ 1000) : MulOk x n := by
  refine ⟨?_, fun h _ => ?_, fun h _ => ?_⟩
  · rw [Bool.or_eq_false_iff]; exact ⟨decide_eq_false (by omega), decide_eq_false (by omega)⟩
  · have hn : 0 < n := by omega
    have : 9223372036854775 ≤ (2 ^ 63 - 1 : Int) / n := by
      rw [Int.le_ediv_iff_mul_le hn]
      omega
    omega
  · have : x.length * n.toNat ≤ 1000000 := Nat.le_trans (Nat.mul_le_mul hx (show n.toNat ≤ 1000 by omega)) (by decide)
    unfold PySem.Builtin.Str.tooLong
    have := sizeLine_eq
    exact decide_eq_false (by omega)
theorem opd_mulS : OpD X g (binaryOp .Mult) mulSD :=
  ⟨_, op_mulS, fun H F k x y a b d Q s ra rb e q => by
    unfold mulSD at e
    split at e
    · split at e
      · cases e
        rename_i z n hz
        simp only [Bool.and_eq_true, decide_eq_true_eq] at hz
        obtain ⟨rfl, hx⟩ := repStr ra
        rw [repInt rb]
        refine ⟨_, n, rfl, rfl, mulOk_of hz.1.1 hz.1.2 hz.2, ?_⟩
        rw [txt_mul hz.1.1]
        refine q _ H F (.refl s) (.str (mulS_ok hx ?_))
        have : n.toNat * z.length ≤ 1000 * 1000 := Nat.mul_le_mul (by omega) hz.2
        exact Nat.le_trans this (by decide)
      · cases e
    · cases e⟩
def repTD : D → D → Option D
  | .tup xs, .int n => if decide (2 ≤ n) && decide (n ≤ 1000) && decide (xs.length ≤ 1000) && !xs.isEmpty then some (.tup (List.replicate n.toNat xs).flatten) else none
  | _, _ => none
theorem opd_repT (hK : X.K = g.K) : OpD X g (binaryOp .Mult) repTD :=
  ⟨_, op_repT, fun H F k x y a b d Q s ra rb e q => by
    unfold repTD at e
    split at e
    · split at e
      · cases e
        rename_i xs n hz
        simp only [Bool.and_eq_true, decide_eq_true_eq, Bool.not_eq_true'] at hz
        obtain ⟨c, vs, rfl, h1, r1⟩ := repTup ra
        rw [repInt rb]
        refine ⟨c, n, vs, rfl, rfl, by rw [hK]; exact s.sub.seqT h1, fun z => ?_, hz.1.1.1, hz.1.1.2, by rw [r1.length]; exact hz.1.2, fun pp np => ?_⟩
        · subst z
          cases r1
          simp at hz
        · have st := Stp.laid (o := .tup (List.replicate n.toNat vs).flatten) s np
          exact q _ _ _ st (.tup (SqT.of upd_same) (RepAll.rep (r1.same st.ff) _))
      · cases e
    · cases e⟩
def timesD : D → D → Option D := orD (orD mulD repD) (orD mulSD repTD)
theorem opd_times (hK : X.K = g.K) : OpD X g (binaryOp .Mult) timesD := opd_mul.or (opd_mulS.or (opd_repT hK))
def sNeg (f : Sm D) : Sm D := fun env k => (f env k).bind fun d k1 => match d with
  | .int i => .ok (.int (-i)) k1
  | _ => .bad
theorem pd_neg' (ha : PD X g xc W e f) : PD X g xc W (.UnaryOp .USub e pos) (sNeg f) := pd_neg ha

/-! name = [.. for ..], on one line, known at once -/
theorem setN_frz {H0 F0 : Hp} {k0 k : DkO} {env : List En} {D : Ends} {i : Nat} (q : AskS g xc W H0 F0 k0 D (sSet i (sFrz l) env k)) : AskS g xc W H0 F0 k0 D (sSetN i l env k) := by
  unfold sSet sFrz at q
  unfold sSetN
  cases hl : l env k with
  | bad => rw [hl] at q; exact q
  | err c fs k' => rw [hl] at q; exact q
  | ok ds k' =>
    rw [hl] at q
    intro σ H F z ok ow
    by_cases hi : i < env.length
    · have e1 : (env.set i (.own ds))[i]? = some (.own ds) := List.getElem?_set_self hi
      obtain ⟨F1, z1, ok1, ow1⟩ := frz_step z ok ow e1
      have e2 : (env.set i (.own ds)).set i (frzE (.own ds)) = env.set i (.d (.lst ds)) := List.set_set ..
      rw [e2] at ok1 ow1
      exact q _ _ _ z1 ok1 ow1
    · have e1 : env.set i (.own ds) = env := List.set_eq_of_length_le (by omega)
      have e2 : env.set i (.d (.lst ds)) = env := List.set_eq_of_length_le (by omega)
      rw [e1] at ok ow
      refine q σ H F z ?_ ?_
      · show EnvOk g xc k' σ H F (env.set i (.d (.lst ds))); rw [e2]; exact ok
      · show Own H0 σ (env.set i (.d (.lst ds))); rw [e2]; exact ow
theorem pds_setD {i : Nat} (hh : PDS X g xc W st (sSetN i l)) : PDS X g xc W st (sSet i (sFrz l)) :=
  PS.imp hh fun D σ H ⟨H0, F0, k0, F, k, env, z, ok, ow, q⟩ => ⟨H0, F0, k0, F, k, env, z, ok, ow, setN_frz q⟩

/-! names = values, some of them cells: by a tuple -/
theorem EnsOk.hid {Hs H F : Hp} {k : DkO} {vs : List V} {es : List En} {ps : List Addr} {z : Addr} {o : HO} (h : EnsOk g Hs H F k vs es ps) (nz : H z = none) : EnsOk g Hs (upd H z o) F k vs es ps := by
  induction h with
  | nil => exact .nil
  | d r _ ih => exact .d r ih
  | own hq fq dq nq hn r _ ih => exact .own (by rw [upd_ne (ne_of_none hq nz)]; exact hq) fq dq nq hn r ih
theorem EnsOk.length {Hs H F : Hp} {k : DkO} {vs : List V} {es : List En} {ps : List Addr} (h : EnsOk g Hs H F k vs es ps) : vs.length = es.length := by
  induction h with
  | nil => rfl
  | d r _ ih => rw [List.length_cons, List.length_cons, ih]
  | own _ _ _ _ _ _ _ ih => rw [List.length_cons, List.length_cons, ih]
theorem setsE_len : ∀ {is : List Nat} {es env env' : List En}, setsE is es env = some env' → es.length = is.length
  | [], [], _, _, _ => rfl
  | [], _ :: _, _, _, h => by simp [setsE] at h
  | _ :: _, [], _, _, h => by simp [setsE] at h
  | _ :: is, _ :: es, env, env', h => by
    rw [List.length_cons, List.length_cons, setsE_len (is := is) (by simpa [setsE] using h)]
theorem tgTs_names {K : Frag} {H : Hp} {Q : L2.St → Hp → Prop} : ∀ (is : List Nat) (vs : List V) (σ σ' : L2.St), setsV is vs σ = some σ' → Q σ' H → tgTs K (is.map Tgt.name) vs σ H Q
  | [], [], σ, σ', h, q => by
    simp only [setsV, Option.some.injEq] at h
    subst h
    simp only [List.map_nil, tgTs]
    exact ⟨rfl, q⟩
  | [], _ :: _, _, _, h, _ => by simp [setsV] at h
  | _ :: _, [], _, _, h, _ => by simp [setsV] at h
  | i :: is, v :: vs, σ, σ', h, q => by
    simp only [setsV] at h
    simp only [List.map_cons, tgTs, tgT]
    exact ⟨v, vs, rfl, tgTs_names is vs _ σ' h q⟩
theorem pds_parT {tgs : List Expr} {is : List Nat} {kt : Nat} {pt pt2 : Pos} {x1 : Nat} (hK : X.K = g.K) (hc : X.calm = true) (hl : is.length ≤ 1000) (hh : PDGs X g tgs (is.map Tgt.name)) (ha : PDM X g xc W es m)
    (hn : (assignEach tgs X.env).length = (is.map Tgt.name).length := by rfl) (hst : (assignEach tgs X.env).findIdx? (·.1) = none := by rfl)
    (hs : swapsWithSole [.Tuple tgs kt pt] (.Tuple es x1 pt2) pos.line X.env = pure false := by rfl) (hw : swappedStores [.Tuple tgs kt pt] (.Tuple es x1 pt2) X.env = pure none := by rfl)
    (h1 : (assignEach [.Tuple tgs kt pt] X.env).map (·.2) = [assign (.Tuple tgs kt pt) X.env] := by rfl) : PDS X g xc W (.Assign [.Tuple tgs kt pt] (.Tuple es x1 pt2) pos) (sPar is m) := by
  refine PS.imp (ps_asg (pe_tup ha) (pdg_tup (pos := pt) (kk := kt) hK hc hh hn hst) hs hw h1) fun D σ H ⟨H0, F0, k0, F, k, env, z, ok, ow, q⟩ => ?_
  refine ⟨F, k, env, z.st, ok, (askS_ask z ok ow q).imp fun ens H1 F1 k1 _ s1 ⟨z1, ok1, q1⟩ vs ps hes => ?_⟩
  cases hse : setsE is ens env with
  | none => rw [hse] at q1; exact q1.elim
  | some env' =>
    rw [hse] at q1
    have hlen : vs.length = is.length := hes.length.trans (setsE_len hse)
    refine ⟨Nat.le_of_lt (small1000 (by rw [hlen]; exact hl)), fun p np => ?_⟩
    have s2 := Stp.hid (o := .tup vs) z1.st np
    obtain ⟨σ', h1, h2, h3⟩ := sets_rd (H0 := H0) (fun q hq => z.no0 hq) (hes.hid (o := .tup vs) np) is (ok1.step s2) ow (fun q hq => fresh_not ok (hes.mem q hq)) hse
    have fin := q1 _ _ _ (z1.trans s2) h2 h3
    show tgT g.K (.tup (is.map Tgt.name)) (.ref p) σ (upd H1 p (.tup vs)) D.nx
    simp only [tgT]
    exact ⟨p, vs, rfl, SqT.of upd_same, by rw [hlen, List.length_map], tgTs_names is vs σ σ' h1 fin⟩
end
theorem fnG_never {P : Program} {w : World} {K : Frag} {mg : Str → Option Value} {base : Heap} {k : Nat} {f : Addr} {fd : FuncData} {ps : List Str} {g : G} {n : Nat} (hn : ps.length = n) : FnG P w K mg base k f fd ps (SpD g n fun _ _ => .bad) :=
  ⟨fun vs H Q E h => by rw [hn]; exact h.1, fun A outer s H args us vs Q E hr hgd e0 hb r hsp => (by obtain ⟨_, F, k, ds, _, _, q⟩ := hsp; exact q.elim)⟩
section
variable {X : Cx} {g : G}
/-! a bool with a number -/
def b2n (b : Bool) : Int := if b = true then 1 else 0
theorem op_add_bi : OpR X (binaryOp .Add) (fun x y H Q => ∃ b i, x = .bl b ∧ y = .int i ∧ Q (.int (b2n b + i)) H) := by
  intro pins s σ H x y v u Q I rx ry h
  obtain ⟨k, i, rfl, rfl, q⟩ := h
  obtain ⟨t, rfl⟩ := ry
  cases rx
  exact PySem.IntBool.add_bool_int ⟨.int (b2n k + i), H, I.tok _, ⟨_, rfl⟩, q⟩
theorem op_sub_bi : OpR X (binaryOp .Sub) (fun x y H Q => ∃ b i, x = .bl b ∧ y = .int i ∧ Q (.int (b2n b - i)) H) := by
  intro pins s σ H x y v u Q I rx ry h
  obtain ⟨k, i, rfl, rfl, q⟩ := h
  obtain ⟨t, rfl⟩ := ry
  cases rx
  exact PySem.IntBool.sub_bool_int ⟨.int (b2n k - i), H, I.tok _, ⟨_, rfl⟩, q⟩
def biD (f : Int → Int → Int) : D → D → Option D
  | .bl b, .int i => some (.int (f (b2n b) i))
  | _, _ => none
theorem opd_bi {f : Value → Value → Sem Value} {h : Int → Int → Int} (ho : OpR X f (fun x y H Q => ∃ b i, x = .bl b ∧ y = .int i ∧ Q (.int (h (b2n b) i)) H)) : OpD X g f (biD h) :=
  ⟨_, ho, fun H F k x y a b d Q s ra rb e q => by
    unfold biD at e
    split at e
    · cases e
      rw [repBl ra, repInt rb]
      exact ⟨_, _, rfl, rfl, q _ H F (.refl s) (.int _)⟩
    · cases e⟩
def plusD : D → D → Option D := orD catD (biD fun i j => i + j)
def minusD : D → D → Option D := orD subD (biD fun i j => i - j)
theorem opd_plus (hK : X.K = g.K) : OpD X g (binaryOp .Add) plusD := (opd_add hK).or (opd_bi op_add_bi)
theorem opd_minus : OpD X g (binaryOp .Sub) minusD := opd_sub.or (opd_bi op_sub_bi)
theorem call_str_bl : CallR X (.type "str") (fun xs H Q => ∃ b : Bool, xs = [.bl b] ∧ Q (.str (if b = true then "True" else "False")) H) := by
  intro pins s σ H xs us Q I r h
  obtain ⟨b, rfl, q⟩ := h
  obtain ⟨u, rfl, rx⟩ := vals1 r
  cases rx
  exact PySem.P.str_of_bool ⟨.str _, H, I.tok _, ⟨_, rfl⟩, q⟩
def strBD : List D → Option D
  | [.bl b] => some (.str (if b = true then "True" else "False"))
  | _ => none
theorem callo_strB : CallO X g (.type "str") (pureO strBD) := CallO.pure call_str_bl fun H F k xs ds d Q s rs e q => by
  unfold strBD at e
  split at e
  · cases e
    rename_i b
    obtain ⟨v, rfl, r⟩ := rep1 rs
    rw [repBl r]
    refine ⟨b, rfl, q _ H F (.refl s) (.str ?_)⟩
    cases b <;> exact ⟨by decide +kernel, by decide +kernel⟩
  · cases e
def textD : List D → DkO → Out D := orO (pureO strD) (pureO strBD)
theorem callo_text : CallO X g (.type "str") textD := CallO.or callo_str callo_strB
end
theorem pss_ex {X : Cx} {sts : List Stmt} {ι : Type} {t : ι → TS} (h : ∀ i, PSs X sts (t i)) : PSs X sts (fun D σ H => ∃ i, t i D σ H) := ⟨fun pins s σ H D I ⟨i, q⟩ => (h i).run pins s σ H D I q⟩
/-- a law's own promise -/
def spLaw (K : Frag) : Sp := fun vs H Q _ => ∃ (a : Addr) (ns : List Int), vs = [.ref a] ∧ SqL K H a (ns.map V.int) ∧ ∀ H', Q (.bl true) H'
theorem rep_no {n i : Nat} {e : En} (h : (List.replicate n En.no)[i]? = some e) : e = .no := by
  obtain ⟨h3, h4⟩ := List.getElem?_eq_some_iff.mp h
  rw [List.getElem_replicate] at h4
  exact h4.symm
theorem law_noOwn {n i : Nat} {e : En} (h : (En.no :: .d .dk :: List.replicate n En.no)[i]? = some e) : e.isOwn = false := by
  match i, h with
  | 0, h => cases h; rfl
  | 1, h => cases h; rfl
  | i + 2, h => rw [rep_no (i := i) (n := n) h]; rfl
/-- the law's rest, behind its deck -/
theorem law_rest {K : Frag} {cl : String → Addr} {own : List String} {d : Addr} {k : Dk} {H : Hp} {Q : VK} {W : WX} {a : V} {n : Nat} {s : Ss} (hne : d ≠ k.c) (h1 : H d = some (.dK (DKL k.c k.m k.t))) (h2 : H k.c = some (.lst (k.ns.map V.int)))
    (hs : ∃ k', s (.no :: .d .dk :: List.replicate n .no) (some k) = .rt (.bl true) k') (hq : ∀ H', Q (.bl true) H') :
    tS (⟨K, cl, own, d⟩ : G) .none W s { nx := fun _ H' => Q .non H', rt := Q } (some a :: some (.ref d) :: List.replicate n none) H := by
  obtain ⟨k', hs⟩ := hs
  have sta : Sta (⟨K, cl, own, d⟩ : G) H (fun _ => none) (some k) := ⟨fun b o e => (by cases e), h1, h2, rfl, rfl⟩
  refine ⟨H, fun _ => none, some k, fun _ => none, some k, .no :: .d .dk :: List.replicate n .no, .refl sta, ⟨by simp, fun i e he => ?_⟩, ⟨fun i e he ho => ?_, fun i j e e' p he ho => ?_⟩, ?_⟩
  · match i, he with
    | 0, he => cases he; trivial
    | 1, he => cases he; exact ⟨_, rfl, .dk⟩
    | i + 2, he => rw [rep_no (i := i) (n := n) he]; trivial
  · rw [law_noOwn he] at ho; cases ho
  · rw [law_noOwn he] at ho; cases ho
  · rw [hs]
    intro H' F v _ r
    rw [repBl r]
    exact hq H'
end DL
set_option Elab.async false
set_option linter.all false
set_option maxRecDepth 100000
set_option maxHeartbeats 4000000
namespace DL
open PySem PySem.Spec L2
open PySem.W (Frag)
theorem ini_of {K : Frag} {cB cL : Addr} {nmB qB : Str} {NB : Addr} {bsB : List Value} {snB : List Str} {subB : List Value} {abB : Bool} {colB : Option Bool} {ddB : Option Addr} {m0 m1 m2 m3 m5 : Option Value}
    (xL : K.lookup cB = some (excClassObj nmB qB cB NB bsB [.ref cL, .type "Exception", .type "BaseException", .type "object"] true snB subB abB colB ddB m0 m1 m2 m3 m5 "Exception.__new__")) :
    PySem.W.excInitIn K cB PySem.Lw.exTail "Exception.__new__" = true ∧ PySem.W.excOver K cB PySem.Lw.exTail = true := by
  have et : PySem.W.excTail PySem.Lw.exTail [.ref cL, .type "Exception", .type "BaseException", .type "object"] = true := by
    show ((([.type "Exception", .type "BaseException", .type "object"] : List Value)) == PySem.Lw.exTail) = true
    decide +kernel
  refine ⟨?_, ?_⟩
  · unfold PySem.W.excInitIn
    rw [xL]
    show (((cB == cB && ("Exception.__new__" : String) == "Exception.__new__") && !false) && PySem.W.excTail PySem.Lw.exTail [.ref cL, .type "Exception", .type "BaseException", .type "object"]) = true
    rw [et]
    simp
  · unfold PySem.W.excOver PySem.W.clsIn
    rw [xL]
    show (cB == cB && PySem.W.excTail PySem.Lw.exTail [.ref cL, .type "Exception", .type "BaseException", .type "object"]) = true
    rw [et]
    simp
theorem kit_of2 {K : Frag} {cB cL : Addr} (h2 : PySem.W.isClsIn K cL = true) (h3 : PySem.W.typeIn K (.ref cL) = some (.type "type")) (h4 : PySem.W.subIn K (.ref cB) (.ref cL) = some true) : PySem.W.kitOne K (.ref cB) (.ref cL) = some true := by
  unfold PySem.W.kitOne
  split
  · rfl
  · have e2 : ((PySem.W.clsIn K cL).isSome && PySem.W.typeIn K (.ref cL) == some (.type "type")) = true := by
      have h2' : (PySem.W.clsIn K cL).isSome = true := h2
      rw [h2', h3] <;> rfl
    show (if ((PySem.W.clsIn K cL).isSome && PySem.W.typeIn K (.ref cL) == some (.type "type")) = true then PySem.W.subIn K (.ref cB) (.ref cL) else none) = some true
    rw [if_pos e2]
    exact h4
theorem walk {l : PySem.W.OpenLaw} {q : Program} {loose : List Str} {XP : (Str → Option Value) → Heap → Prop} {YP : World → Heap → Prop} {d : DefRec} {K : Params → Frag} {k : Nat} (hk1 : callerA.depth + 3 * k + 5 < recursionLimit) (hk2 : callerA.units + 16 * k + 200 < cLine) (hn : l.most = some 63) (hdf : d.params.defaults = [])
    (hY : ∀ (w : World) (h : Heap), YP w h → (K w.params).In h)
    (F : ∀ (w : World) (mg : Str → Option Value) (fa : Addr) (h : Heap), (K w.params).In h → h.Ns mainGlobals mg → mg d.name = some (.ref fa) →
      ∃ fd : FuncData, (∀ (s : Shared) (u : Value), BindsTo s fd ⟨[u], []⟩ [("_law_script", u)]) ∧ ∀ base : Heap, (K w.params).In base → base.Ns mainGlobals mg → FnG l.prog w (K w.params) mg base k fa fd ["_law_script"] (spLaw (K w.params))) :
    PySem.W.WalkO q loose XP YP l.row.toRowW d [] (fun f vs => PySem.call f vs) :=
  L2.walkG_of (n := 63) (k := k) (x := "_law_script") (sp := spLaw) hn (by decide) hdf ⟨rfl, hk1, hk2⟩ hY F (fun _ _ a ns hl _ hS => ⟨a, ns, rfl, hS, fun _ => rfl⟩)
end DL
set_option Elab.async false
set_option linter.all false
set_option maxRecDepth 100000
set_option maxHeartbeats 4000000
/-! reckoning by trees -/
namespace DL
open PySem PySem.Spec L2
open PySem.W (Frag)
@[simp] theorem outS_ok {α : Type} {a : α} {k : DkO} {env : List En} {R : α → DkO → OutS} : outS (.ok a k) env R = R a k := rfl
@[simp] theorem outS_err {α : Type} {c : String} {fs : List (Str × D)} {k : DkO} {env : List En} {R : α → DkO → OutS} : outS (.err c fs k : Out α) env R = .err c fs env k := rfl
@[simp] theorem outS_bad {α : Type} {env : List En} {R : α → DkO → OutS} : outS (.bad : Out α) env R = .bad := rfl
@[simp] theorem endD_rt {d : D} {k : DkO} : endD (.rt d k) = .ok d k := rfl
@[simp] theorem endD_nx {env : List En} {k : DkO} : endD (.nx env k) = .ok .non k := rfl
@[simp] theorem endD_err {c : String} {fs : List (Str × D)} {env : List En} {k : DkO} : endD (.err c fs env k) = .err c fs k := rfl
section
variable {env : List En} {k k' : DkO} {f h q : Sm D} {p p' : Sm Bool} {l lk its : Sm (List D)} {m : Sm (List En)} {d : D} {s t : Ss}
/-! ### one step each -/
@[simp] theorem sC_eq {d : D} : sC d env k = .ok d k := id rfl
@[simp] theorem sV_eq {i : Nat} : sV i env k = match env[i]? with | some (.d x) => .ok x k | _ => .bad := id rfl
@[simp] theorem lNil_eq : lNil env k = .ok [] k := id rfl
@[simp] theorem lCons_eq : lCons f l env k = (f env k).bind fun d k1 => (l env k1).bind fun ds k2 => .ok (d :: ds) k2 := id rfl
@[simp] theorem lStar_eq : lStar f l env k = (f env k).bind fun d k1 => match seqOf d with | some xs => (l env k1).bind fun ds k2 => .ok (xs ++ ds) k2 | none => .bad := id rfl
@[simp] theorem sRet_eq : sRet f env k = outS (f env k) env fun d k1 => .rt d k1 := id rfl
@[simp] theorem sExpr_eq : sExpr f env k = outS (f env k) env fun _ k1 => .nx env k1 := id rfl
@[simp] theorem sApp_eq {op : List D → DkO → Out D} : sApp op l env k = (l env k).bind op := id rfl
@[simp] theorem pureO_eq {op : List D → Option D} {ds : List D} : pureO op ds k = .of (op ds) k := id rfl
@[simp] theorem sOp_eq {op : D → D → Option D} : sOp op f h env k = (f env k).bind fun x k1 => (h env k1).bind fun y k2 => .of (op x y) k2 := id rfl
@[simp] theorem sOpO_eq {op : D → D → DkO → Out D} : sOpO op f h env k = (f env k).bind fun x k1 => (h env k1).bind fun y k2 => op x y k2 := id rfl
@[simp] theorem sB_eq : sB f env k = (f env k).bind fun d k1 => match d with | .bl b => .ok b k1 | _ => .bad := id rfl
@[simp] theorem sTru_eq : sTru f env k = (f env k).bind fun d k1 => .of (truD d) k1 := id rfl
@[simp] theorem sNotB_eq : sNotB p env k = (p env k).bind fun b k1 => .ok (!b) k1 := id rfl
@[simp] theorem sAndB_eq : sAndB p p' env k = (p env k).bind fun b k1 => if b = true then p' env k1 else .ok false k1 := id rfl
@[simp] theorem sOrB_eq : sOrB p p' env k = (p env k).bind fun b k1 => if b = true then .ok true k1 else p' env k1 := id rfl
@[simp] theorem sAnd_eq : sAnd f h env k = (f env k).bind fun d k1 => match truD d with | some true => h env k1 | some false => .ok d k1 | none => .bad := id rfl
@[simp] theorem sOr_eq : sOr f h env k = (f env k).bind fun d k1 => match truD d with | some true => .ok d k1 | some false => h env k1 | none => .bad := id rfl
@[simp] theorem sNot_eq : sNot f env k = (f env k).bind fun d k1 => match truD d with | some b => .ok (.bl (!b)) k1 | none => .bad := id rfl
@[simp] theorem sIf_eq : sIf p f h env k = (p env k).bind fun b k1 => if b = true then f env k1 else h env k1 := id rfl
@[simp] theorem sChain_eq {o o' : D → D → Option D} : sChain o o' f h q env k = (f env k).bind fun x k1 => (h env k1).bind fun y k2 => match o x y with
  | some (.bl true) => (q env k2).bind fun z k3 => match o' y z with
    | some (.bl b) => .ok (.bl b) k3
    | _ => .bad
  | some (.bl false) => .ok (.bl false) k2
  | _ => .bad := id rfl
@[simp] theorem sNeg_eq : sNeg f env k = (f env k).bind fun d k1 => match d with | .int i => .ok (.int (-i)) k1 | _ => .bad := id rfl
@[simp] theorem sFrz_eq : sFrz l env k = (l env k).bind fun ds k1 => .ok (.lst ds) k1 := id rfl
@[simp] theorem sRev_eq : sRev f env k = (f env k).bind fun d k1 => .of (revD d) k1 := id rfl
@[simp] theorem iVal_eq : iVal f env k = (f env k).bind fun d k1 => .of (itemsOf d) k1 := id rfl
@[simp] theorem iEnumD_eq : iEnumD f env k = (f env k).bind fun d k1 => .of ((itemsOf d).map (enumD 0)) k1 := id rfl
@[simp] theorem iRange1_eq : iRange1 f env k = (f env k).bind fun d k1 => match d with | .int j => if big62 j = true then .ok (rangeL 0 j) k1 else .bad | _ => .bad := id rfl
@[simp] theorem iRange2_eq : iRange2 f h env k = (f env k).bind fun d k1 => (h env k1).bind fun e k2 => match d, e with | .int i, .int j => if big62 i = true ∧ big62 j = true then .ok (rangeL i j) k2 else .bad | _, _ => .bad := id rfl
@[simp] theorem sComp_eq {t : Tgt} {vs : List Nat} : sComp t vs p f its env k = (its env k).bind fun ds k1 => compM t p f (wipeE env vs) ds [] k1 := id rfl
@[simp] theorem sYes_eq : sYes env k = .ok true k := id rfl
@[simp] theorem sIx_eq : sIx f h env k = (f env k).bind fun x k1 => (h env k1).bind fun y k2 => .of (ixD x y) k2 := id rfl
@[simp] theorem oNone_eq : oNone env k = .ok none k := id rfl
@[simp] theorem oSome_eq : oSome f env k = (f env k).bind fun d k1 => match d with | .int i => .ok (some i) k1 | _ => .bad := id rfl
@[simp] theorem sSl_eq {lo hi : Sm (Option Int)} : sSl f lo hi env k = (f env k).bind fun d k1 => (lo env k1).bind fun l k2 => (hi env k2).bind fun u k3 => .of (slD d l u) k3 := id rfl
@[simp] theorem sTup_eq : sTup l env k = (l env k).bind fun ds k1 => if ds.length ≤ sizeLine then .ok (.tup ds) k1 else .bad := id rfl
@[simp] theorem sLst_eq : sLst l env k = (l env k).bind fun ds k1 => if ds.length ≤ sizeLine then .ok (.lst ds) k1 else .bad := id rfl
@[simp] theorem sNew_eq : sNew l env k = (l env k).bind fun ds k1 => if ds.length ≤ sizeLine then .ok ds k1 else .bad := id rfl
@[simp] theorem sIsi_eq {T : String} : sIsi T f env k = (f env k).bind fun d k1 => match d with | .dk => .bad | .cls _ => .bad | .shw _ => .bad | d => .ok (.bl (isTy T d)) k1 := id rfl
@[simp] theorem sIsC_eq {T : String} : sIsC T f env k = (f env k).bind fun d k1 => match d with | .dk => .bad | .cls _ => .bad | .shw _ => .bad | d => .ok (.bl (isCl T d)) k1 := id rfl
@[simp] theorem sCall_eq {n : Nat} {fn : Fn} : sCall n fn l env k = (l env k).bind fun ds k1 => if ds.length = n then fn ds k1 else .bad := id rfl
@[simp] theorem sCallK_eq {n m j : Nat} {ix : List Nat} {fn : Fn} : sCallK n m j ix fn l lk env k = (l env k).bind fun ds k1 => (lk env k1).bind fun es k2 => if (ord m j ix ds es).length = n then fn (ord m j ix ds es) k2 else .bad := id rfl
@[simp] theorem sMake_eq {cn : String} {n : Nat} {fn : FnI} : sMake cn n fn l env k = (l env k).bind fun ds k1 => if ds.length = n then (fn ds k1).bind fun fs k2 => .ok (.obj cn fs) k2 else .bad := id rfl
@[simp] theorem sOrdK_eq {j : Nat} {ix : List Nat} : sOrdK j ix l env k = (l env k).bind fun ds k1 => if ds.length = j then .ok (ordK j ix ds) k1 else .bad := id rfl
@[simp] theorem sOfC_eq {cn : String} : sOfC cn f h env k = (f env k).bind fun d k1 => match d with | .cls c' => if c' = cn then h env k1 else .bad | _ => .bad := id rfl
@[simp] theorem sCM_eq {cn : String} {n : Nat} {fn : Fn} : sCM cn n fn f l env k = sOfC cn f (fun env k => (l env k).bind fun ds k1 => if ds.length + 1 = n then fn (.cls cn :: ds) k1 else .bad) env k := id rfl
@[simp] theorem sFld_eq {cs : List String} {fl : Str} : sFld cs fl f env k = (f env k).bind fun d k1 => match d with | .obj c fs => if c ∈ cs then .of (fs.lookup fl) k1 else .bad | _ => .bad := id rfl
@[simp] theorem sMeth_eq {c : String} {m : Str} {n : Nat} {fn : Fn} : sMeth c m n fn f l env k = (f env k).bind fun d k1 => match d with | .obj c' fs => if c' = c ∧ fs.lookup m = none then (l env k1).bind fun ds k2 => if ds.length + 1 = n then fn (.obj c' fs :: ds) k2 else .bad else .bad | _ => .bad := id rfl
@[simp] theorem sM0_eq {op : Str → List D → Option D} : sM0 op f env k = (f env k).bind fun d k1 => match d with | .str x => .of (op x []) k1 | _ => .bad := id rfl
@[simp] theorem sM1_eq {op : Str → List D → Option D} : sM1 op f h env k = (f env k).bind fun d k1 => match d with | .str x => (h env k1).bind fun e k2 => .of (op x [e]) k2 | _ => .bad := id rfl
@[simp] theorem sSet_eq {i : Nat} : sSet i f env k = outS (f env k) env fun d k1 => .nx (env.set i (.d d)) k1 := id rfl
@[simp] theorem sSetN_eq {i : Nat} : sSetN i l env k = outS (l env k) env fun ds k1 => .nx (env.set i (.own ds)) k1 := id rfl
@[simp] theorem sAsg_eq {t : Tgt} : sAsg t f env k = outS (f env k) env fun d k1 => match t.set d env with | some env' => .nx env' k1 | none => .bad := id rfl
@[simp] theorem mNil_eq : mNil env k = .ok [] k := id rfl
@[simp] theorem mD_eq : mD f m env k = (f env k).bind fun d k1 => (m env k1).bind fun es k2 => .ok (.d d :: es) k2 := id rfl
@[simp] theorem mN_eq : mN l m env k = (l env k).bind fun ds k1 => (m env k1).bind fun es k2 => .ok (.own ds :: es) k2 := id rfl
@[simp] theorem sPar_eq {is : List Nat} : sPar is m env k = outS (m env k) env fun es k1 => match setsE is es env with | some env' => .nx env' k1 | none => .bad := id rfl
@[simp] theorem sApnd_eq {i : Nat} : sApnd i f env k = match env[i]? with | some (.own ds) => outS (f env k) env fun d k1 => if ds.length < sizeLine then .nx (env.set i (.own (ds ++ [d]))) k1 else .bad | _ => .bad := id rfl
@[simp] theorem sFrzS_eq {i : Nat} : sFrzS i s env k = match env[i]? with | some e => s (env.set i (frzE e)) k | none => s env k := id rfl
@[simp] theorem sSkip_eq : sSkip env k = .nx env k := id rfl
@[simp] theorem sIfS_eq : sIfS p s t env k = outS (p env k) env fun b k1 => if b = true then s env k1 else t env k1 := id rfl
@[simp] theorem sSeq_eq : sSeq s t env k = match s env k with | .nx env' k' => t env' k' | o => o := id rfl
@[simp] theorem sFor_eq {t : Tgt} : sFor t its s env k = outS (its env k) env fun ds k1 => forM t s ds env k1 := id rfl
@[simp] theorem sSetF_eq {i : Nat} {c : String} {fl : Str} : sSetF i c fl f env k = outS (f env k) env fun d k1 => match env[i]? with | some (.ownO c' fs) => if c' = c ∧ fs.length < 1000 then .nx (env.set i (.ownO c (putD fl d fs))) k1 else .bad | _ => .bad := id rfl
@[simp] theorem sRaise_eq {c : String} {fl : Str} : sRaise c fl l env k = outS (l env k) env fun ds k1 => match ds with | [d] => .err c [(fl, d)] env k1 | _ => .bad := id rfl
@[simp] theorem sTry_eq {yes : String → Option Bool} {i : Nat} : sTry yes i s t env k = match s env k with
  | .err c fs env' k' => match yes c with
    | some true => unExc i (t (env'.set i (.exc c fs)) k')
    | some false => .err c fs env' k'
    | none => .bad
  | o => o := id rfl
@[simp] theorem unExc_nx {i : Nat} : unExc i (.nx env k) = if noExc (env.set i .no) = true then .nx (env.set i .no) k else .bad := id rfl
@[simp] theorem unExc_rt {i : Nat} : unExc i (.rt d k) = .rt d k := id rfl
@[simp] theorem sXf_eq {c : String} {fl : Str} {i : Nat} : sXf c fl i env k = match env[i]? with | some (.exc c' fs) => if c' = c then .of (fs.lookup fl) k else .bad | _ => .bad := id rfl
@[simp] theorem sXi_eq {c : String} {b : Bool} {i : Nat} : sXi c b i env k = match env[i]? with | some (.exc c' fs) => if c' = c then .ok (.bl b) k else .bad | _ => .bad := id rfl
@[simp] theorem pureOp_eq {o : D → D → Option D} {a b : D} : pureOp o a b k = .of (o a b) k := id rfl
theorem orO_bad {α : Type} {o o' : α → DkO → Out D} {x : α} {k : DkO} (h : o x k = .bad) : orO o o' x k = o' x k := by unfold orO; rw [h]
theorem orO_ok {α : Type} {o o' : α → DkO → Out D} {x : α} {k k' : DkO} {d : D} (h : o x k = .ok d k') : orO o o' x k = .ok d k' := by unfold orO; rw [h]
theorem orOp_bad {o o' : D → D → DkO → Out D} {a b : D} {k : DkO} (h : o a b k = .bad) : orOp o o' a b k = o' a b k := by unfold orOp; rw [h]
theorem orOp_ok {o o' : D → D → DkO → Out D} {a b : D} {k k' : DkO} {d : D} (h : o a b k = .ok d k') : orOp o o' a b k = .ok d k' := by unfold orOp; rw [h]
theorem ownO_ok {cn : String} {fn : Fn} {C : D → Bool} {fs : List (Str × D)} {k k' : DkO} {d : D} (e : fn [.obj cn fs] k = .ok d k') (hc : C d = true) : ownO cn fn C [.obj cn fs] k = .ok d k' := by
  unfold ownO
  simp only [if_true, e, noE_ok, bind_ok, hc]
theorem ownEq_ok {cn : String} {fn : Fn} {w : Bool → Bool} {fs : List (Str × D)} {k k' : DkO} {d : D} {z : Bool} (e : fn [.obj cn fs, d] k = .ok (.bl z) k') (h1 : d.isCls = false) (h2 : d.isDk = false) : ownEq cn fn w (.obj cn fs) d k = .ok (.bl (w z)) k' := by
  unfold ownEq
  simp only [h1, h2, and_self, if_true, e, noE_ok, bind_ok]
@[simp] theorem le_sz {n : Nat} (h : n ≤ 1000) : (n ≤ sizeLine) = True := eq_true (Nat.le_of_lt (small1000 h))
@[simp] theorem lt_sz {n : Nat} (h : n ≤ 1000) : (n < sizeLine) = True := eq_true (small1000 h)
/-! ### comprehensions -/
/-- over what is made of a list, the deck left alone -/
theorem compM_map {β : Type} {t : Tgt} {env0 : List En} {mk : β → D} {pp : β → Bool} {ff : β → D} : ∀ (bs : List β) (acc : List D), acc.length + bs.length ≤ sizeLine →
    (∀ b ∈ bs, ∃ env1, t.set (mk b) env0 = some env1 ∧ ∀ k, p env1 k = .ok (pp b) k ∧ (pp b = true → f env1 k = .ok (ff b) k)) → ∀ k, compM t p f env0 (bs.map mk) acc k = .ok (acc ++ (bs.filter pp).map ff) k
  | [], acc, _, _, k => by simp [compM]
  | b :: bs, acc, hl, h, k => by
    rw [List.length_cons] at hl
    obtain ⟨env1, h1, h2⟩ := h b List.mem_cons_self
    rw [List.map_cons]
    unfold compM
    rw [h1]
    simp only [(h2 k).1, noE_ok, bind_ok]
    have ht := fun d hd => h d (List.mem_cons_of_mem _ hd)
    by_cases hp : pp b = true
    · rw [if_pos hp, (h2 k).2 hp]
      simp only [noE_ok, bind_ok]
      rw [if_pos (by omega), compM_map bs _ (by rw [List.length_append, List.length_singleton]; omega) ht k, List.filter_cons_of_pos hp, List.map_cons]
      simp
    · rw [if_neg hp, compM_map bs _ (by omega) ht k, List.filter_cons_of_neg hp]
theorem compM_eq {t : Tgt} {env0 : List En} {pp : D → Bool} {ff : D → D} (ds acc : List D) (hl : acc.length + ds.length ≤ sizeLine)
    (hh : ∀ d ∈ ds, ∃ env1, t.set d env0 = some env1 ∧ ∀ k, p env1 k = .ok (pp d) k ∧ (pp d = true → f env1 k = .ok (ff d) k)) (k : DkO) : compM t p f env0 ds acc k = .ok (acc ++ (ds.filter pp).map ff) k := by
  have := compM_map (mk := fun d => d) ds acc hl hh k
  rwa [List.map_id'] at this
theorem bls_map {β : Type} {q : β → Bool} : ∀ bs : List β, blsOf (bs.map fun b => D.bl (q b)) = some (bs.map q)
  | [] => rfl
  | b :: bs => by show (blsOf (bs.map fun b => D.bl (q b))).map (q b :: ·) = _; rw [bls_map bs]; rfl
theorem all_map {β : Type} {q : β → Bool} {bs : List β} : allD [.lst (bs.map fun b => D.bl (q b))] = some (.bl (bs.all q)) := by
  show (blsOf (bs.map fun b => D.bl (q b))).map _ = _
  rw [bls_map]; simp [Function.comp_def]
theorem any_map {β : Type} {q : β → Bool} {bs : List β} : anyD [.lst (bs.map fun b => D.bl (q b))] = some (.bl (bs.any q)) := by
  show (blsOf (bs.map fun b => D.bl (q b))).map _ = _
  rw [bls_map]; simp [Function.comp_def]
end

/-! ### data -/
mutual
/-- how long it is shown at most -/
def wt : D → Nat
  | .str x => 10 * x.length + 10
  | .int i => if i.natAbs < 1000 then 6 else 2000
  | .lst ds => wtAll ds + 10
  | .tup ds => wtAll ds + 10
  | _ => 10
def wtAll : List D → Nat
  | [] => 0
  | d :: ds => wt d + 2 + wtAll ds
end
mutual
def ht : D → Nat
  | .lst ds => htAll ds + 1
  | .tup ds => htAll ds + 1
  | .dct _ => 1
  | _ => 0
def htAll : List D → Nat
  | [] => 0
  | d :: ds => max (ht d) (htAll ds)
end
mutual
/-- data that can be shown -/
def okD : D → Bool
  | .non => true
  | .bl _ => true
  | .int i => decide (i.natAbs.log2 < 1920)
  | .str x => decide (x.length ≤ sizeLine) && PyData.strOk x
  | .lst ds => okAll ds
  | .tup ds => okAll ds
  | .dct ds => ds.isEmpty
  | _ => false
def okAll : List D → Bool
  | [] => true
  | d :: ds => okD d && okAll ds
end
theorem okD_str {x : Str} (h : okD (.str x) = true) : SOk x := by
  simp only [okD, Bool.and_eq_true, decide_eq_true_eq] at h; exact h
theorem okAll_mem : ∀ {ds : List D}, okAll ds = true → ∀ d ∈ ds, okD d = true
  | [], _, _, h => nomatch h
  | d :: ds, h, x, hx => by
    simp only [okAll, Bool.and_eq_true] at h
    rcases List.mem_cons.mp hx with rfl | z
    · exact h.1
    · exact okAll_mem h.2 x z
theorem okAll_of : ∀ {ds : List D}, (∀ d ∈ ds, okD d = true) → okAll ds = true
  | [], _ => rfl
  | d :: ds, h => by
    simp only [okAll, Bool.and_eq_true]
    exact ⟨h d List.mem_cons_self, okAll_of fun x hx => h x (List.mem_cons_of_mem _ hx)⟩
theorem reprText_wt {x : Str} (h : SOk x) : (reprText x).length ≤ 10 * x.length + 10 := by
  have := PySem.StrLaws.reprText_len x fun c hc => Nat.lt_trans (strOk_all.mp h.2 c hc) (by decide)
  omega
theorem shownAll_len : ∀ ps : List PyData, (PyData.shownAll ps).length = ps.length
  | [] => rfl
  | p :: ps => by simp only [PyData.shownAll, List.length_cons, shownAll_len ps]
mutual
theorem okD_py : ∀ {d : D}, okD d = true → ∃ p, d.py = some p ∧ p.showable = true ∧ p.shown.length ≤ wt d ∧ p.depth ≤ ht d
  | .non, _ => ⟨_, rfl, rfl, by decide, by simp [PyData.depth, ht]⟩
  | .bl b, _ => ⟨_, rfl, rfl, by cases b <;> decide, by simp [PyData.depth, ht]⟩
  | .int i, h => by
    simp only [okD, decide_eq_true_eq] at h
    refine ⟨_, rfl, decide_eq_true h, ?_, by simp [PyData.depth, ht]⟩
    simp only [wt]
    split
    · rename_i hs
      have z := int_text_length_le10 (a := i) (k := 3) (by decide) (Nat.lt_of_lt_of_le hs (by decide))
      rw [← ofString_length] at z
      exact Nat.le_trans z (by decide)
    · exact Nat.le_trans (PyProof.Rows.int_text_len_1921 h) (by decide)
  | .str x, h => ⟨_, rfl, rfl, by simp only [wt]; exact reprText_wt (okD_str h), by simp [PyData.depth, ht]⟩
  | .lst ds, h => by
    obtain ⟨ps, h1, h2, h3, h4⟩ := okAll_py (ds := ds) (by simpa [okD] using h)
    refine ⟨.list ps, by simp only [D.py, h1, Option.map_some], by simpa [PyData.showable] using h2, ?_, by simp only [PyData.depth, ht]; omega⟩
    have := PySem.listText_len_le (PyData.shownAll ps)
    rw [shownAll_len] at this
    simp only [PyData.shown, wt]; omega
  | .tup ds, h => by
    obtain ⟨ps, h1, h2, h3, h4⟩ := okAll_py (ds := ds) (by simpa [okD] using h)
    refine ⟨.tuple ps, by simp only [D.py, h1, Option.map_some], by simpa [PyData.showable] using h2, ?_, by simp only [PyData.depth, ht]; omega⟩
    have := PySem.tupleText_len_le (PyData.shownAll ps)
    rw [shownAll_len] at this
    simp only [PyData.shown, wt]; omega
  | .dct [], _ => ⟨.dict [], rfl, rfl, by decide, by simp [PyData.depth, PyData.depthKv, ht]⟩
  | .dct (_ :: _), h => by simp [okD] at h
  | .obj _ _, h => by simp [okD] at h
  | .dk, h => by simp [okD] at h
  | .cls _, h => by simp [okD] at h
  | .shw _, h => by simp [okD] at h
theorem okAll_py : ∀ {ds : List D}, okAll ds = true → ∃ ps, D.pyAll ds = some ps ∧ PyData.showableAll ps = true ∧ ((PyData.shownAll ps).map (·.length)).sum + 2 * ps.length ≤ wtAll ds ∧ PyData.depthAll ps ≤ htAll ds
  | [], _ => ⟨[], rfl, rfl, by simp [PyData.shownAll, wtAll], by simp [PyData.depthAll, htAll]⟩
  | d :: ds, h => by
    simp only [okAll, Bool.and_eq_true] at h
    obtain ⟨p, a1, a2, a3, a4⟩ := okD_py h.1
    obtain ⟨ps, b1, b2, b3, b4⟩ := okAll_py h.2
    refine ⟨p :: ps, by simp only [D.pyAll, a1, b1], by simp only [PyData.showableAll, a2, b2, Bool.and_self], ?_, ?_⟩
    · simp only [PyData.shownAll, wtAll, List.map_cons, List.sum_cons, List.length_cons]; omega
    · simp only [PyData.depthAll, htAll]; omega
end
/-- the repr of data, whatever it is -/
theorem repr_of {d : D} (h : okD d = true) (hw : wt d ≤ sizeLine) (hd : ht d ≤ 60) : ∃ p, reprD [d] = some (.shw p) ∧ d.py = some p := by
  obtain ⟨p, h1, h2, h3, h4⟩ := okD_py h
  refine ⟨p, ?_, h1⟩
  unfold reprD
  simp only [h1, h2, Bool.true_and]
  rw [if_pos]
  simp only [Bool.and_eq_true, decide_eq_true_eq]
  exact ⟨by omega, by omega⟩
theorem eq_shw {p : PyData} : eqD (.shw p) (.shw p) = some (.bl true) := by
  unfold eqD orD nilT eqvD eqShw
  simp [D.py]
/-- data: nothing of one's own, no deck -/
def plain : D → Bool
  | .dk => false
  | .cls _ => false
  | .shw _ => false
  | _ => true
theorem okD_plain {d : D} (h : okD d = true) : plain d = true := by
  cases d <;> first | rfl | simp [okD] at h
theorem isi_eq {T : String} {d : D} {k : DkO} (h : plain d = true) : (match d with | .dk => .bad | .cls _ => .bad | .shw _ => .bad | d => .ok (.bl (isTy T d)) k : Out D) = .ok (.bl (isTy T d)) k := by
  cases d <;> first | rfl | cases h
theorem wt_int {i : Int} : wt (.int i) ≤ 2000 := by simp only [wt]; split <;> omega
theorem wtAll_app : ∀ (a b : List D), wtAll (a ++ b) = wtAll a + wtAll b
  | [], b => by simp [wtAll]
  | d :: a, b => by rw [List.cons_append]; simp only [wtAll]; rw [wtAll_app a b]; omega
theorem htAll_app : ∀ (a b : List D), htAll (a ++ b) = max (htAll a) (htAll b)
  | [], b => by simp [htAll]
  | d :: a, b => by rw [List.cons_append]; simp only [htAll]; rw [htAll_app a b]; omega
theorem okAll_app : ∀ (a b : List D), okAll (a ++ b) = (okAll a && okAll b)
  | [], b => by simp [okAll]
  | d :: a, b => by rw [List.cons_append]; simp only [okAll]; rw [okAll_app a b, Bool.and_assoc]
theorem wt_mem : ∀ {ds : List D} {d : D}, d ∈ ds → wt d + 2 ≤ wtAll ds
  | [], _, h => nomatch h
  | x :: ds, d, h => by
    simp only [wtAll]
    rcases List.mem_cons.mp h with rfl | z
    · omega
    · have := wt_mem z; omega
theorem ht_mem : ∀ {ds : List D} {d : D}, d ∈ ds → ht d ≤ htAll ds
  | [], _, h => nomatch h
  | x :: ds, d, h => by
    simp only [htAll]
    rcases List.mem_cons.mp h with rfl | z
    · omega
    · have := ht_mem z; omega
theorem wtAll_len : ∀ (ds : List D), 2 * ds.length ≤ wtAll ds
  | [] => by simp [wtAll]
  | d :: ds => by have := wtAll_len ds; rw [List.length_cons]; simp only [wtAll]; omega
end DL
set_option Elab.async false
set_option linter.all false
set_option maxRecDepth 100000
set_option maxHeartbeats 4000000
/-! drawn data: draws left, sizes -/
namespace DL
open PySem PySem.Spec L2
open PySem.W (Frag)
/-- so many draws may follow -/
def Bud (k : Dk) (n : Nat) : Prop := 0 ≤ k.t ∧ k.t + n < 9223372036854775808
theorem Bud.mono {k : Dk} {n m : Nat} (h : Bud k m) (hn : n ≤ m) : Bud k n := ⟨h.1, by have := h.2; omega⟩
theorem Bud.tok {k : Dk} {n : Nat} (h : Bud k n) : tOk k.t = true := by
  unfold tOk; simp only [Bool.and_eq_true, decide_eq_true_eq]; have := h.2; exact ⟨h.1, by omega⟩
theorem draw_run {c0 b : Int} {k : Dk} {n : Nat} (hb : bOk b = true) (h : Bud k (n + 1)) : ∃ r k', drawF c0 [.dk, .int b] (some k) = .ok (.int r) (some k') ∧ 0 ≤ r ∧ r < b ∧ Bud k' n := by
  obtain ⟨r, k', h1, h2, h3, h4⟩ := draw_ok (c0 := c0) hb h.tok
  exact ⟨r, k', h1, h2, h3, by have := h.1; rw [h4]; omega, by have := h.2; rw [h4]; omega⟩
theorem bOk_nat {n : Nat} (h0 : 0 < n) (h1 : n < 1073741824) : bOk (n : Int) = true := by
  unfold bOk; simp only [Bool.and_eq_true, decide_eq_true_eq]; omega
/-- some[draw(len(some))] -/
def pickF (c0 : Int) : Fn := fnD 2 (sRet (sIx (sV 1) (sCall 2 (drawF c0) (lCons (sV 0) (lCons (sApp (pureO lenD) (lCons (sV 1) lNil)) lNil)))))
theorem atI_nat' {α : Type} {xs : List α} {i : Nat} {x : α} (h : xs[i]? = some x) : atI xs (i : Int) = some x := by
  unfold atI ixN
  have hl := (List.getElem?_eq_some_iff.mp h).1
  have e : HT.sIx xs.length 0 (some (i : Int)) = HT.sIx xs.length 0 (some (i : Int)) := rfl
  exact L2.atI_nat h
theorem atI_get_ok {α : Type} {xs : List α} {r : Int} (h0 : 0 ≤ r) (h1 : r < xs.length) : ∃ x, atI xs r = some x ∧ x ∈ xs ∧ xs[r.toNat]? = some x := by
  obtain ⟨i, rfl⟩ := Int.eq_ofNat_of_zero_le h0
  have hi : i < xs.length := by omega
  refine ⟨xs[i], L2.atI_nat (by simp [hi]), List.getElem_mem hi, by simp [hi]⟩
theorem pick_lst {c0 : Int} {ds : List D} {k : Dk} {n : Nat} (h0 : 0 < ds.length) (h1 : ds.length < 1073741824) (h : Bud k (n + 1)) : ∃ d k', pickF c0 [.dk, .lst ds] (some k) = .ok d (some k') ∧ d ∈ ds ∧ Bud k' n := by
  obtain ⟨r, k', e, r0, r1, hb⟩ := draw_run (c0 := c0) (bOk_nat h0 h1) h
  obtain ⟨d, hd, hm, _⟩ := atI_get_ok r0 r1
  refine ⟨d, k', ?_, hm, hb⟩
  show endD (sRet _ [.d .dk, .d (.lst ds)] (some k)) = _
  simp [lenD, e, ixD, hd]
theorem pick_str {c0 : Int} {x : Str} {k : Dk} {n : Nat} (h0 : 0 < x.length) (h1 : x.length < 1073741824) (h : Bud k (n + 1)) : ∃ c k', pickF c0 [.dk, .str x] (some k) = .ok (.str ⟨#[c]⟩) (some k') ∧ c ∈ x.cps.toList ∧ Bud k' n := by
  obtain ⟨r, k', e, r0, r1, hb⟩ := draw_run (c0 := c0) (bOk_nat h0 h1) h
  obtain ⟨d, hd, hm, _⟩ := atI_get_ok (xs := x.cps.toList) r0 (by rw [← len_list]; exact r1)
  refine ⟨d, k', ?_, hm, hb⟩
  show endD (sRet _ [.d .dk, .d (.str x)] (some k)) = _
  simp [lenD, e, ixD, hd]

/-- a function that draws below b -/
def DrawOk (F : Fn) : Prop := ∀ (b : Int) (k : Dk) (n : Nat), bOk b = true → Bud k (n + 1) → ∃ r k', F [.dk, .int b] (some k) = .ok (.int r) (some k') ∧ 0 ≤ r ∧ r < b ∧ Bud k' n
/-- a function that picks -/
structure PickOk (F : Fn) : Prop where
  lst : ∀ (ds : List D) (k : Dk) (n : Nat), 0 < ds.length → ds.length < 1073741824 → Bud k (n + 1) → ∃ d k', F [.dk, .lst ds] (some k) = .ok d (some k') ∧ d ∈ ds ∧ Bud k' n
  str : ∀ (x : Str) (k : Dk) (n : Nat), 0 < x.length → x.length < 1073741824 → Bud k (n + 1) → ∃ c k', F [.dk, .str x] (some k) = .ok (.str ⟨#[c]⟩) (some k') ∧ c ∈ x.cps.toList ∧ Bud k' n
theorem drawOk_F (c0 : Int) : DrawOk (drawF c0) := fun _ _ _ hb h => draw_run hb h
theorem pickOk_F (c0 : Int) : PickOk (pickF c0) := ⟨fun _ _ _ h0 h1 h => pick_lst h0 h1 h, fun _ _ _ h0 h1 h => pick_str h0 h1 h⟩
/-! ### loops with draws -/
section
variable {t : Tgt} {p : Sm Bool} {f : Sm D} {env0 : List En} {β : Type} {mk : β → D}
theorem compM_run {P : β → D → Prop} {c : Nat} : ∀ (bs : List β) (acc : List D) (k : Dk) (n : Nat), acc.length + bs.length ≤ sizeLine → Bud k (n + c * bs.length) →
    (∀ b ∈ bs, ∃ env1, t.set (mk b) env0 = some env1 ∧ ∀ k n, Bud k (n + c) → ∃ y k', f env1 (some k) = .ok y (some k') ∧ P b y ∧ Bud k' n) →
    ∃ ys k', compM t sYes f env0 (bs.map mk) acc (some k) = .ok (acc ++ ys) (some k') ∧ ys.length = bs.length ∧ (∀ y ∈ ys, ∃ b ∈ bs, P b y) ∧ Bud k' n
  | [], acc, k, n, _, hb, _ => ⟨[], k, by simp [compM], rfl, fun _ z => (nomatch z), hb.mono (by omega)⟩
  | b :: bs, acc, k, n, hl, hb, h => by
    rw [List.length_cons] at hl hb
    obtain ⟨env1, h1, h2⟩ := h b List.mem_cons_self
    obtain ⟨y, k1, e1, py, hb1⟩ := h2 k (n + c * bs.length) (hb.mono (by rw [Nat.mul_succ]; omega))
    obtain ⟨ys, k2, e2, l2, p2, hb2⟩ := compM_run bs (acc ++ [y]) k1 n (by rw [List.length_append, List.length_singleton]; omega) hb1 fun d hd => h d (List.mem_cons_of_mem _ hd)
    refine ⟨y :: ys, k2, ?_, by rw [List.length_cons, List.length_cons, l2], fun z hz => ?_, hb2⟩
    · rw [List.map_cons]
      unfold compM
      rw [h1]
      simp only [sYes_eq, noE_ok, bind_ok, if_true, e1]
      rw [if_pos (by omega), e2]
      simp
    · rcases List.mem_cons.mp hz with rfl | hz
      · exact ⟨b, List.mem_cons_self, py⟩
      · obtain ⟨b', h3, h4⟩ := p2 z hz
        exact ⟨b', List.mem_cons_of_mem _ h3, h4⟩
end
/-- a for whose body always goes on -/
theorem forM_run {t : Tgt} {s : Ss} {β : Type} {mk : β → D} {I : Nat → List En → Prop} {c : Nat} : ∀ (bs : List β) (i : Nat) (env : List En) (k : Dk) (n : Nat), I i env → Bud k (n + c * bs.length) →
    (∀ j b env k n, j < i + bs.length → b ∈ bs → I j env → Bud k (n + c) → ∃ env1 env2 k', t.set (mk b) env = some env1 ∧ s env1 (some k) = .nx env2 (some k') ∧ I (j + 1) env2 ∧ Bud k' n) →
    ∃ env' k', forM t s (bs.map mk) env (some k) = .nx env' (some k') ∧ I (i + bs.length) env' ∧ Bud k' n
  | [], i, env, k, n, hi, hb, _ => ⟨env, k, rfl, hi, hb.mono (by omega)⟩
  | b :: bs, i, env, k, n, hi, hb, h => by
    rw [List.length_cons] at hb
    obtain ⟨env1, env2, k1, h1, h2, h3, hb1⟩ := h i b env k (n + c * bs.length) (by rw [List.length_cons]; omega) List.mem_cons_self hi (hb.mono (by rw [Nat.mul_succ]; omega))
    obtain ⟨env', k', e, hi', hb'⟩ := forM_run bs (i + 1) env2 k1 n h3 hb1 fun j b env k n hj hb => h j b env k n (by rw [List.length_cons]; omega) (List.mem_cons_of_mem _ hb)
    refine ⟨env', k', ?_, by rw [List.length_cons]; rw [show i + (bs.length + 1) = i + 1 + bs.length by omega]; exact hi', hb'⟩
    rw [List.map_cons]
    unfold forM
    simp only [h1, h2]
    exact e

/-! ### data of small signs -/
mutual
def gdD : D → Bool
  | .non => true
  | .bl _ => true
  | .int _ => true
  | .str x => x.cps.toList.all fun c => decide (c < 128)
  | .lst ds => gdAll ds
  | .tup ds => gdAll ds
  | .dct ds => ds.isEmpty
  | _ => false
def gdAll : List D → Bool
  | [] => true
  | d :: ds => gdD d && gdAll ds
end
mutual
/-- the greatest number -/
def mg : D → Nat
  | .int i => i.natAbs
  | .lst ds => mgAll ds
  | .tup ds => mgAll ds
  | _ => 0
def mgAll : List D → Nat
  | [] => 0
  | d :: ds => max (mg d) (mgAll ds)
end
theorem gdAll_iff : ∀ {ds : List D}, gdAll ds = true ↔ ∀ d ∈ ds, gdD d = true
  | [] => by simp [gdAll]
  | d :: ds => by simp only [gdAll, Bool.and_eq_true, List.mem_cons, forall_eq_or_imp, gdAll_iff (ds := ds)]
theorem htAll_iff {h : Nat} : ∀ {ds : List D}, htAll ds ≤ h ↔ ∀ d ∈ ds, ht d ≤ h
  | [] => by simp [htAll]
  | d :: ds => by simp only [htAll, Nat.max_le, List.mem_cons, forall_eq_or_imp, htAll_iff (ds := ds)]
theorem mgAll_iff {h : Nat} : ∀ {ds : List D}, mgAll ds ≤ h ↔ ∀ d ∈ ds, mg d ≤ h
  | [] => by simp [mgAll]
  | d :: ds => by simp only [mgAll, Nat.max_le, List.mem_cons, forall_eq_or_imp, mgAll_iff (ds := ds)]
theorem wtAll_sub {a b : List D} (h : a.Sublist b) : wtAll a ≤ wtAll b := by
  induction h with
  | slnil => exact Nat.le_refl _
  | cons d _ ih => simp only [wtAll]; omega
  | cons_cons d _ ih => simp only [wtAll]; omega
theorem wtAll_rev (a : List D) : wtAll a.reverse = wtAll a := by
  induction a with
  | nil => rfl
  | cons d a ih => rw [List.reverse_cons, wtAll_app, ih]; simp only [wtAll]; omega
theorem log_small {i : Int} (h : i.natAbs ≤ 10 ^ 60) : i.natAbs.log2 < 1920 := by
  by_cases h0 : i.natAbs = 0
  · rw [h0]; decide
  · exact (Nat.log2_lt h0).mpr (Nat.lt_of_le_of_lt h (by decide))
theorem asc_sok {x : Str} (h : x.cps.toList.all (fun c => decide (c < 128)) = true) (hl : x.length ≤ sizeLine) : SOk x :=
  ⟨hl, strOk_all.mpr fun c hc => Nat.lt_trans (of_decide_eq_true (List.all_eq_true.mp h c hc)) (by decide)⟩
mutual
theorem gd_ok : ∀ {d : D}, gdD d = true → wt d ≤ sizeLine → mg d ≤ 10 ^ 60 → okD d = true
  | .non, _, _, _ => rfl
  | .bl _, _, _, _ => rfl
  | .int i, _, _, h => decide_eq_true (log_small h)
  | .str x, h, hw, _ => by
    simp only [gdD] at h
    simp only [wt] at hw
    obtain ⟨a, b⟩ := asc_sok h (by omega)
    simp only [okD, Bool.and_eq_true, decide_eq_true_eq]
    exact ⟨a, b⟩
  | .lst ds, h, hw, hm => by
    simp only [gdD, wt, mg, okD] at *
    exact gdAll_ok h (by omega) hm
  | .tup ds, h, hw, hm => by
    simp only [gdD, wt, mg, okD] at *
    exact gdAll_ok h (by omega) hm
  | .dct ds, h, _, _ => by simpa [gdD, okD] using h
  | .obj _ _, h, _, _ => by simp [gdD] at h
  | .dk, h, _, _ => by simp [gdD] at h
  | .cls _, h, _, _ => by simp [gdD] at h
  | .shw _, h, _, _ => by simp [gdD] at h
theorem gdAll_ok : ∀ {ds : List D}, gdAll ds = true → wtAll ds ≤ sizeLine → mgAll ds ≤ 10 ^ 60 → okAll ds = true
  | [], _, _, _ => rfl
  | d :: ds, h, hw, hm => by
    simp only [gdAll, wtAll, mgAll, okAll, Bool.and_eq_true, Nat.max_le] at *
    exact ⟨gd_ok h.1 (by omega) hm.1, gdAll_ok h.2 (by omega) hm.2⟩
end
/-- data of weight n, depth h, numbers to m -/
structure Gd (n h m : Nat) (d : D) : Prop where
  g : gdD d = true
  w : wt d ≤ n
  h : ht d ≤ h
  m : mg d ≤ m
theorem Gd.mono {n h m n' h' m' : Nat} {d : D} (a : Gd n h m d) (hn : n ≤ n') (hh : h ≤ h') (hm : m ≤ m') : Gd n' h' m' d := ⟨a.g, Nat.le_trans a.w hn, Nat.le_trans a.h hh, Nat.le_trans a.m hm⟩
theorem Gd.ok {n h m : Nat} {d : D} (a : Gd n h m d) (hn : n ≤ 10000000) (hm : m ≤ 10 ^ 60) : okD d = true := gd_ok a.g (by have := sizeLine_eq; have := a.w; omega) (Nat.le_trans a.m hm)
/-- .. of a list of data -/
structure GdL (n h m : Nat) (ds : List D) : Prop where
  g : gdAll ds = true
  w : wtAll ds ≤ n
  h : htAll ds ≤ h
  m : mgAll ds ≤ m
theorem GdL.tup {n h m : Nat} {ds : List D} (a : GdL n h m ds) : Gd (n + 10) (h + 1) m (.tup ds) := ⟨a.g, by simp only [wt]; have := a.w; omega, by simp only [ht]; have := a.h; omega, by simp only [mg]; exact a.m⟩
theorem GdL.lst {n h m : Nat} {ds : List D} (a : GdL n h m ds) : Gd (n + 10) (h + 1) m (.lst ds) := ⟨a.g, by simp only [wt]; have := a.w; omega, by simp only [ht]; have := a.h; omega, by simp only [mg]; exact a.m⟩
theorem Gd.ofTup {n h m : Nat} {ds : List D} (a : Gd n h m (.tup ds)) : GdL (n - 10) (h - 1) m ds := by
  obtain ⟨a1, a2, a3, a4⟩ := a
  simp only [gdD, wt, ht, mg] at *
  exact ⟨a1, by omega, by omega, a4⟩
theorem Gd.ofLst {n h m : Nat} {ds : List D} (a : Gd n h m (.lst ds)) : GdL (n - 10) (h - 1) m ds := by
  obtain ⟨a1, a2, a3, a4⟩ := a
  simp only [gdD, wt, ht, mg] at *
  exact ⟨a1, by omega, by omega, a4⟩
theorem GdL.nil {n h m : Nat} : GdL n h m [] := ⟨rfl, by simp [wtAll], by simp [htAll], by simp [mgAll]⟩
theorem GdL.cons {n n' h m : Nat} {d : D} {ds : List D} (a : Gd n h m d) (b : GdL n' h m ds) : GdL (n + n' + 2) h m (d :: ds) := by
  refine ⟨by simp only [gdAll, a.g, b.g, Bool.and_self], ?_, ?_, ?_⟩
  · simp only [wtAll]; have := a.w; have := b.w; omega
  · simp only [htAll]; have := a.h; have := b.h; omega
  · simp only [mgAll]; have := a.m; have := b.m; omega
theorem GdL.mono {n h m n' h' m' : Nat} {ds : List D} (a : GdL n h m ds) (hn : n ≤ n') (hh : h ≤ h') (hm : m ≤ m') : GdL n' h' m' ds := ⟨a.g, Nat.le_trans a.w hn, Nat.le_trans a.h hh, Nat.le_trans a.m hm⟩
theorem GdL.mem {n h m : Nat} {ds : List D} {d : D} (a : GdL n h m ds) (hd : d ∈ ds) : Gd (n - 2) h m d :=
  ⟨gdAll_iff.mp a.g d hd, by have := wt_mem hd; have := a.w; omega, htAll_iff.mp a.h d hd, mgAll_iff.mp a.m d hd⟩
theorem GdL.sub {n h m : Nat} {a b : List D} (l : GdL n h m b) (hs : a.Sublist b) : GdL n h m a :=
  ⟨gdAll_iff.mpr fun d hd => gdAll_iff.mp l.g d (hs.subset hd), Nat.le_trans (wtAll_sub hs) l.w, htAll_iff.mpr fun d hd => htAll_iff.mp l.h d (hs.subset hd), mgAll_iff.mpr fun d hd => mgAll_iff.mp l.m d (hs.subset hd)⟩
theorem GdL.rev {n h m : Nat} {a : List D} (l : GdL n h m a) : GdL n h m a.reverse :=
  ⟨gdAll_iff.mpr fun d hd => gdAll_iff.mp l.g d (by simpa using hd), by rw [wtAll_rev]; exact l.w, htAll_iff.mpr fun d hd => htAll_iff.mp l.h d (by simpa using hd), mgAll_iff.mpr fun d hd => mgAll_iff.mp l.m d (by simpa using hd)⟩
theorem GdL.app {n n' h m : Nat} {a b : List D} (l : GdL n h m a) (r : GdL n' h m b) : GdL (n + n') h m (a ++ b) := by
  refine ⟨gdAll_iff.mpr fun d hd => ?_, by rw [wtAll_app]; have := l.w; have := r.w; omega, htAll_iff.mpr fun d hd => ?_, mgAll_iff.mpr fun d hd => ?_⟩
  · exact (List.mem_append.mp hd).elim (gdAll_iff.mp l.g d) (gdAll_iff.mp r.g d)
  · exact (List.mem_append.mp hd).elim (htAll_iff.mp l.h d) (htAll_iff.mp r.h d)
  · exact (List.mem_append.mp hd).elim (mgAll_iff.mp l.m d) (mgAll_iff.mp r.m d)
theorem GdL.cut {n h m : Nat} {a : List D} (l : GdL n h m a) (lo hi : Option Int) : GdL n h m (cutL a lo hi) := l.sub ((List.take_sublist _ _).trans (List.drop_sublist _ _))
theorem GdL.len {n h m : Nat} {a : List D} (l : GdL n h m a) : 2 * a.length ≤ n := Nat.le_trans (wtAll_len a) l.w
theorem Gd.non {n h m : Nat} (hn : 10 ≤ n) : Gd n h m .non := ⟨rfl, by simp only [wt]; omega, by simp [ht], by simp [mg]⟩
theorem Gd.bl {n h m : Nat} {b : Bool} (hn : 10 ≤ n) : Gd n h m (.bl b) := ⟨rfl, by simp only [wt]; omega, by simp [ht], by simp [mg]⟩
theorem Gd.int {n h m : Nat} {i : Int} (hn : 2000 ≤ n) (hi : i.natAbs ≤ m) : Gd n h m (.int i) := ⟨rfl, Nat.le_trans wt_int hn, by simp [ht], by simpa [mg] using hi⟩
theorem Gd.intS {n h m : Nat} {i : Int} (hn : 6 ≤ n) (hi : i.natAbs < 1000) (hm : i.natAbs ≤ m) : Gd n h m (.int i) := ⟨rfl, by simp only [wt]; rw [if_pos hi]; exact hn, by simp [ht], by simpa [mg] using hm⟩
theorem Gd.str {n h m : Nat} {x : Str} (hx : x.cps.toList.all (fun c => decide (c < 128)) = true) (hn : 10 * x.length + 10 ≤ n) : Gd n h m (.str x) := ⟨hx, by simp only [wt]; omega, by simp [ht], by simp [mg]⟩
theorem Gd.dct {n h m : Nat} (hn : 10 ≤ n) (hh : 1 ≤ h) : Gd n h m (.dct []) := ⟨rfl, by simp only [wt]; omega, by simp only [ht]; omega, by simp [mg]⟩
theorem Gd.asc {n h m : Nat} {x : Str} (a : Gd n h m (.str x)) : (∀ c ∈ x.cps.toList, c < 128) ∧ 10 * x.length + 10 ≤ n := by
  obtain ⟨a1, a2, _, _⟩ := a
  simp only [gdD, wt] at a1 a2
  exact ⟨fun c hc => of_decide_eq_true (List.all_eq_true.mp a1 c hc), a2⟩
theorem Gd.plain {n h m : Nat} {d : D} (a : Gd n h m d) : plain d = true := by
  obtain ⟨a1, _, _, _⟩ := a
  cases d <;> first | rfl | simp [gdD] at a1
end DL
set_option Elab.async false
set_option linter.all false
set_option maxRecDepth 100000
set_option maxHeartbeats 4000000
/-! one step each, for long bodies -/
namespace DL
open PySem PySem.Spec L2
open PySem.W (Frag)
section
variable {env env1 : List En} {k k1 k2 k' : DkO} {f h q : Sm D} {p p' : Sm Bool} {l lk its : Sm (List D)} {m : Sm (List En)} {d x y r : D} {s t : Ss} {ds es : List D}
theorem seq_nx (e : s env k = .nx env1 k1) : sSeq s t env k = t env1 k1 := by rw [sSeq_eq, e]
theorem seq_rt (e : s env k = .rt d k1) : sSeq s t env k = .rt d k1 := by rw [sSeq_eq, e]
theorem ifs_t (e : p env k = .ok true k1) : sIfS p s t env k = s env k1 := by rw [sIfS_eq, e]; rfl
theorem ifs_f (e : p env k = .ok false k1) : sIfS p s t env k = t env k1 := by rw [sIfS_eq, e]; rfl
theorem set_run {i : Nat} (e : f env k = .ok d k1) : sSet i f env k = .nx (env.set i (.d d)) k1 := by rw [sSet_eq, e]; rfl
theorem setN_run {i : Nat} (e : l env k = .ok ds k1) : sSetN i l env k = .nx (env.set i (.own ds)) k1 := by rw [sSetN_eq, e]; rfl
theorem ret_run (e : f env k = .ok d k1) : sRet f env k = .rt d k1 := by rw [sRet_eq, e]; rfl
theorem expr_run (e : f env k = .ok d k1) : sExpr f env k = .nx env k1 := by rw [sExpr_eq, e]; rfl
theorem for_run {t : Tgt} (e : its env k = .ok ds k1) : sFor t its s env k = forM t s ds env k1 := by rw [sFor_eq, e]; rfl
theorem apnd_run {i : Nat} (h : env[i]? = some (.own ds)) (e : f env k = .ok d k1) (hl : ds.length ≤ 1000) : sApnd i f env k = .nx (env.set i (.own (ds ++ [d]))) k1 := by
  rw [sApnd_eq, h]
  show outS (f env k) env _ = _
  rw [e]
  show (if ds.length < sizeLine then _ else _) = _
  rw [if_pos (small1000 hl)]
theorem frzS_run {i : Nat} {e : En} (h : env[i]? = some e) : sFrzS i s env k = s (env.set i (frzE e)) k := by rw [sFrzS_eq, h]
theorem par2_run {i j : Nat} {e1 e2 : En} (a : m env k = .ok [e1, e2] k1) : sPar [i, j] m env k = .nx ((env.set i e1).set j e2) k1 := by
  rw [sPar_eq, a]; rfl
theorem sPar_run3 {i j m' : Nat} {e1 e2 e3 : En} (a : m env k = .ok [e1, e2, e3] k1) : sPar [i, j, m'] m env k = .nx (((env.set i e1).set j e2).set m' e3) k1 := by
  rw [sPar_eq, a]; rfl
theorem mD_run {rs : List En} (a : f env k = .ok d k1) (b : m env k1 = .ok rs k2) : mD f m env k = .ok (.d d :: rs) k2 := by
  rw [mD_eq, a, bind_ok, b, bind_ok]
theorem mN_run {rs : List En} (a : l env k = .ok ds k1) (b : m env k1 = .ok rs k2) : mN l m env k = .ok (.own ds :: rs) k2 := by
  rw [mN_eq, a, bind_ok, b, bind_ok]
theorem v_run {i : Nat} (h : env[i]? = some (.d x)) : sV i env k = .ok x k := by rw [sV_eq, h]
theorem lc_run (a : f env k = .ok d k1) (b : l env k1 = .ok ds k2) : lCons f l env k = .ok (d :: ds) k2 := by rw [lCons_eq, a, bind_ok, b, bind_ok]
theorem l1_run (a : f env k = .ok d k1) : lCons f lNil env k = .ok [d] k1 := lc_run a rfl
theorem l2_run (a : f env k = .ok x k1) (b : h env k1 = .ok y k2) : lCons f (lCons h lNil) env k = .ok [x, y] k2 := lc_run a (l1_run b)
theorem l3_run {k3 : DkO} (a : f env k = .ok x k1) (b : h env k1 = .ok y k2) (c : q env k2 = .ok r k3) : lCons f (lCons h (lCons q lNil)) env k = .ok [x, y, r] k3 := lc_run a (l2_run b c)
theorem call_run {n : Nat} {fn : Fn} (a : l env k = .ok ds k1) (hn : ds.length = n) (c : fn ds k1 = .ok r k2) : sCall n fn l env k = .ok r k2 := by
  rw [sCall_eq, a, bind_ok, if_pos hn, c]
theorem app_run {op : List D → DkO → Out D} (a : l env k = .ok ds k1) (c : op ds k1 = .ok r k2) : sApp op l env k = .ok r k2 := by rw [sApp_eq, a, bind_ok, c]
theorem pure_run {op : List D → Option D} (h : op ds = some r) : pureO op ds k = .ok r k := by unfold pureO; rw [h]; rfl
theorem op_run {op : D → D → Option D} (a : f env k = .ok x k1) (b : h env k1 = .ok y k2) (c : op x y = some r) : sOp op f h env k = .ok r k2 := by
  rw [sOp_eq, a, bind_ok, b, bind_ok, c]; rfl
theorem opO_run {op : D → D → DkO → Out D} {k3 : DkO} (a : f env k = .ok x k1) (b : h env k1 = .ok y k2) (c : op x y k2 = .ok r k3) : sOpO op f h env k = .ok r k3 := by
  rw [sOpO_eq, a, bind_ok, b, bind_ok, c]
theorem ix_run (a : f env k = .ok x k1) (b : h env k1 = .ok y k2) (c : ixD x y = some r) : sIx f h env k = .ok r k2 := by
  rw [sIx_eq, a, bind_ok, b, bind_ok, c]; rfl
theorem sl_run {lo hi : Sm (Option Int)} {k3 : DkO} {u v : Option Int} (a : f env k = .ok x k1) (b : lo env k1 = .ok u k2) (b2 : hi env k2 = .ok v k3) (c : slD x u v = some r) : sSl f lo hi env k = .ok r k3 := by
  rw [sSl_eq, a, bind_ok, b, bind_ok, b2, bind_ok, c]; rfl
theorem oSome_run {i : Int} (a : f env k = .ok (.int i) k1) : oSome f env k = .ok (some i) k1 := by rw [oSome_eq, a]; rfl
theorem oNone_run : oNone env k = .ok none k := rfl
theorem b_run {b : Bool} (a : f env k = .ok (.bl b) k1) : sB f env k = .ok b k1 := by rw [sB_eq, a]; rfl
theorem tru_run {b : Bool} (a : f env k = .ok d k1) (e : truD d = some b) : sTru f env k = .ok b k1 := by rw [sTru_eq, a, bind_ok, e]; rfl
theorem notB_run {b : Bool} (a : p env k = .ok b k1) : sNotB p env k = .ok (!b) k1 := by rw [sNotB_eq, a]; rfl
theorem andB_t (a : p env k = .ok true k1) : sAndB p p' env k = p' env k1 := by rw [sAndB_eq, a]; rfl
theorem andB_f (a : p env k = .ok false k1) : sAndB p p' env k = .ok false k1 := by rw [sAndB_eq, a]; rfl
theorem orB_t (a : p env k = .ok true k1) : sOrB p p' env k = .ok true k1 := by rw [sOrB_eq, a]; rfl
theorem orB_f (a : p env k = .ok false k1) : sOrB p p' env k = p' env k1 := by rw [sOrB_eq, a]; rfl
theorem sif_run {b : Bool} (a : p env k = .ok b k1) : sIf p f h env k = if b = true then f env k1 else h env k1 := by rw [sIf_eq, a]; rfl
theorem isi_run {T : String} (a : f env k = .ok d k1) (hp : plain d = true) : sIsi T f env k = .ok (.bl (isTy T d)) k1 := by rw [sIsi_eq, a, bind_ok]; cases d <;> first | rfl | cases hp
theorem lst_run (a : l env k = .ok ds k1) (hl : ds.length ≤ 1000) : sLst l env k = .ok (.lst ds) k1 := by rw [sLst_eq, a, bind_ok, if_pos (Nat.le_of_lt (small1000 hl))]
theorem tup_run (a : l env k = .ok ds k1) (hl : ds.length ≤ 1000) : sTup l env k = .ok (.tup ds) k1 := by rw [sTup_eq, a, bind_ok, if_pos (Nat.le_of_lt (small1000 hl))]
theorem new_run (a : l env k = .ok ds k1) (hl : ds.length ≤ 1000) : sNew l env k = .ok ds k1 := by rw [sNew_eq, a, bind_ok, if_pos (Nat.le_of_lt (small1000 hl))]
theorem m1_run {op : Str → List D → Option D} {z : Str} (hf : f env k = .ok (.str z) k1) (hh : h env k1 = .ok d k2) (ho : op z [d] = some r) : sM1 op f h env k = .ok r k2 := by
  rw [sM1_eq, hf, bind_ok]
  show (h env k1).bind (fun e k2 => Out.of (op z [e]) k2) = _
  rw [hh, bind_ok, ho]; rfl
theorem m0_run {op : Str → List D → Option D} {z : Str} (hf : f env k = .ok (.str z) k1) (ho : op z [] = some r) : sM0 op f env k = .ok r k1 := by
  rw [sM0_eq, hf, bind_ok]
  show Out.of (op z []) k1 = _
  rw [ho]; rfl
theorem rev_run (a : f env k = .ok x k1) (c : revD x = some r) : sRev f env k = .ok r k1 := by rw [sRev_eq, a, bind_ok, c]; rfl
theorem frz_run (a : l env k = .ok ds k1) : sFrz l env k = .ok (.lst ds) k1 := by rw [sFrz_eq, a, bind_ok]
theorem iVal_run (a : f env k = .ok x k1) (c : itemsOf x = some ds) : iVal f env k = .ok ds k1 := by rw [iVal_eq, a, bind_ok, c]; rfl
theorem comp_run {t : Tgt} {vs : List Nat} {rs : List D} (a : its env k = .ok ds k1) (hc : compM t p f (wipeE env vs) ds [] k1 = .ok rs k2) : sFrz (sComp t vs p f its) env k = .ok (.lst rs) k2 := by
  rw [sFrz_eq, sComp_eq, a, bind_ok, hc, bind_ok]
theorem make_run {cn : String} {n : Nat} {fn : FnI} {fs : List (Str × D)} (a : l env k = .ok ds k1) (hn : ds.length = n) (c : fn ds k1 = .ok fs k2) : sOfC cn (sC (.cls cn)) (sMake cn n fn l) env k = .ok (.obj cn fs) k2 := by
  rw [sOfC_eq, sC_eq, bind_ok]
  show (if cn = cn then sMake cn n fn l env k else .bad) = _
  rw [if_pos rfl, sMake_eq, a, bind_ok, if_pos hn, c, bind_ok]
/-- a body that returns -/
def Rt (o : OutS) (Q : D → Dk → Prop) : Prop := ∃ d k', o = .rt d (some k') ∧ Q d k'
section
variable {Q : D → Dk → Prop} {κ : Dk}
theorem Rt.seq (e : s env k = .nx env1 k1) (h : Rt (t env1 k1) Q) : Rt (sSeq s t env k) Q := by rw [seq_nx e]; exact h
theorem Rt.seqRt (h : Rt (s env k) Q) : Rt (sSeq s t env k) Q := by
  obtain ⟨d, k', e, q⟩ := h
  exact ⟨d, k', seq_rt e, q⟩
theorem Rt.ifT (e : p env k = .ok true k1) (h : Rt (s env k1) Q) : Rt (sIfS p s t env k) Q := by rw [ifs_t e]; exact h
theorem Rt.ifF (e : p env k = .ok false k1) (h : Rt (t env k1) Q) : Rt (sIfS p s t env k) Q := by rw [ifs_f e]; exact h
theorem Rt.ret (e : f env k = .ok d (some κ)) (q : Q d κ) : Rt (sRet f env k) Q := ⟨d, κ, ret_run e, q⟩
theorem Rt.frz {i : Nat} {e : En} (h : env[i]? = some e) (r : Rt (s (env.set i (frzE e)) k) Q) : Rt (sFrzS i s env k) Q := by rw [frzS_run h]; exact r
theorem Rt.fn {n : Nat} {ds : List D} (h : Rt (s (entryE n ds) k) Q) : ∃ d k', fnD n s ds k = .ok d (some k') ∧ Q d k' := by
  obtain ⟨d, k', e, q⟩ := h
  refine ⟨d, k', ?_, q⟩
  show endD (s (entryE n ds) k) = _
  rw [e]; rfl
end
/-! ### numbers -/
theorem big62_ok {w : Nat} (h : w ≤ 1000) : big62 (w : Nat) = true := by
  unfold big62
  simp only [Bool.and_eq_true, decide_eq_true_eq]
  omega
theorem range_map {w : Nat} : rangeL 0 (w : Nat) = (List.range w).map fun (i : Nat) => .int (i : Nat) := by unfold rangeL; simp
theorem range1_run {w : Nat} (a : f env k = .ok (.int (w : Nat)) k1) (hw : w ≤ 1000) : iRange1 f env k = .ok ((List.range w).map fun (i : Nat) => .int (i : Nat)) k1 := by
  rw [iRange1_eq, a, bind_ok]
  show (if big62 (w : Int) = true then Out.ok (rangeL 0 w) k1 else .bad) = _
  rw [if_pos (big62_ok hw), range_map]
theorem draw_of {FD : Fn} (hD : DrawOk FD) {b : Int} {k : Dk} {n : Nat} (h0 : env[0]? = some (.d .dk)) (hb : bOk b = true) (hk : Bud k (n + 1)) :
    ∃ (r : Nat) (k' : Dk), sCall 2 FD (lCons (sV 0) (lCons (sC (.int b)) lNil)) env (some k) = .ok (.int (r : Nat)) (some k') ∧ (r : Int) < b ∧ Bud k' n := by
  obtain ⟨r, k', e, r0, r1, hb'⟩ := hD b k n hb hk
  obtain ⟨i, rfl⟩ := Int.eq_ofNat_of_zero_le r0
  exact ⟨i, k', call_run (l2_run (v_run h0) rfl) rfl e, r1, hb'⟩
theorem pick_of {FP : Fn} (hP : PickOk FP) {k : Dk} {n : Nat} {xs : List D} (h0 : env[0]? = some (.d .dk)) (a : h env (some k) = .ok (.lst xs) (some k)) (hx : 0 < xs.length) (hx2 : xs.length ≤ 1000) (hk : Bud k (n + 1)) :
    ∃ (d : D) (k' : Dk), sCall 2 FP (lCons (sV 0) (lCons h lNil)) env (some k) = .ok d (some k') ∧ d ∈ xs ∧ Bud k' n := by
  obtain ⟨d, k', e, hm, hb'⟩ := hP.lst xs k n hx (by omega) hk
  exact ⟨d, k', call_run (l2_run (v_run h0) a) rfl e, hm, hb'⟩
end
/-! ### equals -/
theorem eq_str {x y : Str} : eqD (.str x) (.str y) = some (.bl (x == y)) := by
  unfold eqD orD nilT eqvD; simp [D.py, flatPy, PyData.hasDict, PyData.depth, PyData.eqv]
theorem ne_str {x y : Str} : neD (.str x) (.str y) = some (.bl (!(x == y))) := by
  unfold neD orD eqvD; simp [D.py, flatPy, PyData.hasDict, PyData.depth, PyData.eqv]
theorem eq_int {i j : Int} : eqD (.int i) (.int j) = some (.bl (i == j)) := by
  unfold eqD orD nilT eqvD; simp [D.py, flatPy, PyData.hasDict, PyData.depth, PyData.eqv]
theorem ne_int {i j : Int} : neD (.int i) (.int j) = some (.bl (!(i == j))) := by
  unfold neD orD eqvD; simp [D.py, flatPy, PyData.hasDict, PyData.depth, PyData.eqv]
theorem eq_bl {i j : Bool} : eqD (.bl i) (.bl j) = some (.bl (i == j)) := by
  unfold eqD orD nilT eqvD; simp [D.py, flatPy, PyData.hasDict, PyData.depth, PyData.eqv]
theorem ne_bl {i j : Bool} : neD (.bl i) (.bl j) = some (.bl (!(i == j))) := by
  unfold neD orD eqvD; simp [D.py, flatPy, PyData.hasDict, PyData.depth, PyData.eqv]
theorem gt_int {i j : Int} : gtD (.int i) (.int j) = some (.bl (decide (j < i))) := by
  unfold gtD intOp; rfl
theorem lt_int {i j : Int} : ltD (.int i) (.int j) = some (.bl (decide (i < j))) := by
  unfold ltD orD intOp; rfl
theorem plus_int {i j : Int} : plusD (.int i) (.int j) = some (.int (i + j)) := rfl
theorem minus_int {i j : Int} : minusD (.int i) (.int j) = some (.int (i - j)) := by
  unfold minusD orD subD intOp; rfl
end DL
set_option Elab.async false
set_option linter.all false
set_option maxRecDepth 100000
set_option maxHeartbeats 4000000
/-! zip, displays of dicts, reads by name, methods by name, ranges as lists -/
namespace DL
open PySem PySem.Spec L2
open PySem.W (Frag)
/-! ### zip -/
def zipD (xs ys : List D) : List D := (xs.zip ys).map fun p => .tup [p.1, p.2]
theorem zipD_len (xs ys : List D) : (zipD xs ys).length = min xs.length ys.length := by unfold zipD; simp
theorem zipD_get {xs ys : List D} {i : Nat} {x y : D} (h : xs[i]? = some x) (h2 : ys[i]? = some y) : (zipD xs ys)[i]? = some (.tup [x, y]) := by
  unfold zipD
  rw [List.getElem?_map, (List.getElem?_zip_eq_some (z := (x, y))).mpr ⟨h, h2⟩]
  rfl
theorem walk_two {K : Frag} {a b : Addr} {xs ys : List V} {n : Nat} (hn : n = min xs.length ys.length) : Walk (RZ.ItzT K a b) n (fun H => SqT K H a xs ∧ SqT K H b ys) (YPair (fun i => xs[i]?) (fun i => ys[i]?)) := by
  have h1 : n ≤ xs.length := by omega
  have h2 : n ≤ ys.length := by omega
  refine { goes := fun i _ hi z => ?_, stops := fun _ z => ?_, yields := fun i H v H' _ z y => ?_ }
  · exact ⟨xs, ys, xs[i], ys[i], z.1, z.2, List.getElem?_eq_getElem (by omega), List.getElem?_eq_getElem (by omega)⟩
  · exact ⟨xs, ys, z.1, z.2, by omega⟩
  · obtain ⟨T, x, w, e1, e2, e3, e4, e5⟩ := y
    exact ⟨T, x, w, e1, e2, e3, e4 _ z.1, e5 _ z.2⟩
section
variable {X : Cx} {g : G} {xc : XC} {W : WX} {a b c e o tg iter elt : Expr} {es rest ifs : List Expr} {f h q fo ff : Sm D} {p p' : Sm Bool} {l lk its : Sm (List D)} {pos : Pos}
theorem dw_zip {F : Hp} {J : It} {ds es : List D} {vs ws : List V} {G : Hp → Prop} (w : Walk J (min vs.length ws.length) G (YPair (fun i => vs[i]?) (fun i => ws[i]?))) (hG : ∀ H, Same F H → G H) (r : RepAll g F vs ds) (r2 : RepAll g F ws es) : DWalk g F J (zipD ds es) := by
  rw [r.length, r2.length, ← zipD_len] at w
  refine ⟨G, _, w, hG, fun i H F1 k v H' s fs hi y => ?_⟩
  obtain ⟨T, x, z, rfl, nT, rfl, hx, hz⟩ := y
  obtain ⟨d, hd, rd⟩ := (r.same fs).get' hx
  obtain ⟨e, he, re⟩ := (r2.same fs).get' hz
  have st := Stp.laid (o := .tup [x, z]) s nT
  exact ⟨_, _, st, zipD_get hd he, .tup (SqT.of upd_same) (.cons (rd.same st.ff) (.cons (re.same st.ff) .nil))⟩
def zipO : List D → Option (List D)
  | [.lst xs, .lst ys] => some (zipD xs ys)
  | [.tup xs, .tup ys] => some (zipD xs ys)
  | _ => none
def iZip (l : Sm (List D)) : Sm (List D) := fun env k => (l env k).bind fun ds k1 => .of (zipO ds) k1
theorem pdi_zip {p2 tpos : Pos} {elts : List Expr} {kk : Nat} (hK : X.K = g.K) (hg : Gl X "zip") (hm : X.mg "zip" = none) (ha : PDA X g xc W [a, b] l)
    (hs : starEach [a, b] X.env = (false, eval a X.env) :: starEach [b] X.env := by rfl) (hpl : (backTo pos (starEach [b] X.env)).any (·.1) = false := by rfl) :
    PDI X g xc W (.Tuple elts kk tpos) (.Call (.Name "zip" p2) [a, b] [] pos) (iZip l) := by
  refine PI.imp (RZ.pi_zipA hg hm ha hs hpl) fun σ H R ⟨F, k, env, s, ok, q⟩ => ?_
  refine tDA_thenS (R := fun ds k1 => .of (zipO ds) k1) s ok q fun vs ds H1 F1 k1 s1 ok1 r q1 => ?_
  unfold zipO at q1
  split at q1
  · obtain ⟨v, w, rfl, r1, r2⟩ := rep2 r
    obtain ⟨y, vs, rfl, h1, rs⟩ := repLst r1
    obtain ⟨z, ws, rfl, h2, rt⟩ := repLst r2
    exact ⟨y, z, vs, ws, rfl, .inl ⟨SqL.of (s1.st.sub _ _ h1), SqL.of (s1.st.sub _ _ h2), q1 _ _ (.refl s1.st) _ (dw_zip (walk_zip rfl) (fun _ u => ⟨u.seq (SqL.of h1), u.seq (SqL.of h2)⟩) rs rt)⟩⟩
  · obtain ⟨v, w, rfl, r1, r2⟩ := rep2 r
    obtain ⟨y, vs, rfl, h1, rs⟩ := repTup r1
    obtain ⟨z, ws, rfl, h2, rt⟩ := repTup r2
    rw [hK]
    exact ⟨y, z, vs, ws, rfl, .inr ⟨s1.st.sub.seqT h1, s1.st.sub.seqT h2, q1 _ _ (.refl s1.st) _ (dw_zip (walk_two rfl) (fun _ u => ⟨u.seqT h1, u.seqT h2⟩) rs rt)⟩⟩
  · exact q1.elim

/-! ### dicts by trees -/
def findD (k : Key) (kvs : List (Key × D)) : Option D := (kvs.find? fun kv => decide (kv.1 = k)).map (·.2)
def kputD (kvs : List (Key × D)) (k : Key) (v : D) : List (Key × D) :=
  if kvs.any (fun kv => decide (kv.1 = k)) = true then kvs.map (fun kv => if kv.1 = k then (kv.1, v) else kv) else kvs ++ [(k, v)]
def mergeD (kvs more : List (Key × D)) : List (Key × D) := more.foldl (fun acc kv => kputD acc kv.1 kv.2) kvs
theorem RepKv.length {F : Hp} : ∀ {vs : List (Key × V)} {ds : List (Key × D)}, RepKv g F vs ds → vs.length = ds.length
  | _, _, .nil => rfl
  | _, _, .cons _ r => by rw [List.length_cons, List.length_cons, RepKv.length r]
theorem RepKv.any {F : Hp} {k : Key} : ∀ {vs : List (Key × V)} {ds : List (Key × D)}, RepKv g F vs ds → vs.any (fun kv => decide (kv.1 = k)) = ds.any (fun kv => decide (kv.1 = k))
  | _, _, .nil => rfl
  | _, _, .cons _ r => by rw [List.any_cons, List.any_cons, RepKv.any r]
theorem RepKv.find {F : Hp} {k : Key} {d : D} : ∀ {vs : List (Key × V)} {ds : List (Key × D)}, RepKv g F vs ds → findD k ds = some d → ∃ v, valV vs k = some v ∧ Rep g F v d
  | _, _, .nil, e => by simp [findD] at e
  | _, _, .cons (k := k') r t, e => by
    unfold findD at e
    rw [List.find?_cons] at e
    by_cases hb : k' = k
    · simp only [hb, decide_true] at e
      cases e
      exact ⟨_, valV_pos hb, r⟩
    · simp only [hb, decide_false] at e
      obtain ⟨v, h1, h2⟩ := RepKv.find t e
      exact ⟨v, by rw [valV_neg hb]; exact h1, h2⟩
theorem RepKv.app {F : Hp} : ∀ {vs ws : List (Key × V)} {ds es : List (Key × D)}, RepKv g F vs ds → RepKv g F ws es → RepKv g F (vs ++ ws) (ds ++ es)
  | _, _, _, _, .nil, s => s
  | _, _, _, _, .cons h r, s => .cons h (RepKv.app r s)
theorem RepKv.sub {F : Hp} {k : Key} {v : V} {d : D} (rv : Rep g F v d) : ∀ {vs : List (Key × V)} {ds : List (Key × D)}, RepKv g F vs ds → RepKv g F (vs.map fun kv => if kv.1 = k then (kv.1, v) else kv) (ds.map fun kv => if kv.1 = k then (kv.1, d) else kv)
  | _, _, .nil => .nil
  | _, _, .cons (k := k') h r => by
    rw [List.map_cons, List.map_cons]
    by_cases hb : k' = k
    · rw [if_pos hb, if_pos hb]; exact .cons rv (RepKv.sub rv r)
    · rw [if_neg hb, if_neg hb]; exact .cons h (RepKv.sub rv r)
theorem RepKv.put {F : Hp} {k : Key} {v : V} {d : D} {vs : List (Key × V)} {ds : List (Key × D)} (r : RepKv g F vs ds) (rv : Rep g F v d) : RepKv g F (putK vs k v) (kputD ds k d) := by
  unfold putK kputD
  rw [r.any]
  split
  · exact r.sub rv
  · exact r.app (.cons rv .nil)
theorem RepKv.merge {F : Hp} : ∀ {ws : List (Key × V)} {es : List (Key × D)} {vs : List (Key × V)} {ds : List (Key × D)}, RepKv g F ws es → RepKv g F vs ds → RepKv g F (mergeK vs ws) (mergeD ds es)
  | _, _, _, _, .nil, r => r
  | _, _, _, _, .cons h t, r => by
    unfold mergeK mergeD
    rw [List.foldl_cons, List.foldl_cons]
    exact RepKv.merge t (RepKv.put r h)
/-- {"x": e, ..} -/
def kvNil : Sm (List (Key × D)) := fun _ k => .ok [] k
def kvCons (x : Str) (f : Sm D) (l : Sm (List (Key × D))) : Sm (List (Key × D)) := fun env k => (f env k).bind fun d k1 => (l env k1).bind fun ds k2 => .ok ((.inr x, d) :: ds) k2
def sDisp (l : Sm (List (Key × D))) : Sm D := fun env k => (l env k).bind fun kvs k1 => if kvs.length ≤ 15 then .ok (.dct (mergeD [] kvs)) k1 else .bad
def PDP (X : Cx) (g : G) (xc : XC) (W : WX) (pos : Pos) (ks : List (Option Expr)) (vs : List Expr) (l : Sm (List (Key × D))) : Prop :=
  ∃ trs, PPs X pos ks vs trs ∧ ∀ σ H F k env (Q : List (V × V) → Hp → Prop), Sta g H F k → EnvOk g xc k σ H F env →
    Ask g W σ H F k (l env k) (fun kvs H' F' k' => ∀ ps : List (Key × V), RepKv g F' ps kvs → Q (ps.map fun kv => (kV kv.1, kv.2)) H') → tPairs trs σ H Q
theorem pdp_nil : PDP X g xc W pos [] [] kvNil := ⟨[], pps_nil, fun σ H F k env Q s ok q => q H F (.refl s) [] .nil⟩
theorem pdp_cons {x : Str} {j : Nat} {cp : Pos} {ks : List (Option Expr)} {vs : List Expr} {lv : Sm (List (Key × D))} (hv : PD X g xc W e f) (hr : PDP X g xc W pos ks vs lv) : PDP X g xc W pos (some (.Constant (.str x) j cp) :: ks) (e :: vs) (kvCons x f lv) := by
  obtain ⟨trs, h1, h2⟩ := hr
  refine ⟨_, pps_cons pe_str hv h1, fun σ H F k env Q s ok q => ?_⟩
  show tD g xc W f σ H _
  refine tD_thenS s ok q fun v d H1 F1 k1 s1 ok1 r q1 => ?_
  refine h2 σ H1 F1 k1 env _ s1.st ok1 ((Ask.bind q1).imp fun kvs H2 F2 k2 _ s2 q2 ps rs => ?_)
  exact q2 _ _ (.refl s2.st) ((.inr x, v) :: ps) (.cons (r.same s2.ff) rs)
theorem pd_disp {keys : List (Option Expr)} {values : List Expr} {lv : Sm (List (Key × D))} (hp : PDP X g xc W pos keys values lv) (hall : keys.all (·.isSome) = true := by rfl) (hl : keys.length = values.length := by rfl) (h0 : keys ≠ [] := by exact fun z => nomatch z) (h15 : keys.length ≤ 15 := by decide) :
    PD X g xc W (.Dict keys values pos) (sDisp lv) := by
  obtain ⟨trs, h1, h2⟩ := hp
  refine PE.imp (pe_disp h1 hall hl h0 h15) fun σ H Q ⟨F, k, env, s, ok, q⟩ => ?_
  intro pp np
  have s0 := Stp.hid (o := .dK []) s np
  unfold sDisp at q
  cases hq : lv env k with
  | bad => rw [hq] at q; exact q.elim
  | err c fs k1 =>
    refine h2 σ _ F k env _ s0.st (ok.step s0) ?_
    rw [hq] at q ⊢
    exact Ask.after (o := (.err c fs k1 : Out (List (Key × D)))) (Q := fun _ _ _ _ => True) (by exact q) s0
  | ok kvs k1 =>
    refine h2 σ _ F k env _ s0.st (ok.step s0) ?_
    rw [hq] at q ⊢
    intro H1 F1 s1 ps rs
    have np' : ¬ dkM g k pp := dkM_ne s np
    have hp1 : H1 pp = some (.dK []) := s1.keep _ _ np' upd_same
    have f0 : F pp = none := none_sub s np
    have fp1 : F1 pp = none := s1.new _ f0 (by rw [upd_same]; exact fun z => by cases z)
    have dp1 : ¬ dkM g k1 pp := fun z => np' (s1.ks.m.mp z)
    change Ask g W σ H F k (if kvs.length ≤ 15 then .ok (D.dct (mergeD [] kvs)) k1 else .bad) _ at q
    by_cases hz : kvs.length ≤ 15
    · rw [if_pos hz] at q
      refine ⟨hp1, ps, rfl, by rw [rs.length]; exact hz, ?_⟩
      have st := ((s0.trans s1).own (o := .dK (mergeK [] ps)) np fp1 dp1).frz np fp1 dp1 upd_same
      exact q _ _ st _ (.dct upd_same ((rs.merge (g := g) .nil).same (same_frz fp1)))
    · rw [if_neg hz] at q; exact q.elim
/-- d["x"] -/
def keyD : D → D → Option D
  | .dct kvs, .str x => findD (.inr x) kvs
  | _, _ => none
def sKey (f h : Sm D) : Sm D := sOp keyD f h
theorem pd_key (hu : X.A.units + 64 < cLine) (ha : PD X g xc W a f) (hb : PD X g xc W b h) (hs : NoSl b := by exact fun _ _ => rfl) : PD X g xc W (.Subscript a b pos) (sKey f h) := by
  refine PE.imp (pe_dget (by omega) ha hb hs) fun σ H Q ⟨F, k, env, s, ok, q⟩ => ?_
  refine tD_then' s ok q fun x da H1 F1 k1 s1 ok1 ff1 rx q1 => ?_
  refine tD_then' s1 ok1 q1 fun y db H2 F2 k2 s2 ok2 ff2 ry q2 => ?_
  cases hq : keyD da db with
  | none => rw [hq] at q2; exact q2.elim
  | some d =>
    rw [hq] at q2
    unfold keyD at hq
    split at hq
    · rename_i kvs z
      obtain ⟨rfl, _⟩ := repStr ry
      cases rx.same ff2 with
      | dct e r =>
        obtain ⟨v, h1, h2⟩ := r.find hq
        refine ⟨_, v, rfl, ?_, q2 _ _ (.refl s2) _ h2⟩
        rw [← h1]
        exact DGet.k (k := .inr z) (s2.sub _ _ e)
    · cases hq

/-! ### list(range(n)) -/
theorem rgV_is (n : Int) : rgV 0 n = (List.range (n - 0).toNat).map fun (i : Nat) => V.int (0 + i) := rfl
def iLR1 (f : Sm D) : Sm (List D) := fun env k => (f env k).bind fun d k1 => match d with
  | .int j => if 0 ≤ j ∧ j ≤ 16777216 then .ok (rangeL 0 j) k1 else .bad
  | _ => .bad
theorem rep_range {F : Hp} (n : Int) : RepAll g F (rgV 0 n) (rangeL 0 n) := by
  rw [rgV_is]
  unfold rangeL
  generalize List.range (n - 0).toNat = l
  induction l with
  | nil => exact .nil
  | cons i l ih => exact .cons (.int _) ih
theorem pdn_listRg {p2 p3 p4 : Pos} (hc : X.calm = true) (hg : Gl X "list") (hm : X.mg "list" = none) (hg2 : Gl X "range") (hm2 : X.mg "range" = none) (ha : PD X g xc W a f)
    (na : starEach [.Call (.Name "range" p2) [a] [] p3] X.env = (false, eval (.Call (.Name "range" p2) [a] [] p3) X.env) :: starEach [] X.env := by rfl)
    (na2 : starEach [a] X.env = (false, eval a X.env) :: starEach [] X.env := by rfl) : PDN X g xc W (.Call (.Name "list" p4) [.Call (.Name "range" p2) [a] [] p3] [] pos) (iLR1 f) := by
  refine PE.imp (pe_listRg hc hg hm (prg_1 hg2 hm2 ha na2) na) fun σ H Q ⟨F, k, env, s, ok, q⟩ => ?_
  show tD g xc W f σ H _
  refine tD_thenS s ok q fun v d H1 F1 k1 s1 ok1 r q1 => ?_
  cases d with
  | int j =>
    rw [repInt r]
    change Ask g W σ H1 F1 k1 (if 0 ≤ j ∧ j ≤ 16777216 then .ok (rangeL 0 j) k1 else .bad) _ at q1
    by_cases hj : 0 ≤ j ∧ j ≤ 16777216
    · rw [if_pos hj] at q1
      refine ⟨j, rfl, RgOk.of_le (by decide) hj.2 (by decide) hj.1, fun pp np => ?_⟩
      exact q1 _ _ (Stp.hid s1.st np) pp _ upd_same (none_sub s1.st np) (dkM_ne s1.st np) (rep_range j) (none_back s1 np)
    · rw [if_neg hj] at q1; exact q1.elim
  | _ => exact q1.elim

/-! ### the place of a sign -/
def indexD (x : Str) : List D → Option D
  | [.str y] => match Builtin.Str.occurrences x y 0 x.length 1 with
    | i :: _ => some (.int (i : Nat))
    | [] => none
  | _ => none
theorem mto_index : MtO X g "str.index" indexD := ⟨_, mt_sindex, fun H F k x xs ds d Q s hx rs e q => by
  unfold indexD at e
  split at e
  · rename_i y
    split at e
    · rename_i i r hi
      cases e
      obtain ⟨v, rfl, r⟩ := rep1 rs
      rw [(repStr r).1]
      exact ⟨_, _, i, _, rfl, rfl, hi, q _ H F (.refl s) (.int _)⟩
    · cases e
  · cases e⟩

/-! ### o.m(k = v, ..) -/
section
variable {kk : Nat} {fa C : Addr} {fd : FuncData} {ps ks : List Str} {n : Nat} {fn : Fn}
theorem pd_methK0 {c : String} {m : Str} {apos : Pos} {pl : Sem Bool} {kws : List Keyword} {j : Nat} {ix : List Nat} (hK : X.K = g.K) (hO : OwnAll g) (hc : c ∈ g.own) (hmt : Meth g.K (g.cl c) m fa) (Fm : FnG X.prog X.w X.K X.mg X.base kk fa fd ps (SpD g n fn)) (hr : Room kk X.A) (hgd : X.A.guards = some [])
    (hb : KBinds X.K fd ps ks (ord 1 j (0 :: ix.map (· + 1))) (ord 1 j (0 :: ix.map (· + 1)))) (tk : Takes X W) (ho : PD X g xc W o fo) (hkw : PDK X g xc W kws lk)
    (hall : (backToKw pos (keywordEach kws X.env)).all (·.1.isSome) = true := by rfl) (hks : (backToKw pos (keywordEach kws X.env)).filterMap (·.1) = ks := by rfl)
    (hpl : ((backTo pos (starEach [] X.env)).any (·.1) || (backToKw pos (keywordEach kws X.env)).any (·.1.isNone)) = false := by rfl)
    (ht : eval (.Call (.Attribute o m apos) [] kws pos) X.env = (do
      let u ← eval o X.env
      standAt apos.atName
      let (f, first) ← holding [u] (getMethod u m pl)
      callWith pos f first (backTo pos (starEach [] X.env)) (backToKw pos (keywordEach kws X.env))) := by rfl) : PD X g xc W (.Call (.Attribute o m apos) [] kws pos) (sMeth c m n fn fo (sOrdK j ix lk)) := by
  refine ⟨fun pins s0 σ H Q I hq => ?_⟩
  obtain ⟨F, k, env, s, ok, q⟩ := hq
  refine PySem.W.methodCall_KW (pl := pl) (thn (ho.run pins s0 σ H _ I (tD_thenS (Q2 := fun v H1 => ∃ a dx fs, v = .ref a ∧ H1 a = some (.ins (g.cl c) dx fs) ∧ fs.lookup m = none ∧ tDA g xc W lk σ H1 fun vs H2 => SpD g n fn (ord 1 j (0 :: ix.map (· + 1)) [.ref a] vs) H2 Q (WE W σ)) s ok q fun v d H1 F1 k1 s1 ok1 r q1 => ?_)) fun u s1 ⟨x, H1, I1, rx, a, dx, fs, ex, ea, hl, q1⟩ => ?_) ht
  · cases d with
    | obj c' fs =>
      change Ask g W σ H1 F1 k1 (if c' = c ∧ fs.lookup m = none then (sOrdK j ix lk env k1).bind fun ds k2 => if ds.length + 1 = n then fn (.obj c' fs :: ds) k2 else .bad else .bad) _ at q1
      by_cases hcs : c' = c ∧ fs.lookup m = none
      · rw [if_pos hcs] at q1
        obtain ⟨rfl, hno⟩ := hcs
        obtain ⟨a, dx, ws, rfl, hc2, h1, rf⟩ := repObj r
        refine ⟨a, dx, ws, rfl, s1.st.sub _ _ h1, rf.lookupN hno, ?_⟩
        have q2 : Ask g W σ H1 F1 k1 ((lk env k1).bind fun ds k2 => if ds.length = j then (if (ordK j ix ds).length + 1 = n then fn (.obj c' fs :: ordK j ix ds) k2 else .bad) else .bad) fun d H' F' k' => ∀ v, Rep g F' v d → Q v H' := by
          unfold sOrdK at q1
          cases hlk : lk env k1 with
          | bad => rw [hlk] at q1; exact q1
          | err c fs k1 => rw [hlk] at q1; exact q1
          | ok ds k1 =>
            rw [hlk] at q1
            simp only [bind_ok] at q1 ⊢
            by_cases hj : ds.length = j
            · rw [if_pos hj] at q1 ⊢; exact q1
            · rw [if_neg hj] at q1 ⊢; exact q1
        refine tDA_then s1.st ok1 q2 fun vs ds H2 F2 k2 s2 ok2 ff2 rs q3 => ?_
        by_cases hj : ds.length = j
        · rw [if_pos hj] at q3
          by_cases hn : (ordK j ix ds).length + 1 = n
          · rw [if_pos hn] at q3
            rw [ord_one (by rw [rs.length]; exact hj)]
            exact ⟨by rw [List.length_cons, (rep_ordK rs).length]; exact hn, F2, k2, _, s2, .cons (r.same ff2) (rep_ordK rs), .of q3⟩
          · rw [if_neg hn] at q3; exact q3.elim
        · rw [if_neg hj] at q3; exact q3.elim
      · rw [if_neg hcs] at q1; exact q1.elim
    | _ => exact q1.elim
  · subst ex
    obtain rfl : u = Value.ref a := rx
    refine getmeth_ok I1 ea (by have := (hO c hc).cl; rw [← hK] at this; exact this) (by rw [hK]; exact hmt) hl ?_
    refine PySem.W.callWith_KW0 (h₀ := X.base) (first := [.ref a]) I1.ok.mod.kin (by have := hmt.kp; rw [← hK] at this; exact this) hall (thn (hkw.run pos pins _ σ H1 _ (I1.tok _) q1) fun ws s2 ⟨zs, H2, I2, rz, q2⟩ => ⟨I2.kIn, ?_⟩) hpl
    rw [hks]
    exact callKG_at (us := [.ref a]) (vs := [.ref a]) Fm hr hgd hb (passAt tk σ) I2 (.cons rfl .nil) rz q2
end
end
end DL
set_option Elab.async false
set_option linter.all false
set_option maxRecDepth 100000
set_option maxHeartbeats 4000000
/-! dicts: their items, made of pairs, compared -/
namespace DL
open PySem PySem.Spec L2
open PySem.W (Frag)
section
variable {X : Cx} {g : G} {xc : XC} {W : WX} {a b c e o tg iter elt : Expr} {es rest ifs : List Expr} {f h q fo ff : Sm D} {p p' : Sm Bool} {l lk its : Sm (List D)} {pos : Pos}
/-! ### list(d.items()) -/
def keyTo : Key → D
  | .inl i => .int i
  | .inr x => .str x
def keyFit : Key → Bool
  | .inl _ => true
  | .inr x => decide (x.length ≤ sizeLine) && PyData.strOk x
theorem rep_key {F : Hp} {k : Key} (h : keyFit k = true) : Rep g F (kV k) (keyTo k) := by
  cases k with
  | inl i => exact .int i
  | inr x =>
    simp only [keyFit, Bool.and_eq_true, decide_eq_true_eq] at h
    exact .str h
def itemsD : D → Option (List D)
  | .dct kvs => if kvs.all (fun kv => keyFit kv.1) = true then some (kvs.map fun kv => .tup [keyTo kv.1, kv.2]) else none
  | _ => none
def iItems (f : Sm D) : Sm (List D) := fun env k => (f env k).bind fun d k1 => .of (itemsD d) k1
/-- some new objects, known from now on -/
theorem Stp.more {H F : Hp} {k : DkO} {H' : Hp} (s : Sta g H F k) (S : List Addr) (keep : ∀ b u, H b = some u → H' b = some u) (new : ∀ b ∈ S, H b = none) : Stp g H F k H' (fun b => if b ∈ S then H' b else F b) k := by
  have off : ∀ {b u}, H b = some u → b ∉ S := fun e z => by rw [new _ z] at e; cases e
  refine ⟨⟨fun b u e => ?_, ?_⟩, fun b u e => ?_, fun b u _ e => keep b u e, fun b e hn => ?_, .refl _⟩
  · by_cases hb : b ∈ S
    · simp only [if_pos hb] at e; exact e
    · simp only [if_neg hb] at e; exact keep b u (s.sub b u e)
  · cases k with
    | none => trivial
    | some d =>
      obtain ⟨h1, h2, h3, h4⟩ := s.dk
      exact ⟨keep _ _ h1, keep _ _ h2, by simp only [if_neg (off h1)]; exact h3, by simp only [if_neg (off h2)]; exact h4⟩
  · simp only [if_neg (off (s.sub b u e))]; exact e
  · cases hq : H b with
    | none => exact absurd hq hn
    | some u => simp only [if_neg (off hq)]; exact e
theorem rep_pairs {F F' : Hp} (ff : Same F F') : ∀ {ts : List Addr} {kws : List (Key × V)} {kvs : List (Key × D)}, Paired (fun (t : Addr) (q : Key × V) => F' t = some (.tup [kV q.1, q.2])) ts kws → RepKv g F kws kvs → kvs.all (fun kv => keyFit kv.1) = true → RepAll g F' (ts.map V.ref) (kvs.map fun kv => .tup [keyTo kv.1, kv.2])
  | _, _, _, .nil, .nil, _ => .nil
  | _, _, _, .cons h t, .cons r rs, e => by
    simp only [List.all_cons, Bool.and_eq_true] at e
    exact .cons (.tup (SqT.of h) (.cons (rep_key e.1) (.cons (r.same ff) .nil))) (rep_pairs ff t rs e.2)
theorem paired_imp {α β : Type} {P Q : α → β → Prop} : ∀ {xs : List α} {ys : List β}, Paired P xs ys → (∀ x ∈ xs, ∀ y, P x y → Q x y) → Paired Q xs ys
  | _, _, .nil, _ => .nil
  | _, _, .cons h t, i => .cons (i _ List.mem_cons_self _ h) (paired_imp t fun x hx y => i x (List.mem_cons_of_mem _ hx) y)
theorem pd_items {p2 p3 apos : Pos} (hc : X.calm = true) (ha : PD X g xc W e f) (hg : Gl X "list") (hm : X.mg "list" = none) (hbase : attributeBase e "items" X.env (eval e X.env) = eval e X.env := by rfl) (hline : (apos.endLine == p3.line) = true := by rfl)
    (hs : starEach [.Call (.Attribute e "items" apos) [] [] p3] X.env = (false, eval (.Call (.Attribute e "items" apos) [] [] p3) X.env) :: starEach [] X.env := by rfl) :
    PD X g xc W (.Call (.Name "list" p2) [.Call (.Attribute e "items" apos) [] [] p3] [] pos) (sFrz (iItems f)) := by
  refine PE.imp (LiI.pe_listItems hc ha hg hm (by rfl) hbase hline hs) fun σ H Q ⟨F, k, env, s, ok, q⟩ => ?_
  have q' : Ask g W σ H F k ((f env k).bind fun d k1 => match itemsD d with | some ds => .ok (.lst ds) k1 | none => .bad) fun d H' F' k' => ∀ v, Rep g F' v d → Q v H' := by
    unfold sFrz iItems at q
    cases hf : f env k with
    | bad => rw [hf] at q; exact q
    | err c fs k1 => rw [hf] at q; exact q
    | ok d k1 =>
      rw [hf] at q
      simp only [bind_ok] at q ⊢
      cases hi : itemsD d with
      | none => rw [hi] at q; exact q
      | some ds => rw [hi] at q; exact q
  show tD g xc W f σ H _
  refine tD_thenS s ok q' fun v d H1 F1 k1 s1 ok1 r q1 => ?_
  cases hi : itemsD d with
  | none => rw [hi] at q1; exact q1.elim
  | some ds =>
    rw [hi] at q1
    unfold itemsD at hi
    split at hi
    · split at hi
      · cases hi
        rename_i hfit
        cases r with
        | dct e1 r1 =>
          refine ⟨_, _, rfl, s1.st.sub _ _ e1, fun H' pp ts keep np nts hpt hl hts => ?_⟩
          have st := Stp.more (H' := H') s1.st (pp :: ts) keep fun b hb => by
            rcases List.mem_cons.mp hb with rfl | hb
            · exact np
            · exact nts b hb
          refine q1 _ _ st _ (.lst (a := pp) (vs := ts.map V.ref) (by simp only [List.mem_cons, true_or, if_true]; exact hl) ?_)
          refine rep_pairs st.ff (paired_imp hts fun x hx y e => ?_) r1 hfit
          simp only [List.mem_cons, hx, or_true, if_true]
          exact e
      · cases hi
    · cases hi
/-! ### dict(ps) -/
def toKey : D → Option Key
  | .int i => some (.inl i)
  | .str x => some (.inr x)
  | _ => none
def pairsD : List D → Option (List (Key × D))
  | [] => some []
  | .tup [x, y] :: ds => match toKey x, pairsD ds with
    | some k, some kvs => some ((k, y) :: kvs)
    | _, _ => none
  | _ => none
theorem rep_toKey {F : Hp} {v : V} {d : D} {k : Key} (r : Rep g F v d) (e : toKey d = some k) : v = kV k := by
  cases r <;> first | (cases e; rfl) | cases e
theorem rep_unpair {F : Hp} : ∀ {vs : List V} {ds : List D} {kvs : List (Key × D)}, RepAll g F vs ds → pairsD ds = some kvs → ∃ (ts : List Addr) (kws : List (Key × V)), vs = ts.map V.ref ∧ Paired (fun p kv => SqT g.K F p [kV kv.1, kv.2]) ts kws ∧ RepKv g F kws kvs
  | _, _, _, .nil, e => by cases e; exact ⟨[], [], rfl, .nil, .nil⟩
  | _, _, _, .cons (d := d) (ds := ds) r rs, e => by
    unfold pairsD at e
    split at e
    · rename_i hz
      exact nomatch hz
    · rename_i x y es heq
      cases heq
      split at e
      · rename_i k kvs h1 h2
        cases e
        obtain ⟨ts, kws, rfl, hp, rk⟩ := rep_unpair rs h2
        obtain ⟨t, us, rfl, ht, ru⟩ := repTup r
        obtain ⟨v, w, rfl, rv, rw'⟩ := rep2 ru
        rw [rep_toKey rv h1] at ht
        exact ⟨t :: ts, (k, w) :: kws, rfl, .cons ht hp, .cons rw' rk⟩
      · cases e
    · cases e
def dictD : List D → Option D
  | [.lst ds] => (pairsD ds).map fun kvs => .dct (mergeD [] kvs)
  | _ => none
theorem callo_dict (hK : X.K = g.K) (hc : X.calm = true) : CallO X g (.type "dict") (pureO dictD) := CallO.pure (call_dictP hc) fun H F k xs ds d Q s rs e q => by
  unfold dictD at e
  split at e
  · obtain ⟨kvs, e1, rfl⟩ := Option.map_eq_some_iff.mp e
    obtain ⟨v, rfl, r⟩ := rep1 rs
    obtain ⟨a, vs, rfl, h1, r1⟩ := repLst r
    obtain ⟨ts, kws, rfl, hp, rk⟩ := rep_unpair r1 e1
    rw [hK]
    refine ⟨a, ts, kws, rfl, SqL.of (s.sub _ _ h1), paired_imp hp fun _ _ _ z => s.sub.seqT z, fun p np => ?_⟩
    have st := Stp.laid (o := .dK (mergeK [] kws)) s np
    exact q _ _ _ st (.dct upd_same ((rk.merge .nil).same st.ff))
  · cases e
/-! ### d == e -/
def hitsD (ys : List (Key × D)) : List (Key × D) → Option Bool
  | [] => some true
  | (k, d) :: xs => match findD k ys, hitsD ys xs with
    | some e, some b => match d.py, e.py with
      | some p, some q => if flatPy p && flatPy q then some (PyData.eqv p q && b) else none
      | _, _ => none
    | _, _ => none
def eqDct (f : Bool → Bool) : D → D → Option D
  | .dct xs, .dct ys => if xs.length = ys.length then (hitsD ys xs).map fun b => .bl (f b) else none
  | _, _ => none
inductive HitsV (K : Frag) (H : Hp) (ls : List (Key × V)) : List (Key × V) → Bool → Prop
  | nil : HitsV K H ls [] true
  | hit {k : Key} {v y : V} {p q : PyData} {r : List (Key × V)} {b : Bool} (h : valV ls k = some y) (h1 : Dp K H v p) (h2 : Dp K H y q) (s1 : SeqAt.shaped p = true) (s2 : SeqAt.shaped q = true) (t : HitsV K H ls r b) : HitsV K H ls ((k, v) :: r) (PyData.eqv p q && b)
theorem hits_of {F : Hp} {ys : List (Key × D)} {ls : List (Key × V)} (rl : RepKv g F ls ys) : ∀ {xs : List (Key × D)} {ks : List (Key × V)} {b : Bool}, RepKv g F ks xs → hitsD ys xs = some b → HitsV g.K F ls ks b
  | _, _, _, .nil, e => by cases e; exact .nil
  | _, _, _, .cons r rs, e => by
    simp only [hitsD] at e
    split at e
    · rename_i y b h1 h2
      split at e
      · rename_i p q hp hq
        split at e
        · rename_i hf
          cases e
          rw [Bool.and_eq_true] at hf
          obtain ⟨v, hv, rv⟩ := rl.find h1
          obtain ⟨d1, s1⟩ := dp_of r hp hf.1
          obtain ⟨d2, s2⟩ := dp_of rv hq hf.2
          exact .hit hv d1 d2 s1 s2 (hits_of rl rs h2)
        · cases e
      · cases e
    · cases e
theorem HitsV.same {K : Frag} {F H : Hp} (s : Same F H) {ls ks : List (Key × V)} {b : Bool} (h : HitsV K F ls ks b) : HitsV K H ls ks b := by
  induction h with
  | nil => exact .nil
  | hit h h1 h2 s1 s2 t ih => exact .hit h (h1.same s) (h2.same s) s1 s2 ih
theorem hits_run {pins : List (Addr × Obj)} {σ : L2.St} {H : Hp} {s : Shared} {A : Around} {ls : List (Key × V)} {vb : List (Key × Value)} (I : Inv X pins σ H s) (rb : KV ls vb) (hu : A.in1.units + 64 < cLine) :
    ∀ {ks : List (Key × V)} {va : List (Key × Value)} {b : Bool}, HitsV X.K H ls ks b → KV ks va → PySem.W.KeqHits A.in1 s vb va b := by
  intro ks va b h
  induction h generalizing va with
  | nil => intro r; cases r; exact .nil
  | @hit k v y p q r b hv h1 h2 s1 s2 t ih =>
    intro rk
    unfold KV at rk
    cases rk with
    | @cons _ z _ zs h0 ht =>
      obtain ⟨k', u⟩ := z
      obtain ⟨rfl, ru⟩ := h0
      have ry := rb.val k
      rw [hv] at ry
      cases hq : PySem.valueAt vb k with
      | none => rw [hq] at ry; exact ry.elim
      | some w =>
        rw [hq] at ry
        obtain ⟨as, r1⟩ := Dp.reads I p v u h1 ru
        obtain ⟨bs, r2⟩ := Dp.reads I q y w h2 ry
        exact .hit hq (PySem.W.keq_at r1 r2 s1 s2 hu) (ih ht)
def rEqDct (K : Frag) (f : Bool → Bool) : R2 := fun x y H Q => ∃ a b ks ls r, x = .ref a ∧ y = .ref b ∧ H a = some (.dK ks) ∧ H b = some (.dK ls) ∧ ks.length = ls.length ∧ HitsV K H ls ks r ∧ Q (.bl (f r)) H
theorem op_eqDct (hu : X.A.units + 66 < cLine) : OpR X (compareOp .Eq) (rEqDct X.K fun b => b) := by
  intro pins s σ H x y v u Q I rx ry hq
  obtain ⟨a, b, ks, ls, r, rfl, rfl, ea, eb, hlen, hh, q⟩ := hq
  obtain rfl : v = Value.ref a := rx
  obtain rfl : u = Value.ref b := ry
  obtain ⟨_, za, va, ra, da⟩ := (show ObjOk X.prog X.w H s.heap a (.dK ks) from I.hok a _ ea)
  obtain ⟨_, zb, vb, rb, db⟩ := (show ObjOk X.prog X.w H s.heap b (.dK ls) from I.hok b _ eb)
  have hl : va.length = vb.length := by rw [← ra.length, ← rb.length]; exact hlen
  refine PySem.W.keq_eq (knd := mixKind X.prog X.w) (r := r) za zb da db (by omega) (fun _ => hits_run I rb (by show X.A.units + 1 + 64 < cLine; omega) hh ra) ?_
  rw [hl, beq_self_eq_true, Bool.true_and]
  exact ⟨.bl r, H, I, rfl, q⟩
theorem op_neDct (hu : X.A.units + 66 < cLine) : OpR X (compareOp .NotEq) (rEqDct X.K fun b => !b) := by
  intro pins s σ H x y v u Q I rx ry hq
  obtain ⟨a, b, ks, ls, r, rfl, rfl, ea, eb, hlen, hh, q⟩ := hq
  obtain rfl : v = Value.ref a := rx
  obtain rfl : u = Value.ref b := ry
  obtain ⟨_, za, va, ra, da⟩ := (show ObjOk X.prog X.w H s.heap a (.dK ks) from I.hok a _ ea)
  obtain ⟨_, zb, vb, rb, db⟩ := (show ObjOk X.prog X.w H s.heap b (.dK ls) from I.hok b _ eb)
  have hl : va.length = vb.length := by rw [← ra.length, ← rb.length]; exact hlen
  refine PySem.W.keq_ne (knd := mixKind X.prog X.w) (r := r) za zb da db (by omega) (fun _ => hits_run I rb (by show X.A.units + 1 + 64 < cLine; omega) hh ra) ?_
  rw [hl, beq_self_eq_true, Bool.true_and]
  exact ⟨.bl (!r), H, I, rfl, q⟩
theorem eqDct_of {op : CmpOp} {w : Bool → Bool} (hK : X.K = g.K) (ho : OpR X (compareOp op) (rEqDct X.K w)) : OpD X g (compareOp op) (eqDct w) :=
  ⟨_, ho, fun H F k x y a b d Q s ra rb e q => by
    unfold eqDct at e
    split at e
    · rename_i xs ys
      split at e
      · rename_i hl
        obtain ⟨r, e1, rfl⟩ := Option.map_eq_some_iff.mp e
        cases ra with
        | dct ea r1 =>
          cases rb with
          | dct eb r2 =>
            rw [hK]
            exact ⟨_, _, _, _, r, rfl, rfl, s.sub _ _ ea, s.sub _ _ eb, by rw [r1.length, r2.length]; exact hl, (hits_of r2 r1 e1).same s.sub, q _ H F (.refl s) (.bl _)⟩
      · cases e
    · cases e⟩
def eqD2 : D → D → Option D := orD eqD (eqDct fun b => b)
def neD2 : D → D → Option D := orD neD (eqDct fun b => !b)
theorem opd_eq2 {k : Nat} (hK : X.K = g.K) (hr : Room k X.A) : OpD X g (compareOp .Eq) eqD2 := (opd_eq hK hr.units).or (eqDct_of hK (op_eqDct (by have := hr.un; omega)))
theorem opd_ne2 {k : Nat} (hK : X.K = g.K) (hr : Room k X.A) : OpD X g (compareOp .NotEq) neD2 := (opd_ne hK hr.units).or (eqDct_of hK (op_neDct (by have := hr.un; omega)))
end
end DL
set_option Elab.async false
set_option linter.all false
set_option maxRecDepth 100000
set_option maxHeartbeats 8000000
/-! sorted(set(..)) of numbers -/
namespace DL
open PySem PySem.Spec L2 PyProof.Rows
open PySem.W (Frag)
/-- the empty set as it is made -/
abbrev set0 (w : World) : Obj := { cls := .type "set", dict := none, data := .set #[] 0 (.fresh 0 0 (!w.params.followText "set-order")) }
section
variable {P : Program} {w : World} {A : Around} {E : Value → Shared → Prop} {s : Shared}
/-- set(xs), a list of numbers: as it is wanted by sorted -/
theorem set_of_list {l : Addr} {items : Array Value} (ns : List Int) {Q : Value → Shared → Prop} (hh : A.handled = none) (hl : s.heap.IsList l items) (hit : IntsAre items.toList ns) (hb : ns.length + 1 < scanBound)
    (hQ : ∀ (h1 : Heap) (tk c : Nat), SetR w h1 s.heap.objs.size (fun j => decide (j ∈ ns)) c → c ≤ ns.length → (∀ b u, s.heap.get? b = some u → h1.get? b = some u) → Q (.ref s.heap.objs.size) { s with heap := h1, toks := tk }) :
    wpAny (model P w) A (call (.type "set") [.ref l]) Q E s := by
  have size : items.size = ns.length := by rw [← IntsAre.length hit, Array.length_toList]
  obtain ⟨cc, tl, mro⟩ := F.called_set.mro
  have made := F.called_set.made
  have under := F.called_set.sub
  refine wpAny_call (codeAny_of_tree ?_)
  change wpAny _ _ (callAny (.type "set") _) _ _ _
  refine wpAny_pure ⟨Code.quiet_builtin _ (by decide +kernel), codeAny_builtin F.entry_type_call ?_⟩
  rw [Around.under_plain (weight_type_call_type "set" [.ref l] []) rfl]
  have k1 := F.called_set.notType
  have k2 := F.called_set.canCreate
  have k3 := F.typeCall_set_1 (.ref l)
  repeat (any_goals (first | assumption | wp_step))
  refine codeAny_mono (code_set_led1 (.ref l) (E := E) (Q₁ := fun u z => u = .ref s.heap.objs.size ∧ z = { s with heap := s.heap.push (set0 w) }) ⟨rfl, rfl⟩) fun r z hr => ?_
  rcases r with e | fl
  · exact hr
  · cases fl with
    | ret obj =>
      obtain ⟨rfl, rfl⟩ := hr
      have at0 : (s.heap.push (set0 w)).get? s.heap.objs.size = some (set0 w) := Heap.get?_push_size _ rfl
      have ty0 : Shared.TypeIs { s with heap := s.heap.push (set0 w) } (.ref s.heap.objs.size) "set" := ⟨_, at0, rfl⟩
      have lk0 := F.called_set.init.lookup
      have bd0 := F.called_set.init.bind (.ref s.heap.objs.size)
      repeat (any_goals (first | assumption | wp_step))
      refine codeAny_mono (codeAny_call_builtin (R := wants (fun r z => r = .none ∧ ∃ h1 tk c, z = { s with heap := h1, toks := tk } ∧ SetR w h1 s.heap.objs.size (fun j => decide (j ∈ ns)) c ∧ c ≤ ns.length ∧ (∀ b u, s.heap.get? b = some u → h1.get? b = some u)) E) F.called_set.init.plain F.entry_set_init (check_set_init_1 ty0 ?_)) fun r2 z2 hr2 => ?_
      · obtain ⟨ol, hol, hcl, nl, hdl⟩ := hl
        obtain ⟨ocl, od, oda, osl⟩ := ol
        simp only at hcl hdl
        subst hcl
        subst hdl
        have hol2 : (s.heap.push (set0 w)).get? l = some { cls := .type "list", dict := od, data := .seq items nl, slots := osl } := Heap.get?_push_of_some _ hol
        have sb1 := F.sub_list_set
        have sb2 := F.sub_list_frozenset
        have ne0 : (Value.type "list" == Value.type "dict") = false := by decide
        have lst2 : (s.heap.push (set0 w)).IsList l items := ⟨_, hol2, rfl, nl, rfl⟩
        unfold Builtin.«set.__init__» noKeywords Builtin.Frozenset.updateFrom
        generalize hI : pyIter = PI
        wp_walk
        subst hI
        refine wpAny_pyIter_list lst2 ?_
        refine wpAny_bind (wpAny_runValue ?_)
        have small : l < s.heap.objs.size := Heap.lt_size hol
        have hh3 : A.in1.in1.in1.handled = none := by simp [hh]
        have one : (s.heap.push (set0 w)).objs.size = s.heap.objs.size + 1 := Heap.size_push ..
        have neI : l ≠ (s.heap.push (set0 w)).objs.size := by rw [one]; exact Nat.ne_of_lt (Nat.lt_succ_of_lt small)
        have off : s.heap.objs.size ∉ [(s.heap.push (set0 w)).objs.size, l] := by
          rw [one]
          intro hm
          rcases List.mem_cons.mp hm with e | hm
          · exact Nat.ne_of_lt (Nat.lt_succ_self _) e
          · exact Nat.ne_of_gt small (List.mem_singleton.mp hm)
        have vals : ∀ (i : Nat) (v : Value), items[i]? = some v → ∃ k t, ns[i]? = some k ∧ v = .int k t := fun i v hv => by
          have hi : i < ns.length := by rw [← size]; exact (Array.getElem?_eq_some_iff.mp hv).1
          obtain ⟨t, e⟩ := IntsAre.int_at hit i v (by rw [Array.getElem?_toList]; exact hv)
          refine ⟨ns[i], t, List.getElem?_eq_getElem hi, ?_⟩
          rw [e, List.getD_eq_getElem?_getD, List.getElem?_eq_getElem hi] <;> rfl
        refine set_update_ints ((Walks.list hh3 _ l neI items).toS) s.heap.objs.size off ns size hb vals (items.size - 0) 0 _ (by omega) (Nat.zero_le _) ⟨⟨_, Heap.get?_push_size _ rfl, rfl, rfl⟩, (lst2.push _)⟩ ?c1 ?c2
        case c1 => exact ⟨0, Nat.le_refl 0, setR_new_at (Heap.get?_push_of_some _ at0)⟩
        case c2 =>
          intro z c hm hc hS
          obtain ⟨h1, g1, d1, t1, o1⟩ := z
          have eg : g1 = s.gens := hm.gens
          have ed : d1 = s.drawn := hm.drawn
          have eo : o1 = s.os := hm.os
          subst eg ed eo
          refine wpAny_pure ?_
          change wpAny _ _ (ret Value.none) _ _ _
          rw [size] at hc
          refine wpAny_pure ⟨rfl, h1, t1, c, rfl, hS, hc, fun b u e => ?_⟩
          have b0 : b < s.heap.objs.size := Heap.lt_size e
          refine hm.heap b u (fun hb => ?_) (Heap.get?_push_of_some _ (Heap.get?_push_of_some _ e))
          rcases List.mem_cons.mp hb with e1 | hb
          · exact Nat.ne_of_lt b0 e1
          · have e2 := List.mem_singleton.mp hb
            rw [one] at e2
            exact Nat.ne_of_lt (Nat.lt_succ_of_lt b0) e2
      · rcases r2 with e | fl2
        · exact hr2
        · cases fl2 with
          | ret r =>
            obtain ⟨rfl, h1, tk, c, rfl, hS, hc, hk⟩ := hr2
            repeat (any_goals (first | assumption | wp_step))
            exact hQ _ _ _ hS hc hk
          | _ => exact hr2.elim
    | _ => exact hr.elim
end
/-- numbers ascending, each once -/
def insU (n : Int) : List Int → List Int
  | [] => [n]
  | m :: ms => if n < m then n :: m :: ms else if n = m then m :: ms else m :: insU n ms
def sortU : List Int → List Int
  | [] => []
  | n :: ns => insU n (sortU ns)
theorem mem_insU {n k : Int} : ∀ ms : List Int, k ∈ insU n ms ↔ k = n ∨ k ∈ ms
  | [] => by simp [insU]
  | m :: ms => by
    unfold insU
    split
    · simp
    · split
      · rename_i h; subst h; simp
      · rw [List.mem_cons, mem_insU ms, List.mem_cons]
        constructor
        · rintro (h | h | h)
          · exact .inr (.inl h)
          · exact .inl h
          · exact .inr (.inr h)
        · rintro (h | h | h)
          · exact .inr (.inl h)
          · exact .inl h
          · exact .inr (.inr h)
theorem asc_insU {n : Int} : ∀ {ms : List Int}, ms.Pairwise (· < ·) → (insU n ms).Pairwise (· < ·)
  | [], _ => by simp [insU]
  | m :: ms, h => by
    have h' := List.pairwise_cons.mp h
    unfold insU
    split
    · rename_i hlt
      refine List.pairwise_cons.mpr ⟨fun x hx => ?_, h⟩
      rcases List.mem_cons.mp hx with rfl | hx
      · exact hlt
      · exact Int.lt_trans hlt (h'.1 x hx)
    · split
      · exact h
      · rename_i h1 h2
        refine List.pairwise_cons.mpr ⟨fun x hx => ?_, asc_insU h'.2⟩
        rcases (mem_insU ms).mp hx with rfl | hx
        · omega
        · exact h'.1 x hx
theorem mem_sortU {k : Int} : ∀ ns : List Int, k ∈ sortU ns ↔ k ∈ ns
  | [] => Iff.rfl
  | n :: ns => by
    unfold sortU
    rw [mem_insU, mem_sortU ns, List.mem_cons]
theorem asc_sortU : ∀ ns : List Int, (sortU ns).Pairwise (· < ·)
  | [] => .nil
  | _ :: ns => asc_insU (asc_sortU ns)
/-- ascending lists of the same numbers are one -/
theorem asc_one : ∀ {xs ys : List Int}, xs.Pairwise (· < ·) → ys.Pairwise (· < ·) → (∀ k, k ∈ xs ↔ k ∈ ys) → xs = ys
  | [], [], _, _, _ => rfl
  | [], y :: ys, _, _, h => absurd ((h y).mpr List.mem_cons_self) (fun z => nomatch z)
  | x :: xs, [], _, _, h => absurd ((h x).mp List.mem_cons_self) (fun z => nomatch z)
  | x :: xs, y :: ys, hx, hy, h => by
    have hx' := List.pairwise_cons.mp hx
    have hy' := List.pairwise_cons.mp hy
    have e : x = y := by
      rcases List.mem_cons.mp ((h x).mp List.mem_cons_self) with e | e
      · exact e
      · rcases List.mem_cons.mp ((h y).mpr List.mem_cons_self) with e2 | e2
        · exact e2.symm
        · have := hy'.1 x e
          have := hx'.1 y e2
          omega
    subst e
    refine congrArg (x :: ·) (asc_one hx'.2 hy'.2 fun k => ?_)
    constructor
    · intro hk
      rcases List.mem_cons.mp ((h k).mp (List.mem_cons_of_mem _ hk)) with e | e
      · subst e; have := hx'.1 k hk; omega
      · exact e
    · intro hk
      rcases List.mem_cons.mp ((h k).mpr (List.mem_cons_of_mem _ hk)) with e | e
      · subst e; have := hy'.1 k hk; omega
      · exact e
section
variable {X : Cx} {g : G} {xc : XC} {W : WX} {a e : Expr} {f : Sm D} {pos : Pos}
def tSortSet (K : Frag) (ta : TE) : TE := fun σ H Q => ta σ H fun x H1 => ∃ (l : Addr) (ns : List Int), x = .ref l ∧ (SqL K H1 l (ns.map V.int) ∨ SqT K H1 l (ns.map V.int)) ∧ ns.length < 64 ∧ ∀ p, H1 p = none → Q (.ref p) (upd H1 p (.lst ((sortU ns).map V.int)))
theorem pe_sortSet {ta : TE} {p p2 q : Pos} (hc : X.calm = true) (hg : Gl X "sorted") (hm : X.mg "sorted" = none) (hg2 : Gl X "set") (hm2 : X.mg "set" = none) (hv : bootBuiltins "sorted" = some (.builtin "sorted")) (ha : PE X a ta)
    (na : starEach [a] X.env = (false, eval a X.env) :: starEach [] X.env := by rfl) : PE X (.Call (.Name "sorted" p) [.Call (.Name "set" p2) [a] [] q] [] pos) (tSortSet X.K ta) := by
  refine ⟨fun pins s σ H Q I hq => ?_⟩
  refine Call_ (ld_blt I hg hm hv ?_)
  refine callWith_builtin1 (args_cons ?_ rfl) rfl rfl
  refine Call_ (ld_blt I hg2 hm2 boot_set ?_)
  refine callWith_type1 (args_cons (thn (ha.run pins s σ H _ I hq) fun v s1 ⟨x, H1, I1, r1, q1⟩ => args_nil ?_) na) na rfl
  obtain ⟨l, ns, rfl, hsq, h64, q1⟩ := q1
  cases r1
  have sc : scanBound > 64 := by decide
  have fin : ∀ (h1 : Heap) (tk c : Nat), SetR X.w h1 s1.heap.objs.size (fun j => decide (j ∈ ns)) c → c ≤ ns.length → (∀ b u, s1.heap.get? b = some u → h1.get? b = some u) →
      wpAny (model X.prog X.w) X.A (spliced (backTo pos (starEach [] X.env))) (fun vs s₂ => wpAny (model X.prog X.w) X.A (call (.builtin "sorted") (Value.ref s1.heap.objs.size :: vs)) (EP X pins σ Q) X.xe s₂) X.xe { s1 with heap := h1, toks := tk } := fun h1 tk c hS hc2 hk => by
    refine args_nil ?_
    have I2 : Inv X pins σ H1 { s1 with heap := h1, toks := tk } := I1.kept hk
    refine sorted_set hS (I2.ok.hd hc) (by omega) fun s' p out cc ms k gg o hp hgt hi hs hmm hl => ?_
    have em : ms = sortU ns := asc_one hs (asc_sortU ns) fun j => by rw [hmm j, mem_sortU]; simp
    subst em
    have hlen : ((sortU ns).map V.int).length ≤ sizeLine := by rw [List.length_map, hl, sizeLine_eq]; omega
    have hn : H1 p = none := I2.hok.fresh hp
    have J : Inv X pins σ (upd H1 p (.lst ((sortU ns).map V.int))) { ({ s1 with heap := h1, toks := tk } : Shared) with heap := s'.heap, gens := s'.gens, drawn := s'.drawn, toks := s'.toks } :=
      I2.call (ch := []) (Un.laid k hp hn) (I2.hok.laid k hp ⟨hlen, out.toList, cc, vals_of_ints hi, hgt⟩) (by rw [gg]; exact I2.bare) (fun _ z => nomatch z)
    have e : s' = { ({ s1 with heap := h1, toks := tk } : Shared) with heap := s'.heap, gens := s'.gens, drawn := s'.drawn, toks := s'.toks } := by
      cases s'
      cases o
      rfl
    rw [e]
    exact ⟨.ref p, _, J, rfl, q1 p hn⟩
  rcases hsq with hq2 | hq2
  · obtain ⟨its, r, pl, hz⟩ := I1.list hq2
    exact set_of_list ns (I1.ok.hd hc) pl.isList (by simpa using RZ.intsAre_vals r) (by omega) fun h1 tk c => fin h1 tk c
  · obtain ⟨its, r, pl, hz⟩ := I1.tuple hq2
    exact call_set_tupI ns (I1.ok.hd hc) pl (by simpa using RZ.intsAre_vals r) (by omega) fun h1 tk c => fin h1 tk c
def sortSetD (d : D) : Option D := match (seqOf d).bind intsOf with
  | some ns => if ns.length < 64 then some (.lst ((sortU ns).map .int)) else none
  | none => none
def sSortSet (f : Sm D) : Sm D := fun env k => (f env k).bind fun d k1 => .of (sortSetD d) k1
theorem rep_intL {F : Hp} : ∀ ns : List Int, RepAll g F (ns.map V.int) (ns.map D.int)
  | [] => .nil
  | n :: ns => .cons (.int n) (rep_intL ns)
theorem pd_sortSet {p p2 q : Pos} (hK : X.K = g.K) (hc : X.calm = true) (hg : Gl X "sorted") (hm : X.mg "sorted" = none) (hg2 : Gl X "set") (hm2 : X.mg "set" = none) (ha : PD X g xc W a f) (hv : bootBuiltins "sorted" = some (.builtin "sorted") := by decide +kernel)
    (na : starEach [a] X.env = (false, eval a X.env) :: starEach [] X.env := by rfl) : PD X g xc W (.Call (.Name "sorted" p) [.Call (.Name "set" p2) [a] [] q] [] pos) (sSortSet f) := by
  refine PE.imp (pe_sortSet hc hg hm hg2 hm2 hv ha na) fun σ H Q ⟨F, k, env, s, ok, q⟩ => ?_
  show tD g xc W f σ H _
  refine tD_thenS (R := fun d k1 => .of (sortSetD d) k1) s ok q fun v d H1 F1 k1 s1 ok1 r q1 => ?_
  unfold sortSetD at q1
  split at q1
  · rename_i ns e1
    split at q1
    · rename_i h64
      obtain ⟨es, e2, e3⟩ := Option.bind_eq_some_iff.mp e1
      obtain ⟨y, vs, rfl, hs, r1⟩ := seq_rep r e2
      rw [rep_ints r1 e3] at hs
      refine ⟨y, ns, rfl, by rw [hK]; exact hs.imp s1.st.sub.seq s1.st.sub.seqT, h64, fun pp np => ?_⟩
      have st := Stp.laid (o := .lst ((sortU ns).map V.int)) s1.st np
      exact q1 _ _ st _ (.lst upd_same (rep_intL _))
    · exact q1.elim
  · exact q1.elim
end
end DL
set_option Elab.async false
set_option linter.all false
set_option maxRecDepth 100000
set_option maxHeartbeats 4000000
/-! a comprehension within one -/
namespace DL
open PySem PySem.Spec L2
open PySem.W (Frag)
theorem relabel_look {env : Env} {x : Str} : ∀ {names : List (Str × NameKind)}, (names.lookup x = some .cell ∨ names.lookup x = some .free) →
    ((names.map fun (n, k) => if (k == NameKind.free && env.scope.kind == .function && env.kindOf n == some .cell) then (n, NameKind.cell) else (n, k)).lookup x = some .cell ∨
     (names.map fun (n, k) => if (k == NameKind.free && env.scope.kind == .function && env.kindOf n == some .cell) then (n, NameKind.cell) else (n, k)).lookup x = some .free)
  | [], h => by rcases h with h | h <;> cases h
  | (n, k) :: r, h => by
    rw [List.map_cons]
    dsimp only
    rw [List.lookup_cons] at h
    by_cases hc : (k == NameKind.free && env.scope.kind == .function && env.kindOf n == some .cell) = true
    · rw [if_pos hc, List.lookup_cons]
      cases hx : x == n with
      | true => exact .inl rfl
      | false => rw [hx] at h; exact relabel_look h
    · rw [if_neg hc, List.lookup_cons]
      cases hx : x == n with
      | true => rw [hx] at h; exact h
      | false => rw [hx] at h; exact relabel_look h
theorem blkOk_in {N : List Str} {sc scope : Scope} {own : List (Str × Nat)} {env : Env} (h : blkC N sc scope own = true) : BlkOk N (relabel sc env) scope own := by
  have b := blkOk_by h
  exact ⟨b.kind, b.uniq, b.ix, fun y hy e => relabel_look (b.free y hy e), b.own⟩
/-! ### xs == [], xs != [], whatever stands in xs -/
def nilL (f : Bool → Bool) : D → D → Option D
  | .lst xs, .lst [] => some (.bl (f xs.isEmpty))
  | _, _ => none
def eqN : D → D → Option D := nilL fun b => b
def neN : D → D → Option D := nilL fun b => !b
def rNilL (K : Frag) (f : Bool → Bool) : R2 := fun x y H Q => ∃ a b xs, x = .ref a ∧ y = .ref b ∧ SqL K H a xs ∧ SqL K H b [] ∧ Q (.bl (f xs.isEmpty)) H
section
variable {X : Cx} {g : G}
theorem nil_all {its : Array Value} (h : its.size = (#[] : Array Value).size) : (List.range its.size).all (fun _ => true) = true := by rw [h]; rfl
theorem op_eqNilL (hu : X.A.units + 64 < cLine) : OpR X (compareOp .Eq) (rNilL X.K fun b => b) := by
  intro pins s σ H x y v u Q I rx ry hq
  obtain ⟨a, b, xs, rfl, rfl, ha, hb, q⟩ := hq
  cases rx
  cases ry
  obtain ⟨its, r, t1, _⟩ := I.list ha
  obtain ⟨its2, r2, t2, _⟩ := I.list hb
  cases r2
  have e := r.length
  cases xs with
  | nil =>
    cases r
    refine SeqAt.eq_listAt (e := fun _ => true) t1.isList t2.isList rfl (by omega) (fun j h1 _ => absurd h1 (Nat.not_lt_zero j)) ?_
    exact ⟨.bl true, H, I, rfl, q⟩
  | cons z zs =>
    refine SeqAt.eq_list_lengthsAt t1.isList t2.isList (by rw [List.size_toArray, ← e]; rfl) (by omega) ?_
    exact ⟨.bl false, H, I, rfl, q⟩
theorem op_neNilL (hu : X.A.units + 64 < cLine) : OpR X (compareOp .NotEq) (rNilL X.K fun b => !b) := by
  intro pins s σ H x y v u Q I rx ry hq
  obtain ⟨a, b, xs, rfl, rfl, ha, hb, q⟩ := hq
  cases rx
  cases ry
  obtain ⟨its, r, t1, _⟩ := I.list ha
  obtain ⟨its2, r2, t2, _⟩ := I.list hb
  cases r2
  have e := r.length
  cases xs with
  | nil =>
    cases r
    exact SeqAt.RcNeAt.lists (e := fun _ => true) t1.isList t2.isList rfl (by omega) (fun j h1 _ => absurd h1 (Nat.not_lt_zero j)) _ _ _ _ ⟨.bl false, H, I, rfl, q⟩
  | cons z zs =>
    exact SeqAt.RcNeAt.lists_lengths t1.isList t2.isList (by rw [List.size_toArray, ← e]; rfl) (by omega) _ _ _ _ ⟨.bl true, H, I, rfl, q⟩
theorem nilL_of {op : CmpOp} {f : Bool → Bool} (hK : X.K = g.K) (ho : OpR X (compareOp op) (rNilL X.K f)) : OpD X g (compareOp op) (nilL f) :=
  ⟨_, ho, fun H F k x y a b d Q s ra rb e q => by
    unfold nilL at e
    split at e
    · cases e
      rename_i xs
      obtain ⟨a, vs, rfl, h1, r1⟩ := repLst ra
      obtain ⟨b, ws, rfl, h2, r2⟩ := repLst rb
      cases r2
      rw [hK]
      refine ⟨a, b, vs, rfl, rfl, SqL.of (s.sub _ _ h1), SqL.of (s.sub _ _ h2), ?_⟩
      have e : vs.isEmpty = xs.isEmpty := by cases r1 <;> rfl
      rw [e]
      exact q _ H F (.refl s) (.bl _)
    · cases e⟩
theorem opd_eqN (hK : X.K = g.K) (hu : X.A.units + 64 < cLine) : OpD X g (compareOp .Eq) eqN := nilL_of hK (op_eqNilL hu)
theorem opd_neN (hK : X.K = g.K) (hu : X.A.units + 64 < cLine) : OpD X g (compareOp .NotEq) neN := nilL_of hK (op_neNilL hu)
theorem eq_nilL {xs : List D} : eqN (.lst xs) (.lst []) = some (.bl xs.isEmpty) := rfl
theorem ne_nilL {xs : List D} : neN (.lst xs) (.lst []) = some (.bl (!xs.isEmpty)) := rfl
end
end DL
set_option Elab.async false
set_option linter.all false
set_option maxRecDepth 100000
set_option maxHeartbeats 4000000
/-! what laws of any value have in common -/
namespace DL
open PySem PySem.Spec L2
open PySem.W (Frag)
abbrev cp (x : Str) : List Nat := x.cps.toList
def memS (c : Nat) (x : Str) : Bool := decide (c ∈ x.cps.toList)
def isOver (d : D) (sg : Str) : Bool := match d with
  | .str z => (cp z).all fun c => memS c sg
  | _ => false
theorem in_sign {c : Nat} {x : Str} : inD (.str ⟨#[c]⟩) (.str x) = some (.bl (memS c x)) := by
  unfold inD orD inSign; rfl
theorem notIn_sign {c : Nat} {x : Str} : notInD (.str ⟨#[c]⟩) (.str x) = some (.bl (!memS c x)) := by
  unfold notInD orD inSign; rfl
/-- a row: a text within bounds -/
def okS (d : D) : Prop := plain d = true ∧ ∀ z, d = .str z → SOk z
theorem eq_nilT {xs : List D} : eqD (.tup xs) (.tup []) = some (.bl xs.isEmpty) := by
  unfold eqD orD nilT; rfl
def lenOf : D → Nat
  | .str z => z.length
  | _ => 0
def fstLen (ds : List D) : Nat := lenOf (ds.headD .non)
theorem over_str {d : D} {sg : Str} (h : isOver d sg = true) : ∃ z, d = .str z := by
  cases d <;> first | exact ⟨_, rfl⟩ | cases h
theorem str_empty {z : Str} : (z == ("" : Str)) = (z.length == 0) := by
  rw [Bool.eq_iff_iff]
  simp only [beq_iff_eq]
  constructor
  · rintro rfl; rfl
  · intro h
    obtain ⟨c⟩ := z
    have : c = #[] := Array.eq_empty_of_size_eq_zero h
    subst this; rfl
def enumI (i : Nat) (ds : List D) : List D := (ds.zipIdx i).map fun p => .tup [.int (0 + (p.2 : Nat)), p.1]
theorem enumI_nil {i : Nat} : enumI i [] = [] := rfl
theorem enumI_cons {i : Nat} {d : D} {ds : List D} : enumI i (d :: ds) = .tup [.int (i : Nat), d] :: enumI (i + 1) ds := by
  unfold enumI
  rw [List.zipIdx_cons, List.map_cons, Int.zero_add]
theorem enumD_I {ds : List D} : enumD 0 ds = enumI 0 ds := rfl
def unD (o : Option Nat) : D := match o with
  | some i => .int (i : Nat)
  | none => .non
theorem unD_non {o : Option Nat} : (unD o).isNon = o.isNone := by cases o <;> rfl
def tupL : D → List D
  | .tup ds => ds
  | _ => []
def strsD (xs : List Str) : List D := xs.map .str
theorem strsOf_map (xs : List Str) : strsOf (strsD xs) = some xs := by
  induction xs with
  | nil => rfl
  | cons x xs ih => show (strsOf (strsD xs)).map (x :: ·) = _; rw [ih]; rfl
theorem joinD_tup {a : Str} {xs : List Str} (h : (xs.map (·.length)).sum + xs.length * a.length ≤ 16777216) : joinD a [.tup (strsD xs)] = some (.str (Txt.join a xs)) := by
  unfold joinD
  simp [seqOf, strsOf_map, h]
theorem joinD_lst {a : Str} {xs : List Str} (h : (xs.map (·.length)).sum + xs.length * a.length ≤ 16777216) : joinD a [.lst (strsD xs)] = some (.str (Txt.join a xs)) := by
  unfold joinD
  simp [seqOf, strsOf_map, h]
theorem gd_okS {n h m : Nat} {d : D} (a : Gd n h m d) (hn : n ≤ 10000000) : okS d := by
  refine ⟨a.plain, fun z e => ?_⟩
  subst e
  obtain ⟨h1, h2⟩ := a.asc
  exact ⟨by have := sizeLine_eq; omega, strOk_all.mpr fun c hc => Nat.lt_trans (h1 c hc) (by decide)⟩
theorem split_ne (x y : Str) : 0 < (Txt.split x y).length := by
  unfold Txt.split
  split
  · exact Nat.zero_lt_one
  · split
    · exact Nat.zero_lt_one
    · rw [length_partsBetween]; exact Nat.succ_pos _
theorem py_strs {l : List Nat} : D.pyAll (l.map fun c => D.str ⟨#[c]⟩) = some (l.map fun c => PyData.str ⟨#[c]⟩) := by
  induction l with
  | nil => rfl
  | cons c l ih => rw [List.map_cons]; simp only [D.pyAll, D.py, ih]; rfl
theorem flat_strs {α : Type} {f : α → Str} (l : List α) : PyData.hasDictAll (l.map fun c => PyData.str (f c)) = false ∧ PyData.depthAll (l.map fun c => PyData.str (f c)) = 0 := by
  induction l with
  | nil => exact ⟨rfl, rfl⟩
  | cons c l ih => simp only [List.map_cons, PyData.hasDictAll, PyData.depthAll, PyData.hasDict, PyData.depth]; simp [ih.1, ih.2]
theorem eqv_nil {ps : List PyData} : PyData.eqv (.list ps) (.list []) = ps.isEmpty := by cases ps <;> rfl
theorem eq_lst {ds : List D} {ps : List PyData} (h : D.pyAll ds = some ps) (h1 : PyData.hasDictAll ps = false) (h2 : PyData.depthAll ps ≤ 60) : eqD (.lst ds) (.lst []) = some (.bl ps.isEmpty) ∧ neD (.lst ds) (.lst []) = some (.bl (!ps.isEmpty)) := by
  have hf : flatPy (.list ps) = true := by
    unfold flatPy
    rw [Bool.and_eq_true]
    exact ⟨by simp [PyData.hasDict, h1], decide_eq_true (by simp only [PyData.depth]; omega)⟩
  have hn : flatPy (.list []) = true := by decide
  unfold eqD neD orD nilT eqvD
  simp [D.py, D.pyAll, h, hf, hn, eqv_nil]
theorem int_beq (a b : Nat) : ((a : Int) == (b : Int)) = (a == b) := by rw [Bool.eq_iff_iff]; simp only [beq_iff_eq]; exact Int.ofNat_inj
theorem zip_first {α : Type} {q : α → Bool} : ∀ (l : List α) (i : Nat), (((l.zipIdx i).filter fun p => q p.1).map fun p => p.2) = [] ∧ l.findIdx? q = none ∨ ∃ j rest, (((l.zipIdx i).filter fun p => q p.1).map fun p => p.2) = (i + j) :: rest ∧ l.findIdx? q = some j
  | [], i => .inl ⟨rfl, rfl⟩
  | a :: l, i => by
    rw [List.zipIdx_cons, List.findIdx?_cons]
    by_cases h : q a = true
    · refine .inr ⟨0, ((l.zipIdx (i + 1)).filter fun p => q p.1).map (fun p => p.2), ?_, by rw [if_pos h]⟩
      rw [List.filter_cons_of_pos (by simpa using h)]; rfl
    · rw [List.filter_cons_of_neg (by simpa using h), if_neg h]
      rcases zip_first (q := q) l (i + 1) with ⟨e1, e2⟩ | ⟨j, rest, e1, e2⟩
      · exact .inl ⟨e1, by rw [e2]; rfl⟩
      · exact .inr ⟨j + 1, rest, by rw [e1]; congr 1; omega, by rw [e2]; rfl⟩
theorem py_ints {α : Type} {f : α → Int} (l : List α) : D.pyAll (l.map fun c => D.int (f c)) = some (l.map fun c => PyData.int (f c)) := by
  induction l with
  | nil => rfl
  | cons c l ih => rw [List.map_cons]; simp only [D.pyAll, D.py, ih]; rfl
theorem flat_ints {α : Type} {f : α → Int} (l : List α) : PyData.hasDictAll (l.map fun c => PyData.int (f c)) = false ∧ PyData.depthAll (l.map fun c => PyData.int (f c)) = 0 := by
  induction l with
  | nil => exact ⟨rfl, rfl⟩
  | cons c l ih => simp only [List.map_cons, PyData.hasDictAll, PyData.depthAll, PyData.hasDict, PyData.depth]; simp [ih.1, ih.2]
/-- the first item that is otherwise, as the law finds it -/
theorem firsts {env0 : List En} {i : Nat} {p : Sm Bool} {t : Tgt} {ds : List D} {k : DkO} {q : D → Bool} (hl : ds.length ≤ sizeLine)
    (h : ∀ (m : Nat) (d : D), d ∈ ds → ∃ env1, t.set (.tup [.int (m : Nat), d]) env0 = some env1 ∧ ∀ k, p env1 k = .ok (q d) k ∧ sV i env1 k = .ok (.int (m : Nat)) k) :
    ∃ ns : List Nat, compM t p (sV i) env0 (enumD 0 ds) [] k = .ok (ns.map fun n => .int (n : Nat)) k ∧ ns.head? = ds.findIdx? q := by
  have e0 : enumD 0 ds = ds.zipIdx.map fun p => .tup [.int (p.2 : Nat), p.1] := by unfold enumD; simp
  have e : compM t p (sV i) env0 (enumD 0 ds) [] k = .ok ([] ++ ((ds.zipIdx.filter fun p => q p.1).map fun p => D.int (p.2 : Nat))) k := by
    rw [e0]
    refine compM_map (mk := fun p : D × Nat => .tup [.int (p.2 : Nat), p.1]) (pp := fun p => q p.1) (ff := fun p => .int (p.2 : Nat)) ds.zipIdx [] (by simpa using hl) (fun b hb => ?_) k
    obtain ⟨env1, h1, h2⟩ := h b.2 b.1 (List.fst_mem_of_mem_zipIdx hb)
    exact ⟨env1, h1, fun k => ⟨(h2 k).1, fun _ => (h2 k).2⟩⟩
  refine ⟨(ds.zipIdx.filter fun p => q p.1).map fun p => p.2, ?_, ?_⟩
  · rw [e, List.nil_append, List.map_map]; rfl
  · rcases zip_first (q := q) ds 0 with ⟨e1, e2⟩ | ⟨j, rest, e1, e2⟩
    · rw [e1, e2]; rfl
    · rw [e1, e2]; simp
theorem ne_firsts {ns : List Nat} : neD (.lst (ns.map fun n => .int (n : Nat))) (.lst []) = some (.bl (!ns.isEmpty)) := by
  obtain ⟨f1, f2⟩ := flat_ints (f := fun n : Nat => ((n : Nat) : Int)) ns
  rw [(eq_lst (py_ints (f := fun n : Nat => ((n : Nat) : Int)) ns) f1 (by rw [f2]; decide)).2, List.isEmpty_map]
theorem ne_nn : neD (.lst []) (.lst []) = some (.bl false) := ne_firsts (ns := [])
theorem int_ok {n : Nat} (h : n ≤ 10000000) : okD (.int (n : Nat)) = true := by
  refine decide_eq_true (log_small ?_)
  show Int.natAbs (n : Int) ≤ 10 ^ 60
  rw [Int.natAbs_natCast]
  exact Nat.le_trans h (by decide)
theorem okD_list {ds : List D} (h : ∀ d ∈ ds, okD d = true) : okD (.lst ds) = true := okAll_of h
theorem filter_yes {α : Type} {l : List α} : (l.filter fun _ => true) = l := List.filter_eq_self.mpr fun _ _ => rfl
theorem atI_getD {α : Type} {xs : List α} {i : Nat} {a : α} (h : i < xs.length) : atI xs (i : Int) = some (xs.getD i a) := by
  refine L2.atI_nat ?_
  rw [List.getD_eq_getElem?_getD, List.getElem?_eq_getElem h]; rfl
theorem getD_mem {α : Type} {xs : List α} {i : Nat} {a : α} (h : i < xs.length) : xs.getD i a ∈ xs := by
  rw [List.getD_eq_getElem?_getD, List.getElem?_eq_getElem h]; exact List.getElem_mem h
abbrev draws (FD : Fn) (b : Int) : Sm D := sCall 2 FD (lCons (sV 0) (lCons (sC (.int b)) lNil))
theorem draw_is {FD : Fn} (hD : DrawOk FD) {env : List En} {b : Int} {k : Dk} {n : Nat} (h0 : env[0]? = some (.d .dk)) (hb : bOk b = true) (hk : Bud k (n + 1)) : ∃ (z : Bool) (k' : Dk), sOp eqD (draws FD b) (sC (.int 0)) env (some k) = .ok (.bl z) (some k') ∧ Bud k' n := by
  obtain ⟨r, k', e, _, hb'⟩ := draw_of hD h0 hb hk
  exact ⟨_, k', op_run e rfl eq_int, hb'⟩
theorem pow_39 : powD (.int 10) (.int 39) = some (.int (10 ^ 39)) := by
  unfold powD intOp; rfl
def oddA : List D := [.non, .bl true, .bl false, .int 0, .int 1, .int (-1), .int 2, .int 99, .int 100, .int (10 ^ 39), .str "", .str "x", .str "-", .str "ab", .str "x-", .str "A", .tup [], .tup [.int 0], .tup [.int 1, .int 0], .tup [.int 0, .int 0]]
def oddB : List D := [.lst [], .dct [], .tup [.tup []], .tup [.bl true], .tup [.str "a"], .tup [.int 0, .int 1], .tup [.tup [.int 0], .tup [.int 1]]]
def okC (d : D) : Bool := gdD d && decide (wt d ≤ 4200) && decide (ht d ≤ 2) && decide (mg d ≤ 10 ^ 39)
theorem oddA_ok : oddA.all okC = true := by decide +kernel
theorem oddB_ok : oddB.all okC = true := by decide +kernel
theorem okC_gd {d : D} {n h m : Nat} (h0 : okC d = true) (hn : 4200 ≤ n) (hh : 2 ≤ h) (hm : 10 ^ 39 ≤ m) : Gd n h m d := by
  unfold okC at h0
  simp only [Bool.and_eq_true, decide_eq_true_eq] at h0
  exact ⟨h0.1.1.1, Nat.le_trans h0.1.1.2 hn, Nat.le_trans h0.1.2 hh, Nat.le_trans h0.2 hm⟩
theorem upper_asc : ∀ (l : List Nat), (∀ c ∈ l, c < 128) → (Txt.upper ⟨l.toArray⟩).length = l.length ∧ ∀ c ∈ cp (Txt.upper ⟨l.toArray⟩), c < 128
  | [], _ => by decide +kernel
  | c :: l, h => by
    obtain ⟨h1, h2⟩ := upper_asc l fun d hd => h d (List.mem_cons_of_mem _ hd)
    have e : (⟨(c :: l).toArray⟩ : Str) = ⟨#[c]⟩ ++ ⟨l.toArray⟩ := by
      show _ = (⟨#[c] ++ l.toArray⟩ : Str)
      simp
    have hc := h c List.mem_cons_self
    rw [e, PySem.W.KOpn.upper_app, PySem.W.KOpn.upper_one hc]
    generalize Txt.upper ⟨l.toArray⟩ = z at h1 h2
    obtain ⟨z⟩ := z
    have e2 : (⟨#[if 97 ≤ c ∧ c ≤ 122 then c - 32 else c]⟩ : Str) ++ (⟨z⟩ : Str) = ⟨#[if 97 ≤ c ∧ c ≤ 122 then c - 32 else c] ++ z⟩ := rfl
    rw [e2]
    constructor
    · show (#[if 97 ≤ c ∧ c ≤ 122 then c - 32 else c] ++ z).size = _
      have : z.size = l.length := h1
      rw [Array.size_append, this, List.length_cons]
      show 1 + _ = _
      omega
    · intro d hd
      have hd' : d ∈ (if 97 ≤ c ∧ c ≤ 122 then c - 32 else c) :: z.toList := by simpa using hd
      rcases List.mem_cons.mp hd' with rfl | hd'
      · split <;> omega
      · exact h2 d hd'
theorem upper_of {x : Str} (h : ∀ c ∈ cp x, c < 128) : (Txt.upper x).length = x.length ∧ ∀ c ∈ cp (Txt.upper x), c < 128 := by
  have e : (⟨x.cps.toList.toArray⟩ : Str) = x := by simp
  have := upper_asc x.cps.toList h
  rw [e] at this
  exact ⟨by rw [this.1, len_list], this.2⟩
theorem asc_all {x : Str} (h : ∀ c ∈ cp x, c < 128) : x.cps.toList.all (fun c => decide (c < 128)) = true := List.all_eq_true.mpr fun c hc => decide_eq_true (h c hc)
theorem strInt_asc {i : Int} : ∀ c ∈ cp ((toString i : String) : Str), c < 128 := fun c hc => by
  by_cases z : c < 128
  · exact z
  · exact absurd hc (PyProof.Rows.int_text_free' c ⟨by omega, by omega⟩ i)
theorem strInt_len {i : Int} (h : i.natAbs ≤ 10 ^ 60) : ((toString i : String) : Str).length ≤ 62 := by
  have := int_text_length_le10 (a := i) (k := 61) (by decide) (Nat.lt_of_le_of_lt h (by decide +kernel))
  rw [← ofString_length] at this
  exact this
abbrev envO (it : D) (ds : List D) : List En := [.d .dk, .d it, .d (.lst ds)]
theorem plus_lst {xs ys : List D} (h : xs.length + ys.length ≤ 1000) : plusD (.lst xs) (.lst ys) = some (.lst (xs ++ ys)) := by
  unfold plusD orD catD
  simp only
  rw [if_pos (Nat.le_of_lt (small1000 h))]
theorem plus_tup {xs ys : List D} (h : xs.length + ys.length ≤ 1000000) : plusD (.tup xs) (.tup ys) = some (.tup (xs ++ ys)) := by
  unfold plusD orD catD
  simp only
  have := sizeLine_eq
  rw [if_pos (show xs.length + ys.length ≤ sizeLine by omega)]
theorem plus_str {x y : Str} (h : x.length + y.length ≤ 1000000) : plusD (.str x) (.str y) = some (.str (x ++ y)) := by
  unfold plusD orD catD
  simp only
  have := sizeLine_eq
  rw [if_pos (show x.length + y.length ≤ sizeLine by omega)]
theorem small63 {n : Nat} (h : n ≤ 1000) : (decide (-(2 ^ 63) ≤ (n : Int)) && decide ((n : Int) < 2 ^ 63)) = true := by
  simp only [Bool.and_eq_true, decide_eq_true_eq]
  omega
theorem rep_lst {xs : List D} {n : Nat} (hn : n ≤ 1000) (h : xs.length * n ≤ 1000) : repD (.lst xs) (.int (n : Nat)) = some (.lst (List.replicate n xs).flatten) := by
  have e : repD (.lst xs) (.int (n : Nat)) = if (decide (-(2 ^ 63) ≤ (n : Int)) && decide ((n : Int) < 2 ^ 63) && decide (xs.length * (n : Int).toNat ≤ sizeLine)) = true then some (.lst (List.replicate (n : Int).toNat xs).flatten) else none := rfl
  rw [e, Int.toNat_natCast]
  refine if_pos ?_
  rw [Bool.and_eq_true]
  exact ⟨small63 hn, decide_eq_true (Nat.le_of_lt (small1000 h))⟩
theorem orD_none {o o' : D → D → Option D} {a b : D} (h : o a b = none) : orD o o' a b = o' a b := by unfold orD; rw [h]
theorem orD_some {o o' : D → D → Option D} {a b r : D} (h : o a b = some r) : orD o o' a b = some r := by unfold orD; rw [h]
theorem times_lst {xs : List D} {n : Nat} (hn : n ≤ 1000) (h : xs.length * n ≤ 1000) : timesD (.lst xs) (.int (n : Nat)) = some (.lst (List.replicate n xs).flatten) :=
  orD_some ((orD_none rfl).trans (rep_lst hn h))
theorem flat_rep_mem {α : Type} {xs : List α} {n : Nat} {x : α} (h : x ∈ (List.replicate n xs).flatten) : x ∈ xs := by
  obtain ⟨l, hl, hx⟩ := List.mem_flatten.mp h
  rw [(List.mem_replicate.mp hl).2] at hx
  exact hx
theorem flat_rep_len {α : Type} {xs : List α} : ∀ n : Nat, (List.replicate n xs).flatten.length = xs.length * n
  | 0 => rfl
  | n + 1 => by rw [List.replicate_succ, List.flatten_cons, List.length_append, flat_rep_len n, Nat.mul_succ]; omega
theorem ifO {T : String} {L : Sm (List D)} {c : Nat} {it : D} {ds : List D} {k : DkO} {G : D → Prop} (hp : plain it = true) (hc : c ≤ 3) (hd : ds.length ≤ 200) (hd0 : 0 < ds.length) (hG : ∀ d ∈ ds, G d)
    (h : isTy T it = true → ∃ es, (∀ ds k, L (envO it ds) k = .ok es k) ∧ es.length ≤ 10 ∧ ∀ e ∈ es, G e) :
    ∃ ds', sIfS (sTru (sIsi T (sV 1))) (sSet 2 (sOp plusD (sV 2) (sOp timesD (sLst L) (sC (.int (c : Nat)))))) sSkip (envO it ds) k = .nx (envO it ds') k ∧ ds'.length ≤ ds.length + 30 ∧ 0 < ds'.length ∧ ∀ d ∈ ds', G d := by
  have a := tru_run (isi_run (T := T) (f := sV 1) (env := envO it ds) (k := k) (v_run rfl) hp) rfl
  cases ht : isTy T it with
  | false =>
    rw [ht] at a
    exact ⟨ds, ifs_f a, by omega, hd0, hG⟩
  | true =>
    rw [ht] at a
    obtain ⟨es, e1, e2, e3⟩ := h ht
    have hl := flat_rep_len (xs := es) c
    have hc3 : es.length * c ≤ 10 * 3 := Nat.mul_le_mul e2 hc
    refine ⟨ds ++ (List.replicate c es).flatten, (ifs_t a).trans (set_run (op_run (v_run rfl) (op_run (lst_run (e1 ds k) (by omega)) rfl (times_lst (by omega) (by omega))) (plus_lst (by omega)))), ?_, ?_, fun d hd' => ?_⟩
    · rw [List.length_append]; omega
    · rw [List.length_append]; omega
    · rcases List.mem_append.mp hd' with z | z
      · exact hG d z
      · exact e3 d (flat_rep_mem z)
theorem Gd.appS {n h m n' : Nat} {x y : Str} (a : Gd n h m (.str x)) (hy : ∀ c ∈ cp y, c < 128) (hn : n + 10 * y.length ≤ n') : Gd n' h m (.str (x ++ y)) := by
  obtain ⟨h1, h2⟩ := a.asc
  obtain ⟨x⟩ := x
  obtain ⟨y⟩ := y
  refine Gd.str (asc_all fun c hc => ?_) ?_
  · have : c ∈ (x ++ y).toList := hc
    rw [Array.toList_append] at this
    rcases List.mem_append.mp this with z | z
    · exact h1 c z
    · exact hy c z
  · have e : ((⟨x⟩ : Str) ++ (⟨y⟩ : Str)).length = x.size + y.size := Array.size_append
    have e1 : (⟨x⟩ : Str).length = x.size := rfl
    have e2 : (⟨y⟩ : Str).length = y.size := rfl
    omega
theorem mem_cutS {x : Str} {lo hi : Option Int} {c : Nat} (h : c ∈ cp (L2.cutS x lo hi)) : c ∈ cp x := by
  have h' : c ∈ (x.cps.toList.drop (HT.sIx x.length 0 lo)).take (HT.sIx x.length x.length hi - HT.sIx x.length 0 lo) := h
  exact List.mem_of_mem_drop (List.mem_of_mem_take h')
theorem len_cutS {x : Str} {lo hi : Option Int} : (L2.cutS x lo hi).length ≤ x.length := by
  have e : (L2.cutS x lo hi).length = ((x.cps.toList.drop (HT.sIx x.length 0 lo)).take (HT.sIx x.length x.length hi - HT.sIx x.length 0 lo)).length := by
    rw [len_list]; rfl
  rw [e, List.length_take, List.length_drop, ← len_list]
  omega
theorem gd_cutS {n h m : Nat} {x : Str} (a : Gd n h m (.str x)) (lo hi : Option Int) : Gd n h m (.str (L2.cutS x lo hi)) := by
  obtain ⟨h1, h2⟩ := a.asc
  have := @len_cutS x lo hi
  exact Gd.str (asc_all fun c hc => h1 c (mem_cutS hc)) (by omega)
theorem gd_revS {n h m : Nat} {x : Str} (a : Gd n h m (.str x)) : Gd n h m (.str (revS x)) := by
  obtain ⟨h1, h2⟩ := a.asc
  have e : (revS x).length = x.length := by
    have : (revS x).length = x.cps.toList.reverse.length := by rw [len_list]; rfl
    rw [this, List.length_reverse, ← len_list]
  refine Gd.str (asc_all fun c hc => h1 c ?_) (by omega)
  have hc' : c ∈ x.cps.toList.reverse := hc
  simpa using hc'
theorem gd_upper {n h m : Nat} {x : Str} (a : Gd n h m (.str x)) : Gd n h m (.str (Txt.upper x)) := by
  obtain ⟨h1, h2⟩ := a.asc
  obtain ⟨u1, u2⟩ := upper_of h1
  exact Gd.str (asc_all u2) (by omega)
theorem upper_is {n h m : Nat} {x : Str} (a : Gd n h m (.str x)) (hn : n ≤ 1000000) : upperD x [] = some (.str (Txt.upper x)) := by
  obtain ⟨h1, h2⟩ := a.asc
  obtain ⟨u1, u2⟩ := upper_of h1
  have hs := (asc_sok (x := Txt.upper x) (asc_all u2) (by have := sizeLine_eq; omega)).2
  have e : upperD x [] = if (decide (x.length ≤ 5592405) && PyData.strOk (Txt.upper x)) = true then some (.str (Txt.upper x)) else none := rfl
  rw [e]
  refine if_pos ?_
  rw [Bool.and_eq_true]
  exact ⟨decide_eq_true (by omega), hs⟩
theorem gd_signs {n h m : Nat} {x : Str} (a : Gd n h m (.str x)) (hh : 1 ≤ h) : Gd (3 * n) h m (.lst (signsD x)) := by
  obtain ⟨h1, h2⟩ := a.asc
  have key : ∀ l : List Nat, (∀ c ∈ l, c < 128) → GdL (22 * l.length) 0 m (l.map fun c => D.str ⟨#[c]⟩) := by
    intro l
    induction l with
    | nil => intro _; exact GdL.nil
    | cons c l ih =>
      intro hl
      have hc : Gd 20 0 m (.str ⟨#[c]⟩) := Gd.str (asc_all fun d hd => by
        have : d ∈ [c] := hd
        rw [List.mem_singleton.mp this]
        exact hl c List.mem_cons_self) (by show 10 * 1 + 10 ≤ 20; omega)
      exact (GdL.cons hc (ih fun d hd => hl d (List.mem_cons_of_mem _ hd))).mono (by rw [List.length_cons]; omega) (Nat.le_refl _) (Nat.le_refl _)
  exact (key _ h1).lst.mono (by rw [← len_list]; omega) (by omega) (Nat.le_refl _)
theorem odd_tup {n h m : Nat} {ds : List D} (a : Gd n h m (.tup ds)) (hn : 1400 ≤ n) (hn2 : n ≤ 400000) :
    ∃ es, (∀ xs k, (lCons (sFrz (iVal (sV 1))) (lCons (sSl (sV 1) (oSome (sC (.int 1))) oNone) (lCons (sSl (sV 1) oNone (oSome (sNeg (sC (.int 1))))) (lCons (sOp plusD (sV 1) (sSl (sV 1) (oSome (sNeg (sC (.int 1)))) oNone)) (lCons (sRev (sV 1)) (lCons (sTup (lCons (sV 1) lNil)) lNil)))))) (envO (.tup ds) xs) k = .ok es k) ∧ es.length ≤ 10 ∧ ∀ e ∈ es, Gd (3 * n) (h + 2) (m + 1) e := by
  have b := a.ofTup
  have hl := b.len
  have hh : 1 ≤ h := by have := a.h; simp only [ht] at this; omega
  have cl : ∀ lo hi, (cutL ds lo hi).length ≤ ds.length := fun lo hi => by unfold cutL; rw [List.length_take, List.length_drop]; omega
  refine ⟨[.lst ds, .tup (cutL ds (some 1) none), .tup (cutL ds none (some (-1))), .tup (ds ++ cutL ds (some (-1)) none), .tup ds.reverse, .tup [.tup ds]], fun xs k => ?_, by show 6 ≤ 10; omega, fun e he => ?_⟩
  · refine lc_run (frz_run (iVal_run (v_run rfl) rfl)) (lc_run (sl_run (v_run rfl) (oSome_run rfl) oNone_run rfl) (lc_run (sl_run (v_run rfl) oNone_run (oSome_run rfl) rfl) (lc_run (op_run (v_run rfl) (sl_run (v_run rfl) (oSome_run rfl) oNone_run rfl) (plus_tup ?_)) (l2_run (rev_run (v_run rfl) rfl) (tup_run (l1_run (v_run rfl)) (by show 1 ≤ 1000; omega))))))
    have := cl (some (-1)) none
    omega
  · simp only [List.mem_cons, List.mem_nil_iff, or_false] at he
    rcases he with rfl | rfl | rfl | rfl | rfl | rfl
    · exact b.lst.mono (by omega) (by omega) (by omega)
    · exact (b.cut _ _).tup.mono (by omega) (by omega) (by omega)
    · exact (b.cut _ _).tup.mono (by omega) (by omega) (by omega)
    · exact (b.app (b.cut _ _)).tup.mono (by omega) (by omega) (by omega)
    · exact b.rev.tup.mono (by omega) (by omega) (by omega)
    · exact (GdL.cons a GdL.nil (n' := 0)).tup.mono (by omega) (by omega) (by omega)
theorem odd_str {n h m : Nat} {x : Str} (a : Gd n h m (.str x)) (hn : 1400 ≤ n) (hn2 : n ≤ 400000) :
    ∃ es, (∀ xs k, (lCons (sOp plusD (sV 1) (sC (.str "x"))) (lCons (sSl (sV 1) (oSome (sC (.int 1))) oNone) (lCons (sRev (sV 1)) (lCons (sM0 upperD (sV 1)) (lCons (sFrz (iVal (sV 1))) (lCons (sOp plusD (sV 1) (sC (.str " "))) lNil)))))) (envO (.str x) xs) k = .ok es k) ∧ es.length ≤ 10 ∧ ∀ e ∈ es, Gd (3 * n) (h + 2) (m + 1) e ∧ tupL e = [] := by
  obtain ⟨h1, h2⟩ := a.asc
  have l1 : ("x" : Str).length = 1 := rfl
  have l2 : (" " : Str).length = 1 := rfl
  refine ⟨[.str (x ++ "x"), .str (L2.cutS x (some 1) none), .str (revS x), .str (Txt.upper x), .lst (signsD x), .str (x ++ " ")], fun xs k => ?_, by show 6 ≤ 10; omega, fun e he => ?_⟩
  · exact lc_run (op_run (v_run rfl) rfl (plus_str (by omega))) (lc_run (sl_run (v_run rfl) (oSome_run rfl) oNone_run rfl) (lc_run (rev_run (v_run rfl) rfl) (lc_run (m0_run (v_run rfl) (upper_is a (by omega))) (l2_run (frz_run (iVal_run (v_run rfl) rfl)) (op_run (v_run rfl) rfl (plus_str (by omega)))))))
  · simp only [List.mem_cons, List.mem_nil_iff, or_false] at he
    rcases he with rfl | rfl | rfl | rfl | rfl | rfl
    · exact ⟨(Gd.appS a (y := "x") (n' := 3 * n) (by decide +kernel) (by omega)).mono (by omega) (by omega) (by omega), rfl⟩
    · exact ⟨(gd_cutS a _ _).mono (by omega) (by omega) (by omega), rfl⟩
    · exact ⟨(gd_revS a).mono (by omega) (by omega) (by omega), rfl⟩
    · exact ⟨(gd_upper a).mono (by omega) (by omega) (by omega), rfl⟩
    · exact ⟨(gd_signs (a.mono (n' := n) (h' := h + 1) (m' := m) (by omega) (by omega) (by omega)) (by omega)).mono (by omega) (by omega) (by omega), rfl⟩
    · exact ⟨(Gd.appS a (y := " ") (n' := 3 * n) (by decide +kernel) (by omega)).mono (by omega) (by omega) (by omega), rfl⟩
abbrev intS : Sm (List D) := (lCons (sOp plusD (sV 1) (sC (.int 1))) (lCons (sOp minusD (sV 1) (sC (.int 1))) (lCons (sOp eqD (sV 1) (sC (.int 1))) (lCons (sApp textD (lCons (sV 1) lNil)) lNil))))
theorem odd_int {n h m : Nat} {i : Int} (a : Gd n h m (.int i)) (hn : 1400 ≤ n) (hm : m + 1 ≤ 10 ^ 60) :
    ∃ es, (∀ xs k, intS (envO (.int i) xs) k = .ok es k) ∧ es.length ≤ 10 ∧ ∀ e ∈ es, Gd (3 * n) (h + 2) (m + 1) e ∧ tupL e = [] := by
  have hi : i.natAbs ≤ m := by have := a.m; simpa [mg] using this
  have hi2 : i.natAbs ≤ 10 ^ 60 := by omega
  have hl := strInt_len hi2
  have et : ∀ k, textD [.int i] k = .ok (.str ((toString i : String) : Str)) k := fun k => by
    refine orO_ok (pure_run ?_)
    exact if_pos (log_small hi2)
  refine ⟨[.int (i + 1), .int (i - 1), .bl (i == 1), .str ((toString i : String) : Str)], fun xs k => ?_, by show 4 ≤ 10; omega, fun e he => ?_⟩
  · exact lc_run (op_run (v_run rfl) rfl plus_int) (lc_run (op_run (v_run rfl) rfl minus_int) (l2_run (op_run (v_run rfl) rfl eq_int) (app_run (l1_run (v_run rfl)) (et k))))
  · simp only [List.mem_cons, List.mem_nil_iff, or_false] at he
    rcases he with rfl | rfl | rfl | rfl
    · exact ⟨Gd.int (by omega) (by omega), rfl⟩
    · exact ⟨Gd.int (by omega) (by omega), rfl⟩
    · exact ⟨Gd.bl (by omega), rfl⟩
    · exact ⟨Gd.str (asc_all strInt_asc) (by omega), rfl⟩
theorem eq_bi {b : Bool} : ∃ z, eqD (.bl b) (.int 1) = some (.bl z) := by
  cases b
  · exact ⟨_, rfl⟩
  · exact ⟨_, rfl⟩
theorem odd_bl {n h m : Nat} {b : Bool} (hn : 1400 ≤ n) (hm : 2 ≤ m) :
    ∃ es, (∀ xs k, intS (envO (.bl b) xs) k = .ok es k) ∧ es.length ≤ 10 ∧ ∀ e ∈ es, Gd (3 * n) (h + 2) (m + 1) e ∧ tupL e = [] := by
  have et : ∀ k, textD [.bl b] k = .ok (.str (if b = true then "True" else "False")) k := fun k => (orO_bad rfl).trans rfl
  obtain ⟨z, ez⟩ := @eq_bi b
  have hb : (b2n b).natAbs ≤ 1 := by cases b <;> decide
  refine ⟨[.int (b2n b + 1), .int (b2n b - 1), .bl z, .str (if b = true then "True" else "False")], fun xs k => ?_, by show 4 ≤ 10; omega, fun e he => ?_⟩
  · exact lc_run (op_run (v_run rfl) rfl rfl) (lc_run (op_run (v_run rfl) rfl rfl) (l2_run (op_run (v_run rfl) rfl ez) (app_run (l1_run (v_run rfl)) (et k))))
  · simp only [List.mem_cons, List.mem_nil_iff, or_false] at he
    rcases he with rfl | rfl | rfl | rfl
    · exact ⟨Gd.int (by omega) (by omega), rfl⟩
    · exact ⟨Gd.int (by omega) (by omega), rfl⟩
    · exact ⟨Gd.bl (by omega), rfl⟩
    · have e1 : ("True" : Str).length = 4 := rfl
      have e2 : ("False" : Str).length = 5 := rfl
      cases b
      · exact ⟨Gd.str (by decide +kernel) (by show 10 * ("False" : Str).length + 10 ≤ _; omega), rfl⟩
      · exact ⟨Gd.str (by decide +kernel) (by show 10 * ("True" : Str).length + 10 ≤ _; omega), rfl⟩
theorem oddA_run {env : List En} {k : DkO} : (sLst (lCons (sC .non) (lCons (sC (.bl true)) (lCons (sC (.bl false)) (lCons (sC (.int 0)) (lCons (sC (.int 1)) (lCons (sNeg (sC (.int 1))) (lCons (sC (.int 2)) (lCons (sC (.int 99)) (lCons (sC (.int 100)) (lCons (sOp powD (sC (.int 10)) (sC (.int 39))) (lCons (sC (.str "")) (lCons (sC (.str "x")) (lCons (sC (.str "-")) (lCons (sC (.str "ab")) (lCons (sC (.str "x-")) (lCons (sC (.str "A")) (lCons (sTup lNil) (lCons (sTup (lCons (sC (.int 0)) lNil)) (lCons (sTup (lCons (sC (.int 1)) (lCons (sC (.int 0)) lNil))) (lCons (sTup (lCons (sC (.int 0)) (lCons (sC (.int 0)) lNil))) lNil))))))))))))))))))))) env k = .ok (.lst oddA) k :=
  lst_run (lc_run rfl (lc_run rfl (lc_run rfl (lc_run rfl (lc_run rfl (lc_run rfl (lc_run rfl (lc_run rfl (lc_run rfl (lc_run (op_run rfl rfl pow_39) (lc_run rfl (lc_run rfl (lc_run rfl (lc_run rfl (lc_run rfl (lc_run rfl (lc_run (tup_run rfl (by decide)) (lc_run (tup_run (l1_run rfl) (by show 1 ≤ 1000; omega)) (l2_run (tup_run (l2_run rfl rfl) (by show 2 ≤ 1000; omega)) (tup_run (l2_run rfl rfl) (by show 2 ≤ 1000; omega))))))))))))))))))))) (by show 20 ≤ 1000; omega)
theorem oddB_run {env : List En} {k : DkO} : (sLst (lCons (sLst lNil) (lCons (sC (.dct [])) (lCons (sTup (lCons (sTup lNil) lNil)) (lCons (sTup (lCons (sC (.bl true)) lNil)) (lCons (sTup (lCons (sC (.str "a")) lNil)) (lCons (sTup (lCons (sC (.int 0)) (lCons (sC (.int 1)) lNil))) (lCons (sTup (lCons (sTup (lCons (sC (.int 0)) lNil)) (lCons (sTup (lCons (sC (.int 1)) lNil)) lNil))) lNil)))))))) env k = .ok (.lst oddB) k :=
  lst_run (lc_run (lst_run rfl (by decide)) (lc_run rfl (lc_run (tup_run (l1_run (tup_run rfl (by decide))) (by show 1 ≤ 1000; omega)) (lc_run (tup_run (l1_run rfl) (by show 1 ≤ 1000; omega)) (lc_run (tup_run (l1_run rfl) (by show 1 ≤ 1000; omega)) (l2_run (tup_run (l2_run rfl rfl) (by show 2 ≤ 1000; omega)) (tup_run (l2_run (tup_run (l1_run rfl) (by show 1 ≤ 1000; omega)) (tup_run (l1_run rfl) (by show 1 ≤ 1000; omega))) (by show 2 ≤ 1000; omega)))))))) (by show 7 ≤ 1000; omega)
theorem isTup {it : D} (h : isTy "tuple" it = true) : ∃ ds, it = .tup ds := by
  cases it <;> first | exact ⟨_, rfl⟩ | simp [isTy, isTyN, tyN] at h
abbrev envB (it : D) (deep : Nat) : List En := [.d .dk, .d it, .d (.int (deep : Nat)), .no]
abbrev condB (FD : Fn) : Sm Bool := (sOrB (sB (sOp eqD (sV 2) (sC (.int 0)))) (sOrB (sNotB (sTru (sIsi "tuple" (sV 1)))) (sOrB (sB (sOp eqD (sV 1) (sTup lNil))) (sB (sOp eqD (sCall 2 FD (lCons (sV 0) (lCons (sC (.int 5)) lNil))) (sC (.int 0)))))))
theorem condB_run {FD : Fn} (hD : DrawOk FD) {it : D} {deep : Nat} {k : Dk} {N : Nat} (hp : plain it = true) (hb : Bud k (N + 1)) :
    ∃ z k', condB FD (envB it deep) (some k) = .ok z (some k') ∧ Bud k' N ∧ (z = false → 0 < deep ∧ ∃ ds, it = .tup ds ∧ 0 < ds.length) := by
  have a1 : sB (sOp eqD (sV 2) (sC (.int 0))) (envB it deep) (some k) = .ok _ (some k) := b_run (op_run (v_run rfl) rfl eq_int)
  cases h1 : ((deep : Nat) : Int) == 0 with
  | true => rw [h1] at a1; exact ⟨true, k, orB_t a1, hb.mono (by omega), fun z => nomatch z⟩
  | false =>
    rw [h1] at a1
    have a2 : sNotB (sTru (sIsi "tuple" (sV 1))) (envB it deep) (some k) = .ok _ (some k) := notB_run (tru_run (isi_run (v_run rfl) hp) rfl)
    cases h2 : isTy "tuple" it with
    | false => rw [h2] at a2; exact ⟨true, k, (orB_f a1).trans (orB_t a2), hb.mono (by omega), fun z => nomatch z⟩
    | true =>
      rw [h2] at a2
      obtain ⟨ds, rfl⟩ := isTup h2
      have a3 : sB (sOp eqD (sV 1) (sTup lNil)) (envB (.tup ds) deep) (some k) = .ok _ (some k) := b_run (op_run (v_run rfl) (tup_run rfl (by decide)) eq_nilT)
      cases h3 : ds.isEmpty with
      | true => rw [h3] at a3; exact ⟨true, k, (orB_f a1).trans ((orB_f a2).trans (orB_t a3)), hb.mono (by omega), fun z => nomatch z⟩
      | false =>
        rw [h3] at a3
        obtain ⟨z, k', e, hb'⟩ := draw_is hD (env := envB (.tup ds) deep) (b := 5) rfl (by decide) hb
        refine ⟨z, k', (orB_f a1).trans ((orB_f a2).trans ((orB_f a3).trans (b_run e))), hb', fun _ => ⟨?_, ds, rfl, ?_⟩⟩
        · rcases Nat.eq_zero_or_pos deep with rfl | z
          · simp at h1
          · exact z
        · cases ds with
          | nil => cases h3
          | cons _ _ => exact Nat.succ_pos _
theorem lenT_run {l : Sm (List D)} {env : List En} {k k1 : DkO} {ds : List D} (h : l env k = .ok [.tup ds] k1) : sApp (pureO lenD) l env k = .ok (.int (ds.length : Nat)) k1 := app_run h rfl
/-- a short text of small signs -/
def Asc (L : Nat) (z : Str) : Prop := (∀ c ∈ cp z, c < 128) ∧ z.length ≤ L
/-- short texts, so long together -/
def AL (L : Nat) (xs : List Str) : Prop := (∀ x ∈ xs, ∀ c ∈ cp x, c < 128) ∧ (xs.map (·.length)).sum + xs.length ≤ L
def sumS (xs : List Str) : Nat := (xs.map (·.length)).sum + xs.length
theorem sumS_app (xs ys : List Str) : sumS (xs ++ ys) = sumS xs + sumS ys := by
  unfold sumS
  rw [List.map_append, List.sum_append, List.length_append]; omega
theorem sumS_sub {xs ys : List Str} (h : xs.Sublist ys) : sumS xs ≤ sumS ys := by
  induction h with
  | slnil => exact Nat.le_refl _
  | cons d _ ih => unfold sumS at *; rw [List.map_cons, List.sum_cons, List.length_cons]; omega
  | cons_cons d _ ih => unfold sumS at *; rw [List.map_cons, List.map_cons, List.sum_cons, List.sum_cons, List.length_cons, List.length_cons]; omega
theorem sumS_rev (xs : List Str) : sumS xs.reverse = sumS xs := by
  induction xs with
  | nil => rfl
  | cons x xs ih => rw [List.reverse_cons, sumS_app, ih]; unfold sumS; simp only [List.map_cons, List.sum_cons, List.length_cons, List.map_nil, List.sum_nil, List.length_nil]; omega
theorem AL.cut {L : Nat} {xs : List Str} (a : AL L xs) (lo hi : Option Int) : AL L (cutL xs lo hi) := by
  have hs : (cutL xs lo hi).Sublist xs := (List.take_sublist _ _).trans (List.drop_sublist _ _)
  exact ⟨fun x hx => a.1 x (hs.subset hx), Nat.le_trans (sumS_sub hs) a.2⟩
theorem AL.rev {L : Nat} {xs : List Str} (a : AL L xs) : AL L xs.reverse :=
  ⟨fun x hx => a.1 x (by simpa using hx), by have := a.2; have e := sumS_rev xs; unfold sumS at e; omega⟩
theorem AL.app {L M : Nat} {xs ys : List Str} (a : AL L xs) (b : AL M ys) : AL (L + M) (xs ++ ys) := by
  refine ⟨fun x hx => ?_, ?_⟩
  · exact (List.mem_append.mp hx).elim (a.1 x) (b.1 x)
  · have e := sumS_app xs ys
    have := a.2
    have := b.2
    unfold sumS at e
    omega
theorem AL.one {L : Nat} {x : Str} (a : Asc L x) : AL (L + 1) [x] := by
  refine ⟨fun y hy => ?_, ?_⟩
  · rw [List.mem_singleton.mp hy]; exact a.1
  · simp only [List.map_cons, List.map_nil, List.sum_cons, List.sum_nil, List.length_singleton]; have := a.2; omega
theorem AL.mono {L M : Nat} {xs : List Str} (a : AL L xs) (h : L ≤ M) : AL M xs := ⟨a.1, Nat.le_trans a.2 h⟩
theorem AL.mem {L : Nat} {xs : List Str} {x : Str} (a : AL L xs) (hx : x ∈ xs) : Asc (L - 1) x := by
  refine ⟨a.1 x hx, ?_⟩
  obtain ⟨l1, l2, rfl⟩ := List.append_of_mem hx
  have := a.2
  have e := sumS_app l1 (x :: l2)
  unfold sumS at e
  rw [List.map_cons, List.sum_cons, List.length_cons] at e
  omega
theorem Asc.mono {L M : Nat} {x : Str} (a : Asc L x) (h : L ≤ M) : Asc M x := ⟨a.1, Nat.le_trans a.2 h⟩
theorem Asc.gd {L n h m : Nat} {x : Str} (a : Asc L x) (hn : 10 * L + 10 ≤ n) : Gd n h m (.str x) := Gd.str (asc_all a.1) (by have := a.2; omega)
theorem AL.len {L : Nat} {xs : List Str} (a : AL L xs) : xs.length ≤ L := by have := a.2; omega
theorem strs_len (xs : List Str) : (strsD xs).length = xs.length := List.length_map ..
theorem strs_app (xs ys : List Str) : strsD xs ++ strsD ys = strsD (xs ++ ys) := (List.map_append ..).symm
theorem strs_rev (xs : List Str) : (strsD xs).reverse = strsD xs.reverse := (List.map_reverse ..).symm
theorem strs_cut (xs : List Str) (lo hi : Option Int) : cutL (strsD xs) lo hi = strsD (cutL xs lo hi) := by
  unfold cutL
  rw [strs_len]
  unfold strsD
  rw [← List.map_drop, ← List.map_take]
theorem join_al {a : Str} {L : Nat} {xs : List Str} (ha : a.length = 1) (hc : ∀ c ∈ cp a, c < 128) (h : AL L xs) (hL : L ≤ 1000000) : ∃ z, joinD a [.lst (strsD xs)] = some (.str z) ∧ Asc L z := by
  have h2 := h.2
  refine ⟨Txt.join a xs, joinD_lst (by rw [ha]; omega), fun c hc' => ?_, ?_⟩
  · rw [join_is] at hc'
    rcases (PyProof.Rows.mem_join a c xs).mp hc' with ⟨t, ht, z⟩ | ⟨_, z⟩
    · exact h.1 t ht c z
    · exact hc c z
  · rw [join_is]
    have := PySem.StrLaws.join_length_le a xs
    rw [ha] at this
    omega
theorem split_al {a x : Str} {L : Nat} (ha : a.length = 1) (h : Asc L x) (hL : L ≤ 1000000) : ∃ xs : List Str, splitD x [.str a] = some (.lst (strsD xs)) ∧ AL (L + 1) xs ∧ 0 < xs.length := by
  have h2 := h.2
  have sz := sizeLine_eq
  refine ⟨Txt.split x a, ?_, ⟨fun t ht c hc => ?_, ?_⟩, split_ne x a⟩
  · show (if ((a.length == 0) = false ∧ x.length + 2 ≤ sizeLine) then _ else _) = _
    rw [if_pos ⟨by rw [ha]; rfl, by omega⟩]
    rfl
  · have := (PyProof.Rows.mem_join a c (Txt.split x a)).mpr (.inl ⟨t, ht, hc⟩)
    rw [PySem.StrLaws.join_split x a] at this
    exact h.1 c this
  · have e := PySem.StrLaws.join_split x a
    have key : ∀ ys : List Str, ys ≠ [] → (Str.join a ys).length + 1 = (ys.map (·.length)).sum + ys.length := by
      intro ys
      induction ys with
      | nil => intro h; exact absurd rfl h
      | cons y ys ih =>
        intro _
        cases ys with
        | nil => show y.length + 1 = _; simp
        | cons z ys =>
          have := ih (by simp)
          show (y ++ a ++ Str.join a (z :: ys)).length + 1 = _
          rw [Str.length_append, Str.length_append, ha]
          simp only [List.map_cons, List.sum_cons, List.length_cons] at this ⊢
          omega
    have h0 : Txt.split x a ≠ [] := fun z => by have := split_ne x a; rw [z] at this; cases this
    have := key _ h0
    rw [e] at this
    omega
theorem Asc.app {L M : Nat} {x y : Str} (a : Asc L x) (b : Asc M y) : Asc (L + M) (x ++ y) := by
  obtain ⟨x⟩ := x
  obtain ⟨y⟩ := y
  refine ⟨fun c hc => ?_, ?_⟩
  · have : c ∈ (x ++ y).toList := hc
    rw [Array.toList_append] at this
    rcases List.mem_append.mp this with z | z
    · exact a.1 c z
    · exact b.1 c z
  · have e : ((⟨x⟩ : Str) ++ (⟨y⟩ : Str)).length = x.size + y.size := Array.size_append
    have e1 : (⟨x⟩ : Str).length = x.size := rfl
    have e2 : (⟨y⟩ : Str).length = y.size := rfl
    have := a.2
    have := b.2
    omega
theorem Asc.cut {L : Nat} {x : Str} (a : Asc L x) (lo hi : Option Int) : Asc L (L2.cutS x lo hi) := ⟨fun c hc => a.1 c (mem_cutS hc), Nat.le_trans len_cutS a.2⟩
theorem draw_len {FD : Fn} (hD : DrawOk FD) {env : List En} {j : Nat} {xs : List D} {k : Dk} {n : Nat} (h0 : env[0]? = some (.d .dk)) (hj : env[j]? = some (.d (.lst xs))) (h1 : 0 < xs.length) (h2 : xs.length ≤ 1000000) (hk : Bud k (n + 1)) :
    ∃ (r : Nat) (k' : Dk), sCall 2 FD (lCons (sV 0) (lCons (sApp (pureO lenD) (lCons (sV j) lNil)) lNil)) env (some k) = .ok (.int (r : Nat)) (some k') ∧ r < xs.length ∧ Bud k' n := by
  obtain ⟨r, k', e, r0, r1, hb⟩ := hD (xs.length : Nat) k n (bOk_nat h1 (by omega)) hk
  obtain ⟨i, rfl⟩ := Int.eq_ofNat_of_zero_le r0
  exact ⟨i, k', call_run (l2_run (v_run h0) (app_run (l1_run (v_run hj)) rfl)) rfl e, by omega, hb⟩
theorem strs_mem {xs : List Str} {d : D} (h : d ∈ strsD xs) : ∃ t, d = .str t ∧ t ∈ xs := by
  obtain ⟨t, ht, rfl⟩ := List.mem_map.mp h
  exact ⟨t, rfl, ht⟩
theorem ix_strs {xs : List Str} {i : Nat} (h : i < xs.length) : ∃ t, atI (strsD xs) (i : Int) = some (.str t) ∧ t ∈ xs :=
  ⟨xs[i], L2.atI_nat (by show (xs.map D.str)[i]? = _; simp [h]), List.getElem_mem h⟩
def strsP (xs : List Str) : List PyData := xs.map .str
theorem eqvAll_strs : ∀ xs ys : List Str, PyData.eqvAll (strsP xs) (strsP ys) = (xs == ys)
  | [], [] => rfl
  | [], _ :: _ => rfl
  | _ :: _, [] => rfl
  | x :: xs, y :: ys => by
    show (x == y && PyData.eqvAll (strsP xs) (strsP ys)) = _
    rw [eqvAll_strs xs ys, List.cons_beq_cons]
theorem pyAll_strs (xs : List Str) : D.pyAll (strsD xs) = some (strsP xs) := by
  induction xs with
  | nil => rfl
  | cons x xs ih => show D.pyAll (.str x :: strsD xs) = _; simp only [D.pyAll, D.py, ih]; rfl
theorem flat_tupS (xs : List Str) : flatPy (.tuple (strsP xs)) = true := by
  obtain ⟨h1, h2⟩ := flat_strs (f := fun x : Str => x) xs
  have h1' : PyData.hasDictAll (strsP xs) = false := h1
  have h2' : PyData.depthAll (strsP xs) = 0 := h2
  unfold flatPy
  rw [Bool.and_eq_true]
  exact ⟨by simp [PyData.hasDict, h1'], decide_eq_true (by simp only [PyData.depth]; omega)⟩
theorem eqv_tupS {f : Bool → Bool} (xs ys : List Str) : eqvD f (.tup (strsD xs)) (.tup (strsD ys)) = some (.bl (f (xs == ys))) := by
  have e1 : D.py (.tup (strsD xs)) = some (.tuple (strsP xs)) := by simp only [D.py, pyAll_strs, Option.map_some]
  have e2 : D.py (.tup (strsD ys)) = some (.tuple (strsP ys)) := by simp only [D.py, pyAll_strs, Option.map_some]
  unfold eqvD
  simp only [e1, e2, flat_tupS, Bool.and_self, if_true]
  rw [show PyData.eqv (.tuple (strsP xs)) (.tuple (strsP ys)) = PyData.eqvAll (strsP xs) (strsP ys) by simp [PyData.eqv], eqvAll_strs]
theorem eq_tupS (xs ys : List Str) : eqD (.tup (strsD xs)) (.tup (strsD ys)) = some (.bl (xs == ys)) := by
  unfold eqD
  refine orD_some ?_
  cases ys with
  | nil =>
    refine orD_some ?_
    cases xs <;> rfl
  | cons y ys => exact (orD_none rfl).trans (eqv_tupS xs (y :: ys))
theorem ne_tupS (xs ys : List Str) : neD (.tup (strsD xs)) (.tup (strsD ys)) = some (.bl (!(xs == ys))) := by
  unfold neD
  exact orD_some (eqv_tupS xs ys)
theorem py_obj {c : String} {fs : List (Str × D)} : D.py (.obj c fs) = none := by simp [D.py]
theorem eq_obj {c : String} {fs : List (Str × D)} {d : D} : eqD (.obj c fs) d = none := by
  have e1 : nilT (.obj c fs) d = none := rfl
  have e2 : eqvD (fun b => b) (.obj c fs) d = none := by unfold eqvD; rw [py_obj]
  have e3 : eqShw (fun b => b) (.obj c fs) d = none := rfl
  unfold eqD
  rw [orD_none ((orD_none e1).trans e2), e3]
theorem ne_obj {c : String} {fs : List (Str × D)} {d : D} : neD (.obj c fs) d = none := by
  have e2 : eqvD (fun b => !b) (.obj c fs) d = none := by unfold eqvD; rw [py_obj]
  have e3 : eqShw (fun b => !b) (.obj c fs) d = none := rfl
  unfold neD
  rw [orD_none e2, e3]
theorem cut_to {α : Type} {xs : List α} {i : Nat} (h : i < xs.length) : cutL xs none (some (i : Int)) = xs.take i := by
  unfold cutL
  rw [HT.sIx_none, HT.sIx_nat, List.drop_zero, Nat.sub_zero, Nat.min_eq_left (by omega)]
theorem cut_from {α : Type} {xs : List α} {i : Nat} (h : i < xs.length) : cutL xs (some ((i : Int) + 1)) none = xs.drop (i + 1) := by
  unfold cutL
  have e : ((i : Int) + 1) = ((i + 1 : Nat) : Int) := by omega
  rw [e, HT.sIx_none, HT.sIx_nat, Nat.min_eq_left (by omega)]
  exact List.take_of_length_le (by rw [List.length_drop]; omega)
theorem cut_put {α : Type} {xs : List α} {i : Nat} {y : α} (h : i < xs.length) : cutL xs none (some (i : Int)) ++ [y] ++ cutL xs (some ((i : Int) + 1)) none = xs.set i y := by
  rw [cut_to h, cut_from h, List.set_eq_take_append_cons_drop, if_pos h]
  simp
theorem set_ne {α : Type} [DecidableEq α] {xs : List α} {i : Nat} {x y : α} (h : xs[i]? = some x) (hne : y ≠ x) : (xs == xs.set i y) = false := by
  rw [beq_eq_false_iff_ne]
  intro e
  have hl := (List.getElem?_eq_some_iff.mp h).1
  rw [e, List.getElem?_set_self hl] at h
  exact hne (Option.some.inj h)
theorem draw_lenT {FD : Fn} (hD : DrawOk FD) {env : List En} {f : Sm D} {ds : List D} {k : Dk} {n : Nat} (h0 : env[0]? = some (.d .dk)) (hf : f env (some k) = .ok (.tup ds) (some k)) (h1 : 0 < ds.length) (h2 : ds.length ≤ 1000000) (hk : Bud k (n + 1)) :
    ∃ (r : Nat) (k' : Dk), sCall 2 FD (lCons (sV 0) (lCons (sApp (pureO lenD) (lCons f lNil)) lNil)) env (some k) = .ok (.int (r : Nat)) (some k') ∧ r < ds.length ∧ Bud k' n := by
  obtain ⟨r, k', e, r0, r1, hb⟩ := hD (ds.length : Nat) k n (bOk_nat h1 (by omega)) hk
  obtain ⟨i, rfl⟩ := Int.eq_ofNat_of_zero_le r0
  exact ⟨i, k', call_run (l2_run (v_run h0) (app_run (l1_run hf) rfl)) rfl e, by omega, hb⟩
theorem draw_lenS {FD : Fn} (hD : DrawOk FD) {env : List En} {f : Sm D} {z : Str} {k : Dk} {n : Nat} (h0 : env[0]? = some (.d .dk)) (hf : f env (some k) = .ok (.str z) (some k)) (h1 : 0 < z.length) (h2 : z.length ≤ 1000000) (hk : Bud k (n + 1)) :
    ∃ (r : Nat) (k' : Dk), sCall 2 FD (lCons (sV 0) (lCons (sApp (pureO lenD) (lCons f lNil)) lNil)) env (some k) = .ok (.int (r : Nat)) (some k') ∧ r < z.length ∧ Bud k' n := by
  obtain ⟨r, k', e, r0, r1, hb⟩ := hD (z.length : Nat) k n (bOk_nat h1 (by omega)) hk
  obtain ⟨i, rfl⟩ := Int.eq_ofNat_of_zero_le r0
  exact ⟨i, k', call_run (l2_run (v_run h0) (app_run (l1_run hf) rfl)) rfl e, by omega, hb⟩
theorem atI_strs {xs : List Str} {i : Nat} {t : Str} (h : xs[i]? = some t) : ixD (.tup (strsD xs)) (.int (i : Nat)) = some (.str t) := by
  show atI (strsD xs) (i : Int) = _
  refine L2.atI_nat ?_
  show (xs.map D.str)[i]? = _
  rw [List.getElem?_map, h]; rfl
theorem times_str {x : Str} {n : Nat} (hx : x.length ≤ 1000) (hn : n ≤ 1000) : timesD (.str x) (.int (n : Nat)) = some (.str (mulS x n)) := by
  have e : mulSD (.str x) (.int (n : Nat)) = if (decide (0 ≤ (n : Int)) && decide ((n : Int) ≤ 1000) && decide (x.length ≤ 1000)) = true then some (.str (mulS x (n : Int).toNat)) else none := rfl
  refine (orD_none rfl).trans (orD_some ?_)
  rw [e, Int.toNat_natCast]
  refine if_pos ?_
  simp only [Bool.and_eq_true, decide_eq_true_eq]
  omega

end DL
set_option Elab.async false
set_option linter.all false
set_option maxRecDepth 100000
set_option maxHeartbeats 4000000
/-! rows of drawn numbers -/
namespace DL
open PySem PySem.Spec L2
open PySem.W (Frag)
abbrev rowD (ns : List Int) : D := .tup (ns.map D.int)
section
variable {t : Tgt} {p : Sm Bool} {f : Sm D} {env0 : List En} {β : Type} {mk ff : β → D}
/-- a comprehension whose test draws -/
theorem compM_sub {c : Nat} : ∀ (bs : List β) (acc : List D) (k : Dk) (n : Nat), acc.length + bs.length ≤ sizeLine → Bud k (n + c * bs.length) →
    (∀ b ∈ bs, ∃ env1, t.set (mk b) env0 = some env1 ∧ (∀ k n, Bud k (n + c) → ∃ z k', p env1 (some k) = .ok z (some k') ∧ Bud k' n) ∧ ∀ k, f env1 k = .ok (ff b) k) →
    ∃ (cs : List β) (k' : Dk), compM t p f env0 (bs.map mk) acc (some k) = .ok (acc ++ cs.map ff) (some k') ∧ cs.Sublist bs ∧ Bud k' n
  | [], acc, k, n, _, hb, _ => ⟨[], k, by simp [compM], List.Sublist.slnil, hb.mono (by omega)⟩
  | b :: bs, acc, k, n, hl, hb, h => by
    rw [List.length_cons] at hl hb
    obtain ⟨env1, h1, h2, h3⟩ := h b List.mem_cons_self
    obtain ⟨z, k1, e1, hb1⟩ := h2 k (n + c * bs.length) (hb.mono (by rw [Nat.mul_succ]; omega))
    rw [List.map_cons]
    unfold compM
    rw [h1]
    simp only [e1, noE_ok, bind_ok]
    cases z with
    | true =>
      simp only [if_true, h3, noE_ok, bind_ok]
      rw [if_pos (by omega)]
      obtain ⟨cs, k2, e2, hs, hb2⟩ := compM_sub bs (acc ++ [ff b]) k1 n (by rw [List.length_append, List.length_singleton]; omega) hb1 fun d hd => h d (List.mem_cons_of_mem _ hd)
      exact ⟨b :: cs, k2, by rw [e2]; simp, hs.cons_cons b, hb2⟩
    | false =>
      obtain ⟨cs, k2, e2, hs, hb2⟩ := compM_sub bs acc k1 n (by omega) hb1 fun d hd => h d (List.mem_cons_of_mem _ hd)
      exact ⟨cs, k2, by rw [if_neg (by simp)]; exact e2, hs.cons b, hb2⟩
end
/-- 0 .. n - 1 -/
def ups (n : Nat) : List Int := (List.range n).map fun (i : Nat) => (i : Int)
theorem range_up (n : Nat) : rangeL 0 (n : Nat) = (ups n).map D.int := by rw [range_map]; unfold ups; rw [List.map_map]; rfl
theorem mem_up {n : Nat} {i : Int} : i ∈ ups n ↔ 0 ≤ i ∧ i < n := by
  unfold ups
  rw [List.mem_map]
  constructor
  · rintro ⟨j, hj, rfl⟩
    have := List.mem_range.mp hj
    omega
  · rintro ⟨h1, h2⟩
    exact ⟨i.toNat, List.mem_range.mpr (by omega), by omega⟩
theorem asc_up (n : Nat) : (ups n).Pairwise (· < ·) := by
  unfold ups
  rw [List.pairwise_map]
  exact List.pairwise_lt_range.imp fun h => by omega
theorem len_up (n : Nat) : (ups n).length = n := by unfold ups; rw [List.length_map, List.length_range]
/-- an ascending row of numbers below n -/
def LotI (n : Nat) (l : List Int) : Prop := l.Pairwise (· < ·) ∧ ∀ i ∈ l, 0 ≤ i ∧ i < n
theorem lot_sub {n : Nat} {l : List Int} (h : l.Sublist (ups n)) : LotI n l := ⟨(asc_up n).sublist h, fun i hi => mem_up.mp (h.subset hi)⟩
theorem lot_len {n : Nat} {l : List Int} (h : l.Sublist (ups n)) : l.length ≤ n := by have := h.length_le; rwa [len_up] at this
theorem lot_sort {n : Nat} {l : List Int} (h : ∀ i ∈ l, 0 ≤ i ∧ i < n) : LotI n (sortU l) := ⟨asc_sortU l, fun i hi => h i ((mem_sortU l).mp hi)⟩
theorem flat_ints' (ns : List Int) : flatAll (ns.map D.int) = some (ns.map V.int) := by
  induction ns with
  | nil => rfl
  | cons n ns ih => rw [List.map_cons]; simp only [flatAll, flatDD, ih]; rfl
theorem in_row {i : Int} {ns : List Int} : inD (.int i) (rowD ns) = some (.bl (inV (.int i) (ns.map V.int))) := by
  unfold inD
  refine (orD_none rfl).trans ?_
  unfold inSeq
  show (match some (V.int i), flatAll (ns.map D.int) with | some v, some vs => _ | _, _ => none) = _
  rw [flat_ints']; rfl
theorem in_lst {i : Int} {ns : List Int} : inD (.int i) (.lst (ns.map D.int)) = some (.bl (inV (.int i) (ns.map V.int))) := by
  unfold inD
  refine (orD_none rfl).trans ?_
  unfold inSeq
  show (match some (V.int i), flatAll (ns.map D.int) with | some v, some vs => _ | _, _ => none) = _
  rw [flat_ints']; rfl
theorem notIn_row {i : Int} {ns : List Int} : notInD (.int i) (rowD ns) = some (.bl (!inV (.int i) (ns.map V.int))) := by
  unfold notInD
  refine (orD_none rfl).trans ?_
  unfold inSeq
  show (match some (V.int i), flatAll (ns.map D.int) with | some v, some vs => _ | _, _ => none) = _
  rw [flat_ints']; rfl
theorem ints_map (ns : List Int) : intsOf (ns.map D.int) = some ns := by
  induction ns with
  | nil => rfl
  | cons n ns ih => show (intsOf (ns.map D.int)).map (n :: ·) = _; rw [ih]; rfl
theorem sortSet_lst {ns : List Int} (h : ns.length < 64) : sortSetD (.lst (ns.map D.int)) = some (.lst ((sortU ns).map D.int)) := by
  unfold sortSetD
  have e0 : (seqOf (.lst (ns.map D.int))).bind intsOf = some ns := ints_map ns
  rw [e0]; exact if_pos h
theorem sortSet_tup {ns : List Int} (h : ns.length < 64) : sortSetD (rowD ns) = some (.lst ((sortU ns).map D.int)) := by
  unfold sortSetD
  have e0 : (seqOf (rowD ns)).bind intsOf = some ns := ints_map ns
  rw [e0]; exact if_pos h
section
variable {env : List En} {k k1 : DkO} {f : Sm D} {d : D}
theorem sortSet_run {r : D} (e : f env k = .ok d k1) (e2 : sortSetD d = some r) : sSortSet f env k = .ok r k1 := by unfold sSortSet; rw [e, bind_ok, e2]; rfl
theorem lr_run {n : Nat} (e : f env k = .ok (.int (n : Nat)) k1) (h : n ≤ 1000) : sFrz (iLR1 f) env k = .ok (.lst ((ups n).map D.int)) k1 := by
  refine frz_run ?_
  unfold iLR1
  rw [e, bind_ok]
  show (if 0 ≤ (n : Int) ∧ (n : Int) ≤ 16777216 then Out.ok (rangeL 0 (n : Nat)) k1 else .bad) = _
  rw [if_pos ⟨by omega, by omega⟩, range_up]
theorem if_skip {p : Sm Bool} {s : Ss} (e : p env k = .ok false k1) : sIfS p s sSkip env k = .nx env k1 := ifs_f e
theorem and_t {h : Sm D} (e : f env k = .ok (.bl true) k1) : sAnd f h env k = h env k1 := by rw [sAnd_eq, e]; rfl
theorem and_f {h : Sm D} (e : f env k = .ok (.bl false) k1) : sAnd f h env k = .ok (.bl false) k1 := by rw [sAnd_eq, e]; rfl
theorem sif_t {p : Sm Bool} {h : Sm D} (a : p env k = .ok true k1) : sIf p f h env k = f env k1 := by rw [sIf_eq, a]; rfl
theorem sif_f {p : Sm Bool} {h : Sm D} (a : p env k = .ok false k1) : sIf p f h env k = h env k1 := by rw [sIf_eq, a]; rfl
theorem draw_e {FD : Fn} (hD : DrawOk FD) {env : List En} {f : Sm D} {b : Int} {k : Dk} {n : Nat} (h0 : env[0]? = some (.d .dk)) (hf : f env (some k) = .ok (.int b) (some k)) (hb : bOk b = true) (hk : Bud k (n + 1)) :
    ∃ (r : Nat) (k' : Dk), sCall 2 FD (lCons (sV 0) (lCons f lNil)) env (some k) = .ok (.int (r : Nat)) (some k') ∧ (r : Int) < b ∧ Bud k' n := by
  obtain ⟨r, k', e, r0, r1, hb'⟩ := hD b k n hb hk
  obtain ⟨i, rfl⟩ := Int.eq_ofNat_of_zero_le r0
  exact ⟨i, k', call_run (l2_run (v_run h0) hf) rfl e, r1, hb'⟩
/-- one of some numbers -/
theorem pick_ints {FP : Fn} (hP : PickOk FP) {env : List En} {f : Sm D} {ns : List Int} {k : Dk} {n : Nat} (h0 : env[0]? = some (.d .dk)) (hf : f env (some k) = .ok (.lst (ns.map D.int)) (some k)) (h1 : 0 < ns.length) (h2 : ns.length ≤ 1000) (hk : Bud k (n + 1)) :
    ∃ (i : Int) (k' : Dk), sCall 2 FP (lCons (sV 0) (lCons f lNil)) env (some k) = .ok (.int i) (some k') ∧ i ∈ ns ∧ Bud k' n := by
  obtain ⟨d, k', e, hm, hb⟩ := pick_of hP (h := f) (xs := ns.map D.int) h0 hf (by rw [List.length_map]; exact h1) (by rw [List.length_map]; exact h2) hk
  obtain ⟨i, hi, rfl⟩ := List.mem_map.mp hm
  exact ⟨i, k', e, hi, hb⟩
end
/-- numbers, each of some sort -/
theorem ints_of {P : Int → Prop} : ∀ {ys : List D}, (∀ y ∈ ys, ∃ i, y = .int i ∧ P i) → ∃ ns : List Int, ys = ns.map D.int ∧ (∀ i ∈ ns, P i) ∧ ns.length = ys.length
  | [], _ => ⟨[], rfl, fun _ z => (nomatch z), rfl⟩
  | y :: ys, h => by
    obtain ⟨ns, e, hp, hl⟩ := ints_of fun z hz => h z (List.mem_cons_of_mem _ hz)
    obtain ⟨i, rfl, hi⟩ := h y List.mem_cons_self
    refine ⟨i :: ns, by rw [e]; rfl, fun j hj => ?_, by rw [List.length_cons, List.length_cons, hl]⟩
    rcases List.mem_cons.mp hj with rfl | hj
    · exact hi
    · exact hp j hj
theorem rows_of {P : List Int → Prop} : ∀ {ys : List D}, (∀ y ∈ ys, ∃ l, y = rowD l ∧ P l) → ∃ ls : List (List Int), ys = ls.map rowD ∧ (∀ l ∈ ls, P l) ∧ ls.length = ys.length
  | [], _ => ⟨[], rfl, fun _ z => (nomatch z), rfl⟩
  | y :: ys, h => by
    obtain ⟨ls, e, hp, hl⟩ := rows_of fun z hz => h z (List.mem_cons_of_mem _ hz)
    obtain ⟨l, rfl, hi⟩ := h y List.mem_cons_self
    refine ⟨l :: ls, by rw [e]; rfl, fun j hj => ?_, by rw [List.length_cons, List.length_cons, hl]⟩
    rcases List.mem_cons.mp hj with rfl | hj
    · exact hi
    · exact hp j hj
end DL
set_option Elab.async false
set_option linter.all false
set_option maxRecDepth 100000
set_option maxHeartbeats 4000000
namespace PySem
namespace XBadLoom
open PySem.W PySem.Calls PyProof.Rows PySem.HandSPX PySem.Lw
def iA (p1 p2 : Pos) : Arguments := { posonlyargs := [], args := [{ arg := "self", annotation := none, pos := p1 }, { arg := "part", annotation := none, pos := p2 }], vararg := none, kwonlyargs := [], kw_defaults := [], kwarg := none, defaults := [] }
def iB (q1 q2 q3 q4 : Pos) : List Stmt := [.Assign [.Attribute (.Name "self" q1) "part" q2] (.Name "part" q3) q4]
def iS : Scope := { kind := .function, names := [(PySem.Str.ofString "self", .local), (PySem.Str.ofString "part", .local)], isGenerator := false, isCoroutine := false, more := [] }
/-- what the written part says of the class at C and of its __init__ at fI -/
structure Txt (K : Frag) (mg : Str → Option Value) (C fI : Addr) : Prop where
  gC : mg "BadLoom" = some (.ref C)
  ini : excInitIn K C exTail "Exception.__new__" = true
  ovr : excOver K C exTail = true
  sa : findIn K (.ref C) "__setattr__" = some (some (.builtin "object.__setattr__"))
  ga : findIn K (.ref C) "__getattribute__" = some (some (.builtin "BaseException.__getattribute__"))
  gg : findIn K (.ref C) "__getattr__" = some none
  noN : findIn K (.ref C) "part" = some none
  tkr : takerIn K C "part" = some none
  iC : findIn K (.ref C) "__init__" = some (some (.ref fI))
  tI : typeIn K (.ref fI) = some (.type "function")
  kC : keepIn K (.ref C) = true
  exC : subIn K (.ref C) (.type "BaseException") = some true
  tyC : typeIn K (.ref C) = some (.type "type")
  hdC : hasDictIn K C = true
  fn : ∃ (oc : Value) (od : Option Addr) (doc pm : Value) (an : Option Addr) (cdv ct : Value) (osl : Array (Option Value)) (p1 p2 q1 q2 q3 q4 : Pos),
    K.lookup fI = some ⟨oc, od, .func (fnOf "__init__" "BadLoom.__init__" (iA p1 p2) (iB q1 q2 q3 q4) iS .none .none doc pm an cdv ct), osl⟩ ∧ codeIn K cdv "BadLoom.__init__" = true
section
variable {prog : Program} {w : World} {A : Around} {E : Value → Shared → Prop} {R : Result → Shared → Prop} {s : Shared} {K : Frag} {mg : Str → Option Value} {C fI : Addr}
theorem init_ok (T : Txt K mg C fI) {x t0 : Addr} {v : Value} (X : K.In s.heap) (hlim : s.heap.NoLimit) (hx : s.heap.get? x = some (excO C t0)) (hroom : A.depth < recursionLimit)
    (hq : ∀ h' tk dx, InitEnd "part" s.heap h' x C dx t0 v → R (.ok (.ret .none)) { s with heap := h', toks := tk }) :
    codeAny (model prog w) A (.call (.ref fI) ⟨[.ref x, v], []⟩) R s := by
  obtain ⟨oc, od, doc, pm, an, cdv, ct, osl, p1, p2, q1, q2, q3, q4, ho, hcd⟩ := T.fn
  refine Att.call_fn (binds := [("self", .ref x), ("part", v)]) X hlim ho hcd hroom (BindsTo.of_eq (by first | rfl | with_unfolding_all rfl)) (by first | rfl | decide | with_unfolding_all rfl) (fun s1 IC => ?_) rfl rfl rfl
  obtain ⟨h1, tk1, rfl⟩ := IC.toInCall.same
  have k : ∀ b o, s.heap.get? b = some o → h1.get? b = some o := IC.toInCall.keep
  have hn := IC.toInCall.ns
  have X1 : K.In h1 := X.keeps k
  have hx1 := k _ _ hx
  show wpAny _ _ (execs _ _) _ _ _
  refine wpAny_execs_cons (plainObj_wpAny_Assign_Attribute ?_)
  refine ldC (v := v) hn (by first | rfl | with_unfolding_all rfl | kernel_rfl) (ldC (v := .ref x) hn (by first | rfl | with_unfolding_all rfl | kernel_rfl) ?_)
  refine set_plain X1 (ox := excO C t0) (od := none) ⟨hx1, rfl, rfl, trivial⟩ T.sa ?_
  refine store_first X1 T.ovr T.hdC T.tkr hx1 (fun h3 tk3 dx k3 dn dne hx3 hn3 => ?_)
  show wpAny _ _ (execs _ _) _ _ _
  have z : s.heap.objs.size < h1.objs.size := hn.lt
  exact wpAny_execs_nil (hq h3 tk3 dx ⟨fun b o hb e => k3 b o hb (k b o e), hx3, Nat.le_of_lt (Nat.lt_of_lt_of_le z dn), dne, hn3⟩)
theorem made_ok (T : Txt K mg C fI) {v : Value} (X : K.In s.heap) (hlim : s.heap.NoLimit) (hroom : A.depth + 1 < recursionLimit)
    (hq : ∀ h' tk e d, OwnMade "part" s.heap h' e C d v → R (.ok (.ret (.ref e))) { s with heap := h', toks := tk }) :
    codeAny (model prog w) A (.call (.ref C) ⟨[v], []⟩) R s := by
  obtain ⟨nm, N, qn, bs, bm, hdct, sn, sub, ab, col, dd, k0, k1, k2, k3, k5, hC, hbm⟩ := excInit_of X T.ini
  obtain ⟨hp, g, dr, tk, os⟩ := s
  refine call_own PySem.F.excBase_Exception hbm hC (looks_findIn X T.iC) (fun self => bind_fn X self T.tI) (one_size v) ?_
  have k : ∀ b o, hp.get? b = some o → ((hp.push (kdv_tup [v])).push (excO C hp.objs.size)).get? b = some o := fun b o e => Heap.get?_push_of_some _ (Heap.get?_push_of_some _ e)
  have hget : ((hp.push (kdv_tup [v])).push (excO C hp.objs.size)).get? (hp.objs.size + 1) = some (excO C hp.objs.size) := by heap_get
  refine init_ok (s := ⟨(hp.push (kdv_tup [v])).push (excO C hp.objs.size), g, dr, tk, os⟩) T (X.keeps k) (hlim.keeps k) hget ?_ fun h' tk' dx I => ?_
  · show A.depth + 1 < recursionLimit
    exact hroom
  · exact ⟨rfl, hq h' tk' (hp.objs.size + 1) dx (OwnMade.of I k)⟩
end
end XBadLoom
end PySem
namespace L2
open PySem PySem.Spec PyProof.Rows
section
variable {X : Cx} {C fI : Addr}
theorem pmk_BadLoom {a : Expr} {ta : TA} {p pos : Pos} {k : Nat} (T : PySem.XBadLoom.Txt X.K X.mg C fI) (hr : Room k X.A) (ha : PA X [a] ta) (hg : Gl X "BadLoom" := by rfl)
    (he : starEach (a :: []) X.env = (false, eval a X.env) :: starEach [] X.env := by rfl) (hpl : (backTo pos (starEach [] X.env)).any (·.1) = false := by rfl) :
    PMk X (.Call (.Name "BadLoom" p) [a] [] pos) (tMk1 "part" C ta) := by
  intro pins s σ H Q I h
  refine wpAny_Call_Name_kw (ld_glob I hg T.gC ?_)
  refine PySem.W.callWith_K (h₀ := X.base) I.ok.mod.kin T.kC (thn (ha.run pos pins s σ H _ I h) fun us s1 hh => ?_) he hpl
  obtain ⟨vs, H1, I1, r1, v, ev, q1⟩ := hh
  subst ev
  refine ⟨I1.kIn, ?_⟩
  cases r1 with
  | cons rv rn =>
    rename_i v' us'
    cases rn
    show wpAny _ _ (call (.ref C) [v']) _ _ _
    have hlim := I1.nolimit
    obtain ⟨hp, g, dr, tk, os⟩ := s1
    refine wpAny_call (PySem.XBadLoom.made_ok T I1.kIn hlim (by have := hr.dp; omega) fun h' tk' e d M => ?_)
    exact mk1_of I1 (raises_own T.exC T.tyC) rv M q1
theorem ps_raiseBadLoom {a : Expr} {ta : TA} {W : WX} {p pos pos2 : Pos} {k : Nat} (hc : X.calm = true) (T : PySem.XBadLoom.Txt X.K X.mg C fI) (hr : Room k X.A) (tk : Takes X W) (ha : PA X [a] ta) (hg : Gl X "BadLoom" := by rfl)
    (he : starEach (a :: []) X.env = (false, eval a X.env) :: starEach [] X.env := by rfl) (hpl : (backTo pos (starEach [] X.env)).any (·.1) = false := by rfl) :
    PS X (.Raise (some (.Call (.Name "BadLoom" p) [a] [] pos)) none pos2) (tRaise1 "part" C W ta) := ps_raise hc tk (pmk_BadLoom T hr ha hg he hpl)
theorem xfc_BadLoom {K : PySem.W.Frag} {mg : Str → Option Value} (T : PySem.XBadLoom.Txt K mg C fI) : XfC K C := ⟨T.ga, T.gg, T.exC, T.hdC⟩
end
end L2
set_option Elab.async false
set_option linter.all false
set_option maxRecDepth 100000
set_option maxHeartbeats 4000000
namespace C01
open PySem PySem.Spec L2 DL
open PySem.W (Frag)
def top (i : Nat) : Stmt := PySem.Challenge.pw_loomhold_k01_looms_of_any_value.main.body.getD i (.Pass ⟨0, 0, 0, 0⟩)
abbrev st_is_int : Stmt := top 6
abbrev st_is_number_below : Stmt := top 7
abbrev st_is_ascending : Stmt := top 8
abbrev st_is_tuple_below : Stmt := top 9
abbrev st_is_string_over : Stmt := top 10
abbrev st_is_shaft_count : Stmt := top 20
abbrev st_is_threading : Stmt := top 21
abbrev st_is_treadling : Stmt := top 27
abbrev st__law_deck : Stmt := top 29
abbrev st__law_draw : Stmt := top 30
abbrev st__law_pick : Stmt := top 31
abbrev st__law_part : Stmt := top 32
abbrev st__law_loom : Stmt := top 33
abbrev st__law_signs : Stmt := top 34
abbrev st__law_odd : Stmt := top 35
abbrev st__law_bent : Stmt := top 36
abbrev st__law_is_whole : Stmt := top 37
abbrev st__law_is_lot : Stmt := top 38
abbrev st__law_great : Stmt := top 39
abbrev st__law_bad : Stmt := top 40
abbrev st__law_built : Stmt := top 41
abbrev st__law_right : Stmt := top 42
abbrev st__law_code : Stmt := top 43
abbrev st__law_others_right : Stmt := top 44
abbrev st_law : Stmt := top 45
abbrev st_Loom___init__ : Stmt := inClass (top 19) 0
abbrev st_Loom___len__ : Stmt := inClass (top 19) 1
abbrev st_Loom___eq__ : Stmt := inClass (top 19) 2
abbrev st_Loom_lift_of : Stmt := inClass (top 19) 5
abbrev st_Loom_with_lift : Stmt := inClass (top 19) 6
abbrev st_Loom_threaded : Stmt := inClass (top 19) 7
theorem sc_is_int : FnScope ["thing"] ["thing"] (defScope st_is_int) := ⟨rfl, rfl, rfl, by decide +kernel, rfl, by decide +kernel, by decide +kernel⟩
theorem sc_is_number_below : FnScope ["thing", "limit"] ["thing", "limit"] (defScope st_is_number_below) := ⟨rfl, rfl, rfl, by decide +kernel, rfl, by decide +kernel, by decide +kernel⟩
theorem sc_is_ascending : FnScope ["row", "one", "other"] ["row"] (defScope st_is_ascending) := ⟨rfl, rfl, rfl, by decide +kernel, rfl, by decide +kernel, by decide +kernel⟩
theorem sc_is_tuple_below : FnScope ["thing", "limit", "item"] ["thing", "limit"] (defScope st_is_tuple_below) := ⟨rfl, rfl, rfl, by decide +kernel, rfl, by decide +kernel, by decide +kernel⟩
theorem sc_is_string_over : FnScope ["thing", "signs", "sign"] ["thing", "signs"] (defScope st_is_string_over) := ⟨rfl, rfl, rfl, by decide +kernel, rfl, by decide +kernel, by decide +kernel⟩
theorem sc_is_shaft_count : FnScope ["thing"] ["thing"] (defScope st_is_shaft_count) := ⟨rfl, rfl, rfl, by decide +kernel, rfl, by decide +kernel, by decide +kernel⟩
theorem sc_is_threading : FnScope ["thing", "shafts", "item"] ["thing", "shafts"] (defScope st_is_threading) := ⟨rfl, rfl, rfl, by decide +kernel, rfl, by decide +kernel, by decide +kernel⟩
theorem sc_is_treadling : FnScope ["loom", "thing"] ["loom", "thing"] (defScope st_is_treadling) := ⟨rfl, rfl, rfl, by decide +kernel, rfl, by decide +kernel, by decide +kernel⟩
theorem sc__law_deck : FnScope ["_law_script", "_law_cells", "_law_mixed", "_law_cell"] ["_law_script"] (defScope st__law_deck) := ⟨rfl, rfl, rfl, by decide +kernel, rfl, by decide +kernel, by decide +kernel⟩
theorem sc__law_draw : FnScope ["_law_deck_here", "_law_below", "_law_turn_now", "_law_figure", "_law_cell"] ["_law_deck_here", "_law_below"] (defScope st__law_draw) := ⟨rfl, rfl, rfl, by decide +kernel, rfl, by decide +kernel, by decide +kernel⟩
theorem sc__law_pick : FnScope ["_law_deck_here", "_law_some"] ["_law_deck_here", "_law_some"] (defScope st__law_pick) := ⟨rfl, rfl, rfl, by decide +kernel, rfl, by decide +kernel, by decide +kernel⟩
theorem sc__law_part : FnScope ["_law_deck_here", "_law_some", "_law_often", "_law_it"] ["_law_deck_here", "_law_some", "_law_often"] (defScope st__law_part) := ⟨rfl, rfl, rfl, by decide +kernel, rfl, by decide +kernel, by decide +kernel⟩
theorem sc__law_loom : FnScope ["_law_deck_here", "_law_count", "_law_lots", "_law_top", "_law_own", "_law_is_upper", "_law_is_flat", "_law_k", "_law_s", "_law_kept", "_law_ends_now", "_law_is_whole_here", "_law_thread"] ["_law_deck_here"] (defScope st__law_loom) := ⟨rfl, rfl, rfl, by decide +kernel, rfl, by decide +kernel, by decide +kernel⟩
theorem sc__law_signs : FnScope ["_law_w"] ["_law_w"] (defScope st__law_signs) := ⟨rfl, rfl, rfl, by decide +kernel, rfl, by decide +kernel, by decide +kernel⟩
theorem sc__law_odd : FnScope ["_law_deck_here", "_law_it", "_law_some"] ["_law_deck_here", "_law_it"] (defScope st__law_odd) := ⟨rfl, rfl, rfl, by decide +kernel, rfl, by decide +kernel, by decide +kernel⟩
theorem sc__law_bent : FnScope ["_law_deck_here", "_law_it", "_law_deep", "_law_at"] ["_law_deck_here", "_law_it", "_law_deep"] (defScope st__law_bent) := ⟨rfl, rfl, rfl, by decide +kernel, rfl, by decide +kernel, by decide +kernel⟩
theorem sc__law_is_whole : FnScope ["_law_it", "_law_least", "_law_greatest"] ["_law_it", "_law_least", "_law_greatest"] (defScope st__law_is_whole) := ⟨rfl, rfl, rfl, by decide +kernel, rfl, by decide +kernel, by decide +kernel⟩
theorem sc__law_is_lot : FnScope ["_law_it", "_law_greatest", "_law_n", "_law_k"] ["_law_it", "_law_greatest"] (defScope st__law_is_lot) := ⟨rfl, rfl, rfl, by decide +kernel, rfl, by decide +kernel, by decide +kernel⟩
theorem sc__law_great : FnScope ["_law_deck_here", "_law_count", "_law_thread", "_law_k", "_law_lots"] ["_law_deck_here"] (defScope st__law_great) := ⟨rfl, rfl, rfl, by decide +kernel, rfl, by decide +kernel, by decide +kernel⟩
theorem sc__law_bad : FnScope ["_law_parts_now", "_law_count", "_law_thread", "_law_lots", "_law_s", "_law_odd_here", "_law_k", "_law_lot"] ["_law_parts_now"] (defScope st__law_bad) := ⟨rfl, rfl, rfl, by decide +kernel, rfl, by decide +kernel, by decide +kernel⟩
theorem sc__law_built : FnScope ["_law_parts_now", "_law_is_named", "_law_count", "_law_thread", "_law_lots", "_law_found", "_law_named", "_law_code_here", "e"] ["_law_parts_now", "_law_is_named"] (defScope st__law_built) := ⟨rfl, rfl, rfl, by decide +kernel, rfl, by decide +kernel, by decide +kernel⟩
theorem sc__law_right : FnScope ["_law_parts_now", "_law_wrong", "_law_was", "_law_due", "_law_signs_here", "_law_told"] ["_law_parts_now"] (defScope st__law_right) := ⟨rfl, rfl, rfl, by decide +kernel, rfl, by decide +kernel, by decide +kernel⟩
theorem sc__law_code : FnScope ["_law_w"] ["_law_w"] (defScope st__law_code) := ⟨rfl, rfl, rfl, by decide +kernel, rfl, by decide +kernel, by decide +kernel⟩
theorem sc__law_others_right : FnScope ["_law_deck_here", "_law_w", "_law_code_here", "_law_signs_here", "_law_sign", "_law_at", "_law_lot", "_law_thread", "_law_k", "_law_far", "_law_odd_here", "_law_told", "_law_it", "_law_some", "_law_due", "_law_x"] ["_law_deck_here", "_law_w"] (defScope st__law_others_right) := ⟨rfl, rfl, rfl, by decide +kernel, rfl, by decide +kernel, by decide +kernel⟩
theorem sc_law : FnScope ["_law_script", "_law_deck_here", "_law_go", "_law_w", "_law_parts_now", "_law_turn", "_law_bent_here", "_law_more", "_law_some", "_law_it"] ["_law_script"] (defScope st_law) := ⟨rfl, rfl, rfl, by decide +kernel, rfl, by decide +kernel, by decide +kernel⟩
theorem sc_Loom___init__ : FnScope ["self", "shafts", "threading", "lifts", "number", "lift"] ["self", "shafts", "threading", "lifts"] (defScope st_Loom___init__) := ⟨rfl, rfl, rfl, by decide +kernel, rfl, by decide +kernel, by decide +kernel⟩
theorem sc_Loom___len__ : FnScope ["self"] ["self"] (defScope st_Loom___len__) := ⟨rfl, rfl, rfl, by decide +kernel, rfl, by decide +kernel, by decide +kernel⟩
theorem sc_Loom___eq__ : FnScope ["self", "other"] ["self", "other"] (defScope st_Loom___eq__) := ⟨rfl, rfl, rfl, by decide +kernel, rfl, by decide +kernel, by decide +kernel⟩
theorem sc_Loom_lift_of : FnScope ["self", "letter"] ["self", "letter"] (defScope st_Loom_lift_of) := ⟨rfl, rfl, rfl, by decide +kernel, rfl, by decide +kernel, by decide +kernel⟩
theorem sc_Loom_with_lift : FnScope ["self", "letter", "lift", "place"] ["self", "letter", "lift"] (defScope st_Loom_with_lift) := ⟨rfl, rfl, rfl, by decide +kernel, rfl, by decide +kernel, by decide +kernel⟩
theorem sc_Loom_threaded : FnScope ["self", "threading"] ["self", "threading"] (defScope st_Loom_threaded) := ⟨rfl, rfl, rfl, by decide +kernel, rfl, by decide +kernel, by decide +kernel⟩
structure Adr where
  f_is_int : Addr
  fd_is_int : FuncData
  f_is_number_below : Addr
  fd_is_number_below : FuncData
  f_is_ascending : Addr
  fd_is_ascending : FuncData
  f_is_tuple_below : Addr
  fd_is_tuple_below : FuncData
  f_is_string_over : Addr
  fd_is_string_over : FuncData
  f_is_shaft_count : Addr
  fd_is_shaft_count : FuncData
  f_is_threading : Addr
  fd_is_threading : FuncData
  f_is_treadling : Addr
  fd_is_treadling : FuncData
  f__law_deck : Addr
  fd__law_deck : FuncData
  f__law_draw : Addr
  fd__law_draw : FuncData
  f__law_pick : Addr
  fd__law_pick : FuncData
  f__law_part : Addr
  fd__law_part : FuncData
  f__law_loom : Addr
  fd__law_loom : FuncData
  f__law_signs : Addr
  fd__law_signs : FuncData
  f__law_odd : Addr
  fd__law_odd : FuncData
  f__law_bent : Addr
  fd__law_bent : FuncData
  f__law_is_whole : Addr
  fd__law_is_whole : FuncData
  f__law_is_lot : Addr
  fd__law_is_lot : FuncData
  f__law_great : Addr
  fd__law_great : FuncData
  f__law_bad : Addr
  fd__law_bad : FuncData
  f__law_built : Addr
  fd__law_built : FuncData
  f__law_right : Addr
  fd__law_right : FuncData
  f__law_code : Addr
  fd__law_code : FuncData
  f__law_others_right : Addr
  fd__law_others_right : FuncData
  f_law : Addr
  fd_law : FuncData
  f_Loom___init__ : Addr
  fd_Loom___init__ : FuncData
  f_Loom___len__ : Addr
  fd_Loom___len__ : FuncData
  f_Loom___eq__ : Addr
  fd_Loom___eq__ : FuncData
  f_Loom_lift_of : Addr
  fd_Loom_lift_of : FuncData
  f_Loom_with_lift : Addr
  fd_Loom_with_lift : FuncData
  f_Loom_threaded : Addr
  fd_Loom_threaded : FuncData
  i_BadLoom : Addr
  i_BadText : Addr
  t_LETTERS : Tok
  t_MOST_SHAFTS : Tok
structure Txt (K : Frag) (cl : String → Addr) (mg : Str → Option Value) (A : Adr) : Prop where
  F_is_int : Fun K "is_int" "is_int" st_is_int A.f_is_int A.fd_is_int
  m_is_int : mg "is_int" = some (.ref A.f_is_int)
  F_is_number_below : Fun K "is_number_below" "is_number_below" st_is_number_below A.f_is_number_below A.fd_is_number_below
  m_is_number_below : mg "is_number_below" = some (.ref A.f_is_number_below)
  F_is_ascending : Fun K "is_ascending" "is_ascending" st_is_ascending A.f_is_ascending A.fd_is_ascending
  m_is_ascending : mg "is_ascending" = some (.ref A.f_is_ascending)
  F_is_tuple_below : Fun K "is_tuple_below" "is_tuple_below" st_is_tuple_below A.f_is_tuple_below A.fd_is_tuple_below
  m_is_tuple_below : mg "is_tuple_below" = some (.ref A.f_is_tuple_below)
  F_is_string_over : Fun K "is_string_over" "is_string_over" st_is_string_over A.f_is_string_over A.fd_is_string_over
  m_is_string_over : mg "is_string_over" = some (.ref A.f_is_string_over)
  F_is_shaft_count : Fun K "is_shaft_count" "is_shaft_count" st_is_shaft_count A.f_is_shaft_count A.fd_is_shaft_count
  m_is_shaft_count : mg "is_shaft_count" = some (.ref A.f_is_shaft_count)
  F_is_threading : Fun K "is_threading" "is_threading" st_is_threading A.f_is_threading A.fd_is_threading
  m_is_threading : mg "is_threading" = some (.ref A.f_is_threading)
  F_is_treadling : Fun K "is_treadling" "is_treadling" st_is_treadling A.f_is_treadling A.fd_is_treadling
  m_is_treadling : mg "is_treadling" = some (.ref A.f_is_treadling)
  F__law_deck : Fun K "_law_deck" "_law_deck" st__law_deck A.f__law_deck A.fd__law_deck
  m__law_deck : mg "_law_deck" = some (.ref A.f__law_deck)
  F__law_draw : Fun K "_law_draw" "_law_draw" st__law_draw A.f__law_draw A.fd__law_draw
  m__law_draw : mg "_law_draw" = some (.ref A.f__law_draw)
  F__law_pick : Fun K "_law_pick" "_law_pick" st__law_pick A.f__law_pick A.fd__law_pick
  m__law_pick : mg "_law_pick" = some (.ref A.f__law_pick)
  F__law_part : Fun K "_law_part" "_law_part" st__law_part A.f__law_part A.fd__law_part
  m__law_part : mg "_law_part" = some (.ref A.f__law_part)
  F__law_loom : Fun K "_law_loom" "_law_loom" st__law_loom A.f__law_loom A.fd__law_loom
  m__law_loom : mg "_law_loom" = some (.ref A.f__law_loom)
  F__law_signs : Fun K "_law_signs" "_law_signs" st__law_signs A.f__law_signs A.fd__law_signs
  m__law_signs : mg "_law_signs" = some (.ref A.f__law_signs)
  F__law_odd : Fun K "_law_odd" "_law_odd" st__law_odd A.f__law_odd A.fd__law_odd
  m__law_odd : mg "_law_odd" = some (.ref A.f__law_odd)
  F__law_bent : Fun K "_law_bent" "_law_bent" st__law_bent A.f__law_bent A.fd__law_bent
  m__law_bent : mg "_law_bent" = some (.ref A.f__law_bent)
  F__law_is_whole : Fun K "_law_is_whole" "_law_is_whole" st__law_is_whole A.f__law_is_whole A.fd__law_is_whole
  m__law_is_whole : mg "_law_is_whole" = some (.ref A.f__law_is_whole)
  F__law_is_lot : Fun K "_law_is_lot" "_law_is_lot" st__law_is_lot A.f__law_is_lot A.fd__law_is_lot
  m__law_is_lot : mg "_law_is_lot" = some (.ref A.f__law_is_lot)
  F__law_great : Fun K "_law_great" "_law_great" st__law_great A.f__law_great A.fd__law_great
  m__law_great : mg "_law_great" = some (.ref A.f__law_great)
  F__law_bad : Fun K "_law_bad" "_law_bad" st__law_bad A.f__law_bad A.fd__law_bad
  m__law_bad : mg "_law_bad" = some (.ref A.f__law_bad)
  F__law_built : Fun K "_law_built" "_law_built" st__law_built A.f__law_built A.fd__law_built
  m__law_built : mg "_law_built" = some (.ref A.f__law_built)
  F__law_right : Fun K "_law_right" "_law_right" st__law_right A.f__law_right A.fd__law_right
  m__law_right : mg "_law_right" = some (.ref A.f__law_right)
  F__law_code : Fun K "_law_code" "_law_code" st__law_code A.f__law_code A.fd__law_code
  m__law_code : mg "_law_code" = some (.ref A.f__law_code)
  F__law_others_right : Fun K "_law_others_right" "_law_others_right" st__law_others_right A.f__law_others_right A.fd__law_others_right
  m__law_others_right : mg "_law_others_right" = some (.ref A.f__law_others_right)
  F_law : Fun K "law" "law" st_law A.f_law A.fd_law
  m_law : mg "law" = some (.ref A.f_law)
  F_Loom___init__ : Fun K "__init__" "Loom.__init__" st_Loom___init__ A.f_Loom___init__ A.fd_Loom___init__
  F_Loom___len__ : Fun K "__len__" "Loom.__len__" st_Loom___len__ A.f_Loom___len__ A.fd_Loom___len__
  F_Loom___eq__ : Fun K "__eq__" "Loom.__eq__" st_Loom___eq__ A.f_Loom___eq__ A.fd_Loom___eq__
  F_Loom_lift_of : Fun K "lift_of" "Loom.lift_of" st_Loom_lift_of A.f_Loom_lift_of A.fd_Loom_lift_of
  F_Loom_with_lift : Fun K "with_lift" "Loom.with_lift" st_Loom_with_lift A.f_Loom_with_lift A.fd_Loom_with_lift
  F_Loom_threaded : Fun K "threaded" "Loom.threaded" st_Loom_threaded A.f_Loom_threaded A.fd_Loom_threaded
  n_all : mg "all" = none
  n_bool : mg "bool" = none
  n_dict : mg "dict" = none
  n_enumerate : mg "enumerate" = none
  n_int : mg "int" = none
  n_isinstance : mg "isinstance" = none
  n_len : mg "len" = none
  n_list : mg "list" = none
  n_range : mg "range" = none
  n_repr : mg "repr" = none
  n_set : mg "set" = none
  n_sorted : mg "sorted" = none
  n_str : mg "str" = none
  n_sum : mg "sum" = none
  n_tuple : mg "tuple" = none
  n_zip : mg "zip" = none
  c_LETTERS : mg "LETTERS" = some (.str "abcdefghijklmnopqrstuvwxyz" A.t_LETTERS)
  c_MOST_SHAFTS : mg "MOST_SHAFTS" = some (.int 99 A.t_MOST_SHAFTS)
  g_LoomError : mg "LoomError" = some (.ref (cl "LoomError"))
  g_BadLoom : mg "BadLoom" = some (.ref (cl "BadLoom"))
  x_BadLoom : PySem.XBadLoom.Txt K mg (cl "BadLoom") A.i_BadLoom
  e_BadLoom : ExcC K (cl "BadLoom")
  ki_BadLoom : PySem.W.kitOne K (.ref (cl "BadLoom")) (.ref (cl "LoomError")) = some true
  te_BadLoom_BadLoom : PySem.W.exmOne K (.ref (cl "BadLoom")) (.ref (cl "BadLoom")) = some true
  te_BadLoom_BadText : PySem.W.exmOne K (.ref (cl "BadLoom")) (.ref (cl "BadText")) = some false
  g_BadText : mg "BadText" = some (.ref (cl "BadText"))
  x_BadText : PySem.XBadText.Txt K mg (cl "BadText") A.i_BadText
  e_BadText : ExcC K (cl "BadText")
  ki_BadText : PySem.W.kitOne K (.ref (cl "BadText")) (.ref (cl "LoomError")) = some true
  te_BadText_BadLoom : PySem.W.exmOne K (.ref (cl "BadText")) (.ref (cl "BadLoom")) = some false
  te_BadText_BadText : PySem.W.exmOne K (.ref (cl "BadText")) (.ref (cl "BadText")) = some true
  g_Loom : mg "Loom" = some (.ref (cl "Loom"))
  oc_Loom : OwnC K (cl "Loom")
  mk_Loom : Mk K (cl "Loom") A.f_Loom___init__
  na_Loom_shafts : NoAttr K (cl "Loom") "shafts"
  na_Loom_threading : NoAttr K (cl "Loom") "threading"
  na_Loom_lifts : NoAttr K (cl "Loom") "lifts"
  na_Loom_letters : NoAttr K (cl "Loom") "letters"
  na_Loom_used : NoAttr K (cl "Loom") "used"
  s_Loom___len__ : PySem.W.findIn K (.ref (cl "Loom")) "__len__" = some (some (.ref A.f_Loom___len__))
  fn_Loom___len__ : PySem.W.isFn K (.ref A.f_Loom___len__) = true
  s_Loom___eq__ : PySem.W.findIn K (.ref (cl "Loom")) "__eq__" = some (some (.ref A.f_Loom___eq__))
  fn_Loom___eq__ : PySem.W.isFn K (.ref A.f_Loom___eq__) = true
  me_Loom_lift_of : Meth K (cl "Loom") "lift_of" A.f_Loom_lift_of
  me_Loom_with_lift : Meth K (cl "Loom") "with_lift" A.f_Loom_with_lift
  me_Loom_threaded : Meth K (cl "Loom") "threaded" A.f_Loom_threaded
  ne_Loom : PySem.W.findIn K (.ref (cl "Loom")) "__ne__" = some (some (.builtin "object.__ne__"))
  so_Loom : PySem.W.subIn K (.ref (cl "Loom")) (.type "object") = some true
abbrev OWN : List String := ["Loom"]
abbrev gg (K : Frag) (cl : String → Addr) (dk : Addr) : G := ⟨K, cl, OWN, dk⟩
section
variable {P : Program} {w : World} {K : Frag} {cl : String → Addr} {dk : Addr} {mg : Str → Option Value} {base : Heap} {A : Adr}
theorem Txt.own (T : Txt K cl mg A) : OwnAll (gg K cl dk) := fun c hc => by
  have hc' : c = "Loom" := by simpa using hc
  subst hc'; exact T.oc_Loom
theorem Txt.sub_Loom (T : Txt K cl mg A) : SubNo (gg K cl dk) "Loom" := fun c hc hne => by
  have hc' : c = "Loom" := by simpa using hc
  exact absurd hc' hne
theorem Txt.nas_Loom_shafts (T : Txt K cl mg A) : ∀ c ∈ ["Loom"], NoAttr (gg K cl dk).K ((gg K cl dk).cl c) "shafts" := fun c hc => by
  obtain rfl := List.mem_singleton.mp hc
  exact T.na_Loom_shafts
theorem Txt.nas_Loom_threading (T : Txt K cl mg A) : ∀ c ∈ ["Loom"], NoAttr (gg K cl dk).K ((gg K cl dk).cl c) "threading" := fun c hc => by
  obtain rfl := List.mem_singleton.mp hc
  exact T.na_Loom_threading
theorem Txt.nas_Loom_lifts (T : Txt K cl mg A) : ∀ c ∈ ["Loom"], NoAttr (gg K cl dk).K ((gg K cl dk).cl c) "lifts" := fun c hc => by
  obtain rfl := List.mem_singleton.mp hc
  exact T.na_Loom_lifts
theorem Txt.nas_Loom_letters (T : Txt K cl mg A) : ∀ c ∈ ["Loom"], NoAttr (gg K cl dk).K ((gg K cl dk).cl c) "letters" := fun c hc => by
  obtain rfl := List.mem_singleton.mp hc
  exact T.na_Loom_letters
theorem Txt.nas_Loom_used (T : Txt K cl mg A) : ∀ c ∈ ["Loom"], NoAttr (gg K cl dk).K ((gg K cl dk).cl c) "used" := fun c hc => by
  obtain rfl := List.mem_singleton.mp hc
  exact T.na_Loom_used
theorem Txt.b_is_int (T : Txt K cl mg A) : Binds K A.fd_is_int ["thing"] [] := T.F_is_int.binds (ps := ["thing"]) fun _ _ _ _ _ _ us hl => match us, hl with | [_], _ => rfl
theorem Txt.b_is_number_below (T : Txt K cl mg A) : Binds K A.fd_is_number_below ["thing", "limit"] [] := T.F_is_number_below.binds (ps := ["thing", "limit"]) fun _ _ _ _ _ _ us hl => match us, hl with | [_, _], _ => rfl
theorem Txt.b_is_ascending (T : Txt K cl mg A) : Binds K A.fd_is_ascending ["row"] [] := T.F_is_ascending.binds (ps := ["row"]) fun _ _ _ _ _ _ us hl => match us, hl with | [_], _ => rfl
theorem Txt.b_is_tuple_below (T : Txt K cl mg A) : Binds K A.fd_is_tuple_below ["thing", "limit"] [] := T.F_is_tuple_below.binds (ps := ["thing", "limit"]) fun _ _ _ _ _ _ us hl => match us, hl with | [_, _], _ => rfl
theorem Txt.b_is_string_over (T : Txt K cl mg A) : Binds K A.fd_is_string_over ["thing", "signs"] [] := T.F_is_string_over.binds (ps := ["thing", "signs"]) fun _ _ _ _ _ _ us hl => match us, hl with | [_, _], _ => rfl
theorem Txt.b_is_shaft_count (T : Txt K cl mg A) : Binds K A.fd_is_shaft_count ["thing"] [] := T.F_is_shaft_count.binds (ps := ["thing"]) fun _ _ _ _ _ _ us hl => match us, hl with | [_], _ => rfl
theorem Txt.b_is_threading (T : Txt K cl mg A) : Binds K A.fd_is_threading ["thing", "shafts"] [] := T.F_is_threading.binds (ps := ["thing", "shafts"]) fun _ _ _ _ _ _ us hl => match us, hl with | [_, _], _ => rfl
theorem Txt.b_is_treadling (T : Txt K cl mg A) : Binds K A.fd_is_treadling ["loom", "thing"] [] := T.F_is_treadling.binds (ps := ["loom", "thing"]) fun _ _ _ _ _ _ us hl => match us, hl with | [_, _], _ => rfl
theorem Txt.b__law_deck (T : Txt K cl mg A) : Binds K A.fd__law_deck ["_law_script"] [] := T.F__law_deck.binds (ps := ["_law_script"]) fun _ _ _ _ _ _ us hl => match us, hl with | [_], _ => rfl
theorem Txt.b__law_draw (T : Txt K cl mg A) : Binds K A.fd__law_draw ["_law_deck_here", "_law_below"] [] := T.F__law_draw.binds (ps := ["_law_deck_here", "_law_below"]) fun _ _ _ _ _ _ us hl => match us, hl with | [_, _], _ => rfl
theorem Txt.b__law_pick (T : Txt K cl mg A) : Binds K A.fd__law_pick ["_law_deck_here", "_law_some"] [] := T.F__law_pick.binds (ps := ["_law_deck_here", "_law_some"]) fun _ _ _ _ _ _ us hl => match us, hl with | [_, _], _ => rfl
theorem Txt.b__law_part (T : Txt K cl mg A) : Binds K A.fd__law_part ["_law_deck_here", "_law_some", "_law_often"] [] := T.F__law_part.binds (ps := ["_law_deck_here", "_law_some", "_law_often"]) fun _ _ _ _ _ _ us hl => match us, hl with | [_, _, _], _ => rfl
theorem Txt.b__law_loom (T : Txt K cl mg A) : Binds K A.fd__law_loom ["_law_deck_here"] [] := T.F__law_loom.binds (ps := ["_law_deck_here"]) fun _ _ _ _ _ _ us hl => match us, hl with | [_], _ => rfl
theorem Txt.b__law_signs (T : Txt K cl mg A) : Binds K A.fd__law_signs ["_law_w"] [] := T.F__law_signs.binds (ps := ["_law_w"]) fun _ _ _ _ _ _ us hl => match us, hl with | [_], _ => rfl
theorem Txt.b__law_odd (T : Txt K cl mg A) : Binds K A.fd__law_odd ["_law_deck_here", "_law_it"] [] := T.F__law_odd.binds (ps := ["_law_deck_here", "_law_it"]) fun _ _ _ _ _ _ us hl => match us, hl with | [_, _], _ => rfl
theorem Txt.b__law_bent (T : Txt K cl mg A) : Binds K A.fd__law_bent ["_law_deck_here", "_law_it", "_law_deep"] [] := T.F__law_bent.binds (ps := ["_law_deck_here", "_law_it", "_law_deep"]) fun _ _ _ _ _ _ us hl => match us, hl with | [_, _, _], _ => rfl
theorem Txt.b__law_is_whole (T : Txt K cl mg A) : Binds K A.fd__law_is_whole ["_law_it", "_law_least", "_law_greatest"] [] := T.F__law_is_whole.binds (ps := ["_law_it", "_law_least", "_law_greatest"]) fun _ _ _ _ _ _ us hl => match us, hl with | [_, _, _], _ => rfl
theorem Txt.b__law_is_lot (T : Txt K cl mg A) : Binds K A.fd__law_is_lot ["_law_it", "_law_greatest"] [] := T.F__law_is_lot.binds (ps := ["_law_it", "_law_greatest"]) fun _ _ _ _ _ _ us hl => match us, hl with | [_, _], _ => rfl
theorem Txt.b__law_great (T : Txt K cl mg A) : Binds K A.fd__law_great ["_law_deck_here"] [] := T.F__law_great.binds (ps := ["_law_deck_here"]) fun _ _ _ _ _ _ us hl => match us, hl with | [_], _ => rfl
theorem Txt.b__law_bad (T : Txt K cl mg A) : Binds K A.fd__law_bad ["_law_parts_now"] [] := T.F__law_bad.binds (ps := ["_law_parts_now"]) fun _ _ _ _ _ _ us hl => match us, hl with | [_], _ => rfl
theorem Txt.b__law_built (T : Txt K cl mg A) : Binds K A.fd__law_built ["_law_parts_now", "_law_is_named"] [] := T.F__law_built.binds (ps := ["_law_parts_now", "_law_is_named"]) fun _ _ _ _ _ _ us hl => match us, hl with | [_, _], _ => rfl
theorem Txt.b__law_right (T : Txt K cl mg A) : Binds K A.fd__law_right ["_law_parts_now"] [] := T.F__law_right.binds (ps := ["_law_parts_now"]) fun _ _ _ _ _ _ us hl => match us, hl with | [_], _ => rfl
theorem Txt.b__law_code (T : Txt K cl mg A) : Binds K A.fd__law_code ["_law_w"] [] := T.F__law_code.binds (ps := ["_law_w"]) fun _ _ _ _ _ _ us hl => match us, hl with | [_], _ => rfl
theorem Txt.b__law_others_right (T : Txt K cl mg A) : Binds K A.fd__law_others_right ["_law_deck_here", "_law_w"] [] := T.F__law_others_right.binds (ps := ["_law_deck_here", "_law_w"]) fun _ _ _ _ _ _ us hl => match us, hl with | [_, _], _ => rfl
theorem Txt.b_law (T : Txt K cl mg A) : Binds K A.fd_law ["_law_script"] [] := T.F_law.binds (ps := ["_law_script"]) fun _ _ _ _ _ _ us hl => match us, hl with | [_], _ => rfl
theorem Txt.b_Loom___init__ (T : Txt K cl mg A) : Binds K A.fd_Loom___init__ ["self", "shafts", "threading", "lifts"] [] := T.F_Loom___init__.binds (ps := ["self", "shafts", "threading", "lifts"]) fun _ _ _ _ _ _ us hl => match us, hl with | [_, _, _, _], _ => rfl
theorem Txt.b_Loom___len__ (T : Txt K cl mg A) : Binds K A.fd_Loom___len__ ["self"] [] := T.F_Loom___len__.binds (ps := ["self"]) fun _ _ _ _ _ _ us hl => match us, hl with | [_], _ => rfl
theorem Txt.b_Loom___eq__ (T : Txt K cl mg A) : Binds K A.fd_Loom___eq__ ["self", "other"] [] := T.F_Loom___eq__.binds (ps := ["self", "other"]) fun _ _ _ _ _ _ us hl => match us, hl with | [_, _], _ => rfl
theorem Txt.b_Loom_lift_of (T : Txt K cl mg A) : Binds K A.fd_Loom_lift_of ["self", "letter"] [] := T.F_Loom_lift_of.binds (ps := ["self", "letter"]) fun _ _ _ _ _ _ us hl => match us, hl with | [_, _], _ => rfl
theorem Txt.b_Loom_with_lift (T : Txt K cl mg A) : Binds K A.fd_Loom_with_lift ["self", "letter", "lift"] [] := T.F_Loom_with_lift.binds (ps := ["self", "letter", "lift"]) fun _ _ _ _ _ _ us hl => match us, hl with | [_, _, _], _ => rfl
theorem Txt.b_Loom_threaded (T : Txt K cl mg A) : Binds K A.fd_Loom_threaded ["self", "threading"] [] := T.F_Loom_threaded.binds (ps := ["self", "threading"]) fun _ _ _ _ _ _ us hl => match us, hl with | [_, _], _ => rfl
theorem Txt.kbo_Loom___init___lifts_shafts_threading (T : Txt K cl mg A) : KBinds K A.fd_Loom___init__ ["self", "shafts", "threading", "lifts"] ["lifts", "shafts", "threading"] (ord 1 3 (0 :: [1, 2, 0].map (· + 1))) (ord 1 3 (0 :: [1, 2, 0].map (· + 1))) := by
  obtain ⟨oc, od, kV, doc, pm, an, cdv, ct, osl, e, lk, hcd⟩ := T.F_Loom___init__.ex
  rw [e]
  exact kb_ord (m := 1) (j := 3) (ix := [0, 2, 3, 1]) (by decide) fun s us ws _ h1 h2 => match us, ws, h1, h2 with | [_], [_, _, _], _, _ => .of_eq rfl
theorem Txt.kbo_Loom_lift_of_letter (T : Txt K cl mg A) : KBinds K A.fd_Loom_lift_of ["self", "letter"] ["letter"] (ord 1 1 (0 :: [0].map (· + 1))) (ord 1 1 (0 :: [0].map (· + 1))) := by
  obtain ⟨oc, od, kV, doc, pm, an, cdv, ct, osl, e, lk, hcd⟩ := T.F_Loom_lift_of.ex
  rw [e]
  exact kb_ord (m := 1) (j := 1) (ix := [0, 1]) (by decide) fun s us ws _ h1 h2 => match us, ws, h1, h2 with | [_], [_], _, _ => .of_eq rfl
theorem Txt.kbo_Loom_with_lift_lift_letter (T : Txt K cl mg A) : KBinds K A.fd_Loom_with_lift ["self", "letter", "lift"] ["lift", "letter"] (ord 1 2 (0 :: [1, 0].map (· + 1))) (ord 1 2 (0 :: [1, 0].map (· + 1))) := by
  obtain ⟨oc, od, kV, doc, pm, an, cdv, ct, osl, e, lk, hcd⟩ := T.F_Loom_with_lift.ex
  rw [e]
  exact kb_ord (m := 1) (j := 2) (ix := [0, 2, 1]) (by decide) fun s us ws _ h1 h2 => match us, ws, h1, h2 with | [_], [_, _], _, _ => .of_eq rfl
theorem Txt.kbo_Loom_threaded_threading (T : Txt K cl mg A) : KBinds K A.fd_Loom_threaded ["self", "threading"] ["threading"] (ord 1 1 (0 :: [0].map (· + 1))) (ord 1 1 (0 :: [0].map (· + 1))) := by
  obtain ⟨oc, od, kV, doc, pm, an, cdv, ct, osl, e, lk, hcd⟩ := T.F_Loom_threaded.ex
  rw [e]
  exact kb_ord (m := 1) (j := 1) (ix := [0, 1]) (by decide) fun s us ws _ h1 h2 => match us, ws, h1, h2 with | [_], [_], _, _ => .of_eq rfl
theorem Txt.kb_is_treadling_0_thing_loom (T : Txt K cl mg A) : KBinds K A.fd_is_treadling ["loom", "thing"] ["thing", "loom"] (ord 0 2 [1, 0]) (ord 0 2 [1, 0]) := by
  obtain ⟨oc, od, kV, doc, pm, an, cdv, ct, osl, e, lk, hcd⟩ := T.F_is_treadling.ex
  rw [e]
  exact kb_ord (m := 0) (j := 2) (ix := [1, 0]) (by decide) fun s us ws _ h1 h2 => match us, ws, h1, h2 with | [], [_, _], _, _ => .of_eq rfl
end
end C01
set_option Elab.async false
set_option linter.all false
set_option maxRecDepth 100000
set_option maxHeartbeats 4000000
namespace C01
open PySem PySem.Spec L2 DL
open PySem.W (Frag)

section
variable {P : Program} {w : World} {K : Frag} {cl : String → Addr} {dk : Addr} {mg : Str → Option Value} {base : Heap} {A : Adr}
abbrev C0 : Int := 311
def n__law_draw : Fn := drawF C0
abbrev drawTail : TS := tSeq (tAsg (tOp rMd (tOp rMl (tCB rNt (tCons (tOp rAd (tOp rAd (tOp rMd (tCB rNt (tCons (tVar 3) tNil)) (tC (V.int 2147483629))) (tOp rMl (tOp rMl (tC (V.int 60623)) (tVar 2)) (tVar 2))) (tC (V.int 311))) tNil)) (tC (V.int 40692))) (tC (V.int 2147483647))) (gName 3))
  (tSeq (tAsg (tOp rMd (tCB rNt (tCons (tOp rAd (tOp rAd (tOp rMl (tVar 3) (tVar 3)) (tOp rMl (tC (V.int 69621)) (tVar 2))) (tC (V.int 311))) tNil)) (tC (V.int 2147483579))) (gName 3))
    (tRet (tOp rMd (tOp (rI CDivN fun i j => V.int (i.fdiv j)) (tOp rMd (tCB rNt (tCons (tOp rMl (tVar 3) (tC (V.int 39373))) tNil)) (tC (V.int 2147483549))) (tC (V.int 64))) (tVar 1))))
theorem draw_tail {a c : Option V} {j t F : Int} {D : Ends} {H : Hp} {σ : L2.St} (hσ : σ = [a, some (.int j), some (.int t), some (.int F), c]) (hj : 0 < j) (ht : 0 ≤ t ∧ t < 18446744073709551616) (h : D.rt (.int (tailR C0 t F j)) H) : drawTail D σ H := by
  subst hσ
  refine ⟨_, rfl, .inl ⟨_, rfl, ?_⟩⟩
  refine ⟨_, _, rfl, rfl, (by decide : (0 : Int) < 2147483629), ?_⟩
  refine ⟨_, rfl, _, _, rfl, rfl, cmulL (by decide), ?_⟩
  refine ⟨_, rfl, _, _, rfl, rfl, cmulR ht, ?_⟩
  refine ⟨_, _, rfl, rfl, ?_⟩
  refine ⟨_, _, rfl, rfl, .inl ⟨_, rfl, ?_⟩⟩
  refine ⟨_, _, rfl, rfl, cmulR (by decide), ?_⟩
  refine ⟨_, _, rfl, rfl, (by decide : (0 : Int) < 2147483647), ?_⟩
  refine ⟨_, rfl, _, rfl, _, _, rfl, rfl, cmulL ⟨(md_lt _ (by decide)).1, Int.lt_trans (md_lt _ (by decide)).2 (by decide)⟩, ?_⟩
  refine ⟨_, rfl, _, _, rfl, rfl, cmulL (by decide), ?_⟩
  refine ⟨_, _, rfl, rfl, ?_⟩
  refine ⟨_, _, rfl, rfl, .inl ⟨_, rfl, ?_⟩⟩
  refine ⟨_, _, rfl, rfl, (by decide : (0 : Int) < 2147483579), ?_⟩
  refine ⟨_, rfl, _, _, rfl, rfl, cmulR (by decide), .inl ⟨_, rfl, ?_⟩⟩
  refine ⟨_, _, rfl, rfl, (by decide : (0 : Int) < 2147483549), ?_⟩
  refine ⟨_, _, rfl, rfl, ⟨by decide, by decide⟩, ?_⟩
  refine ⟨_, rfl, _, _, rfl, rfl, hj, ?_⟩
  exact h
theorem ok__law_draw (T : Txt K cl mg A) : FnG P w K mg base 1 A.f__law_draw A.fd__law_draw ["_law_deck_here", "_law_below"] (SpD (gg K cl dk) 2 n__law_draw) := by
  refine T.F__law_draw.okG sc__law_draw (fun vs H Q E h => h.1) (fun cdv A0 outer s H vs Q E hr hgd0 h => ?_)
  obtain ⟨_, F, k, ds, sta, rr, q⟩ := h
  obtain ⟨j, kk, rfl, rfl, hb, ht0, q⟩ := drawF_some q
  obtain ⟨v1, v2, rfl, r1, r2⟩ := rep2 rr
  obtain rfl := repDk r1
  obtain rfl := repInt r2
  obtain ⟨h1, h2, _, _⟩ := sta.dk
  obtain ⟨l, ns, m, t, len⟩ := kk
  simp only [bOk, tOk, Bool.and_eq_true, decide_eq_true_eq] at hb ht0
  obtain ⟨hj0, hj⟩ := hb
  have h1 : H dk = some (.dK (DKL l m t)) := h1
  have h2 : H l = some (.lst (ns.map V.int)) := h2
  have kQ : ∀ (r : Int) (k' : Dk) (H' : Hp), drawK C0 ⟨l, ns, m, t, len⟩ j = (r, k') → Keep dk l H H' → H' dk = some (.dK (DKL l k'.m k'.t)) → H' l = some (.lst (k'.ns.map V.int)) → k'.c = l → Q (.int r) H' := fun r k' H' e kp e1 e2 e3 => by
    rw [e] at q
    exact q H' F (deck_stp sta kp e1 e2 e3) _ (.int _)
  have hne : dk ≠ l := by
    rintro rfl
    rw [h1] at h2
    cases h2
  refine ⟨_, (pss_cons (ps_dput (hu_of hr) (pv 0) pe_str (pe_op op_add (pe_dget (hu_of hr) (pv 0) pe_str (fun _ _ => rfl)) pe_int) rfl)
  (pss_cons (ps_par (i := 2) (j := 3) rfl sc__law_draw.nd rfl rfl (by decide) rfl rfl (by exact (pa_cons (pe_dget (hu_of hr) (pv 0) pe_str (fun _ _ => rfl)) (pa_cons (pe_dget (hu_of hr) (pv 0) pe_str (fun _ _ => rfl)) pa_nil))) (by rfl))
  (pss_cons (ps_if (pt_cmpR (op_neD hr.units) (pe_dget (hu_of hr) (pv 0) pe_str (fun _ _ => rfl)) (pe_lst pa_nil) (nomark _))
  (pss_cons (ps_set (i := 4) sc__law_draw.nd rfl (Or.inl rfl) (pe_callTy (call_int1) (by rfl) T.n_int (by decide +kernel) (by exact (pa_cons (pe_bm0 PySem.F.plainAttrs_list PySem.F.slot_list_pop PySem.F.type_list_pop mt_pop (pe_dget (hu_of hr) (pv 0) pe_str (fun _ _ => rfl))) pa_nil))))
  (pss_cons (ps_if (pt_cmpR op_ge (pv 4) (pe_op op_pow pe_int pe_int) (nomark _))
  (pss_cons (ps_expr (pe_bm PySem.F.plainAttrs_list PySem.F.slot_list_append PySem.F.type_list_append mt_append (pe_dget (hu_of hr) (pv 0) pe_str (fun _ _ => rfl)) (pa_cons (pe_op op_fdivN (pv 4) (pv 1)) pa_nil)))
  (pss_one (ps_ret (pe_op op_mod (pv 4) (pv 1)))))
  pss_nil)
  (pss_one (ps_set (i := 3) sc__law_draw.nd rfl (Or.inl rfl) (pe_op op_add (pv 3) (pe_op op_mod (pv 4) pe_int))))))
  pss_nil)
  (pss_cons (ps_set (i := 3) sc__law_draw.nd rfl (Or.inl rfl) (pe_op op_mod (pe_op op_mul (pe_callTy (call_int1) (by rfl) T.n_int (by decide +kernel) (by exact (pa_cons (pe_op op_add (pe_op op_add (pe_op op_mod (pe_callTy (call_int1) (by rfl) T.n_int (by decide +kernel) (by exact (pa_cons (pv 3) pa_nil))) pe_int) (pe_op op_mul (pe_op op_mul pe_int (pv 2)) (pv 2))) pe_int) pa_nil))) pe_int) pe_int))
  (pss_cons (ps_set (i := 3) sc__law_draw.nd rfl (Or.inl rfl) (pe_op op_mod (pe_callTy (call_int1) (by rfl) T.n_int (by decide +kernel) (by exact (pa_cons (pe_op op_add (pe_op op_add (pe_op op_mul (pv 3) (pv 3)) (pe_op op_mul pe_int (pv 2))) pe_int) pa_nil))) pe_int))
  (pss_one (ps_ret (pe_op op_mod (pe_op op_fdivN (pe_op op_mod (pe_callTy (call_int1) (by rfl) T.n_int (by decide +kernel) (by exact (pa_cons (pe_op op_mul (pv 3) pe_int) pa_nil))) pe_int) pe_int) (pv 1))))))))), ?_⟩
  refine ⟨_, rfl, dk, _, rfl, get_draws h1, ?_⟩
  refine ⟨_, _, rfl, rfl, ?_⟩
  refine ⟨_, rfl, dk, _, rfl, put_draws' h1, ?_⟩
  have g1 : upd H dk (.dK (DKL l m (t + 1))) dk = some (.dK (DKL l m (t + 1))) := upd_same
  have g2 : upd H dk (.dK (DKL l m (t + 1))) l = some (.lst (ns.map V.int)) := by rw [upd_ne (Ne.symm hne)]; exact h2
  refine ⟨_, rfl, dk, _, rfl, get_draws g1, ?_⟩
  refine ⟨_, rfl, dk, _, rfl, get_mixed g1, ?_⟩
  refine ⟨_, _, rfl, ?_⟩
  have ht : 0 ≤ t + 1 ∧ t + 1 < 18446744073709551616 := by omega
  have k0 : Keep dk l H (upd H dk (.dK (DKL l m (t + 1)))) := fun b o n1 n2 e => by rw [upd_ne n1]; exact e
  refine ⟨_, rfl, dk, _, rfl, get_cells g1, Nat.zero_le _, fun p np => ?_⟩
  have pd : p ≠ dk := fun z => by rw [z, g1] at np; cases np
  have pl : p ≠ l := fun z => by rw [z, g2] at np; cases np
  have g3 : upd (upd H dk (.dK (DKL l m (t + 1)))) p (.lst []) dk = some (.dK (DKL l m (t + 1))) := by rw [upd_ne (Ne.symm pd)]; exact g1
  have g4 : upd (upd H dk (.dK (DKL l m (t + 1)))) p (.lst []) l = some (.lst (ns.map V.int)) := by rw [upd_ne (Ne.symm pl)]; exact g2
  have k1 : Keep dk l H (upd (upd H dk (.dK (DKL l m (t + 1)))) p (.lst [])) := k0.trans (DL.Same.keep (DL.same_new (Same.refl _) np))
  refine rNe_nil (SqL.of g4) (DL.ints_ok ns) upd_same ?_
  refine ⟨_, rfl, ?_⟩
  refine ite2 (fun hne0 => ?_) (fun hne0 => ?_)
  · rcases List.eq_nil_or_concat ns with z | ⟨r, c, z⟩
    · rw [z] at hne0
      cases hne0
    rw [List.concat_eq_append] at z
    subst z
    have hns : r ++ [c] ≠ [] := by simp
    have hlast : (r ++ [c]).getLast hns = c := by simp
    have hdl : (r ++ [c]).dropLast = r := by simp
    have g4' : upd (upd H dk (.dK (DKL l m (t + 1)))) p (.lst []) l = some (.lst (r.map V.int ++ [.int c])) := by rw [g4, List.map_append]; rfl
    have hget : (r.map V.int ++ [V.int c])[(r.map V.int ++ [V.int c]).length - 1]? = some (.int c) := by simp
    have hdrop : (r.map V.int ++ [V.int c]).dropLast = r.map V.int := by simp
    refine ⟨_, rfl, dk, _, rfl, get_cells g3, .inl ⟨rfl, _, SqL.of g4'⟩, l, _, .int c, rfl, rfl, g4', hget, .inl ⟨_, rfl, ?_⟩⟩
    rw [hdrop]
    have g5 : upd (upd (upd H dk (.dK (DKL l m (t + 1)))) p (.lst [])) l (.lst (r.map V.int)) dk = some (.dK (DKL l m (t + 1))) := by rw [upd_ne hne]; exact g3
    have g6 : upd (upd (upd H dk (.dK (DKL l m (t + 1)))) p (.lst [])) l (.lst (r.map V.int)) l = some (.lst (r.map V.int)) := upd_same
    have k2 : Keep dk l H (upd (upd (upd H dk (.dK (DKL l m (t + 1)))) p (.lst [])) l (.lst (r.map V.int))) := k1.trans fun b o n1 n2 e => by rw [upd_ne n2]; exact e
    refine ⟨_, rfl, _, _, rfl, rfl, ⟨by decide, by decide, by decide⟩, _, _, rfl, rfl, ?_⟩
    refine ⟨_, rfl, ?_⟩
    refine ite2 (fun hbig => ?_) (fun hbig => ?_)
    · refine ⟨_, rfl, dk, _, rfl, get_cells g5, .inl ⟨rfl, _, SqL.of g6⟩, _, rfl, _, rfl, _, _, rfl, rfl, ⟨by omega, by omega⟩, l, _, _, rfl, rfl, g6, ?_, ?_⟩
      · rw [List.length_map]
        rw [List.length_append, List.length_singleton] at len
        exact Nat.lt_of_le_of_lt (show r.length ≤ 63 by omega) (by decide)
      refine ⟨_, rfl, _, rfl, _, _, rfl, rfl, hj0, ?_⟩
      have hbig' : 10 ^ 18 ≤ c := by simpa using hbig
      refine kQ _ ⟨l, r ++ [c.fdiv j], m, t + 1, by rw [List.length_append, List.length_singleton] at len ⊢; omega⟩ _ ?_ (k2.trans fun b o n1 n2 e => by rw [upd_ne n2]; exact e) ?_ ?_ rfl
      · unfold drawK
        rw [dif_neg hns]
        simp only [hlast, hdl]
        rw [if_pos hbig']
      · rw [upd_ne hne]; exact g5
      · rw [upd_same, List.map_append]; rfl
    · refine ⟨_, rfl, _, rfl, _, _, rfl, rfl, (by decide : (0 : Int) < 2147483563), ?_⟩
      refine ⟨_, _, rfl, rfl, ?_⟩
      have hbig' : ¬ 10 ^ 18 ≤ c := by simpa using hbig
      refine draw_tail rfl hj0 ht (kQ _ ⟨l, r, m, t + 1, by rw [List.length_append, List.length_singleton] at len; omega⟩ _ ?_ k2 g5 g6 rfl)
      unfold drawK
      rw [dif_neg hns]
      simp only [hlast, hdl]
      rw [if_neg hbig']
  · have hns : ns = [] := by simpa using hne0
    refine draw_tail rfl hj0 ht (kQ _ ⟨l, ns, m, t + 1, len⟩ _ ?_ k1 g3 g4 rfl)
    unfold drawK
    rw [dif_pos hns]
theorem ok__law_deck (T : Txt K cl mg A) : FnG P w K mg base 1 A.f__law_deck A.fd__law_deck ["_law_script"] (spDeck K) := by
  refine T.F__law_deck.okG sc__law_deck (fun vs H Q E h => ?_) (fun cdv A0 outer s H vs Q E hr hgd0 h => ?_)
  · obtain ⟨a, ns, rfl, _⟩ := h
    rfl
  · have hgd := hgd0
    obtain ⟨a, ns, rfl, ha, kQ⟩ := h
    refine ⟨_, (pss_cons (ps_par (i := 1) (j := 2) rfl sc__law_deck.nd rfl rfl (by decide) rfl rfl (by exact (pa_cons (pe_callTy (call_list_of) (by rfl) T.n_list (by decide +kernel) (by exact (pa_cons (pe_slice sl_list (pv 0) po_none (po_some pe_int)) pa_nil))) (pa_cons (pe_op op_add pe_int (pe_op op_mod (pe_callTy (call_int1) (by rfl) T.n_int (by decide +kernel) (by exact (pa_cons (pe_callB (cr_sum rfl) (by rfl) T.n_sum (by decide +kernel) (by exact (pa_cons (pe_slice sl_list (pv 0) po_none (po_some pe_int)) pa_nil))) pa_nil))) pe_int)) pa_nil))) (by rfl))
  (pss_cons (ps_for PassesOwn.never rfl (pi_list (pv 1)) (pg_name (i := 3) sc__law_deck.nd rfl (Or.inl rfl))
  (pss_one (ps_set (i := 2) sc__law_deck.nd rfl (Or.inl rfl) (pe_op op_mod (pe_callTy (call_int1) (by rfl) T.n_int (by decide +kernel) (by exact (pa_cons (pe_op op_add (pe_op op_add (pe_op op_mul (pv 2) pe_int) (pe_op op_mod (pe_callTy (call_int1) (by rfl) T.n_int (by decide +kernel) (by exact (pa_cons (pv 3) pa_nil))) pe_int)) pe_int) pa_nil))) pe_int))))
  (pss_one (ps_ret (pe_disp (pps_cons pe_str (pe_revL (pv 1)) (pps_cons pe_str (pv 2) (pps_cons pe_str pe_int pps_nil))) (by rfl) (by rfl) (fun z => by cases z) (by decide)))))), ?_⟩
    have e63 : cutV (ns.map V.int) none (some 63) = (ns.take 63).map V.int := DL.cut_take (k := 63)
    have e1 : cutV (ns.map V.int) none (some 1) = (ns.take 1).map V.int := DL.cut_take (k := 1)
    refine ⟨_, rfl, 63, rfl, a, _, rfl, ha, fun p np => ?_⟩
    rw [e63]
    refine ⟨p, _, rfl, .inl (SqL.of upd_same), fun l nl => ?_⟩
    have s1 := DL.same_new (o := .lst ((ns.take 63).map V.int)) (Same.refl H) np
    have s2 := DL.same_new (o := .lst ((ns.take 63).map V.int)) s1 nl
    refine ⟨_, rfl, 1, rfl, a, _, rfl, s2.seq ha, fun q nq => ?_⟩
    rw [e1]
    refine ⟨q, ns.take 1, rfl, SqL.of upd_same, ?_⟩
    refine .inl ⟨_, rfl, ?_⟩
    refine ⟨_, _, rfl, rfl, (by decide : (0 : Int) < 1000003), ?_⟩
    refine ⟨_, _, rfl, rfl, ?_⟩
    refine ⟨_, _, rfl, ?_⟩
    have s3 := DL.same_new (o := .lst ((ns.take 1).map V.int)) s2 nq
    have ll : upd (upd (upd H p (.lst ((ns.take 63).map V.int))) l (.lst ((ns.take 63).map V.int))) q (.lst ((ns.take 1).map V.int)) l = some (.lst ((ns.take 63).map V.int)) := by
      rw [upd_ne, upd_same]
      rintro rfl
      rw [upd_same] at nq
      cases nq
    generalize hH : upd (upd (upd H p (.lst ((ns.take 63).map V.int))) l (.lst ((ns.take 63).map V.int))) q (.lst ((ns.take 1).map V.int)) = H3 at *
    refine ⟨_, rfl, l, rfl, ⟨_, SqL.of ll⟩, ?_⟩
    refine for_it (walk_list (xs := (ns.take 63).map V.int)) (fun i σ H' => ∃ (m : Int) (v : Option V), σ = [some (.ref a), some (.ref l), some (.int m), v] ∧ H' = H3)
      ⟨_, none, rfl, rfl⟩ (fun i σ H' _ h => ?_) ?_ ?_
    · obtain ⟨m, v, _, rfl⟩ := h
      exact SqL.of ll
    · rintro i y σ H1 H2 hi ⟨m, v, rfl, rfl⟩ ⟨rfl, hy⟩
      rw [List.getElem?_map] at hy
      cases hc : (ns.take 63)[i]? with
      | none => rw [hc] at hy; cases hy
      | some c =>
        rw [hc] at hy
        obtain rfl : V.int c = y := Option.some.inj hy
        refine ⟨_, rfl, _, _, rfl, rfl, cmulR (by decide), ?_⟩
        refine ⟨_, rfl, .inl ⟨_, rfl, ?_⟩⟩
        refine ⟨_, _, rfl, rfl, (by decide : (0 : Int) < 2147483629), ?_⟩
        refine ⟨_, _, rfl, rfl, ?_⟩
        refine ⟨_, _, rfl, rfl, .inl ⟨_, rfl, ?_⟩⟩
        refine ⟨_, _, rfl, rfl, (by decide : (0 : Int) < 2147483587), ?_⟩
        exact ⟨_, _, rfl, rfl⟩
    · rintro σ H1 ⟨m, v, rfl, rfl⟩
      intro d nd
      have nel : l ≠ d := by rintro rfl; rw [ll] at nd; cases nd
      refine ⟨_, rfl, l, _, rfl, SqL.of (by rw [upd_ne nel]; exact ll), fun l2 nl2 => ?_⟩
      have ne2 : d ≠ l2 := by rintro rfl; rw [upd_same] at nl2; cases nl2
      refine ⟨_, rfl, ?_⟩
      refine ⟨by rw [upd_ne ne2]; exact upd_same, DKL l2 m 0, rfl, by show 3 ≤ 15; decide, ?_⟩
      refine kQ d ⟨l2, (ns.take 63).reverse, m, 0, ?_⟩ _ rfl ne2 upd_same ?_
      · rw [List.length_reverse, List.length_take]
        exact Nat.min_le_left _ _
      · show upd (upd _ l2 _) d _ l2 = _
        rw [upd_ne (Ne.symm ne2), upd_same, List.map_reverse]
end

end C01
set_option Elab.async false
set_option linter.all false
set_option maxRecDepth 100000
set_option maxHeartbeats 4000000
namespace C01
open PySem PySem.Spec L2 DL
open PySem.W (Frag)

def takes_BadLoom (c : String) : Option Bool := if c = "BadLoom" then some true else if c = "BadText" then some false else none
theorem Txt.yes_BadLoom {K : Frag} {cl : String → Addr} {mg : Str → Option Value} {A : Adr} (T : Txt K cl mg A) {dk : Addr} : ∀ c' b, takes_BadLoom c' = some b → PySem.W.exmOne (gg K cl dk).K (.ref ((gg K cl dk).cl c')) (.ref ((gg K cl dk).cl "BadLoom")) = some b := by
  intro c' b h
  unfold takes_BadLoom at h
  by_cases h_BadLoom : c' = "BadLoom"
  · subst h_BadLoom; simp at h; subst h; exact T.te_BadLoom_BadLoom
  by_cases h_BadText : c' = "BadText"
  · subst h_BadText; simp at h; subst h; exact T.te_BadText_BadLoom
  simp [h_BadLoom, h_BadText] at h
def g_is_int : Ss :=
  (sRet (sAnd (sIsi "int" (sV 0)) (sNot (sIsi "bool" (sV 0)))))
def s_is_int : Ss := g_is_int
def n_is_int : Fn := fnD 1 s_is_int
section
variable {P : Program} {w : World} {K : Frag} {cl : String → Addr} {dk : Addr} {mg : Str → Option Value} {base : Heap} {A : Adr}
theorem ok_is_int (T : Txt K cl mg A) : FnG P w K mg base 1 A.f_is_int A.fd_is_int ["thing"] (SpD (gg K cl dk) 1 n_is_int) := by
    refine fn_of_body (g := gg K cl dk) T.F_is_int sc_is_int rfl rfl fun cdv A0 outer sh H E hr hgd => ?_
    unfold s_is_int g_is_int
    exact (pds_one (pds_ret (pd_and rfl (pd_isi (T := "int") rfl T.own (by decide) (pe_bltn (v := .ty "int") (u := .type "int") (by rfl) T.n_int (by decide +kernel) rfl) (by rfl) T.n_isinstance (pd_var (pv 0))) (pd_one (pd_not rfl (pd_isi (T := "bool") rfl T.own (by decide) (pe_bltn (v := .ty "bool") (u := .type "bool") (by rfl) T.n_bool (by decide +kernel) rfl) (by rfl) T.n_isinstance (pd_var (pv 0))))))))
end
def g_is_number_below (p_is_int : Fn) : Ss :=
  (sRet (sAnd (sCall 1 p_is_int (lCons (sV 0) lNil)) (sChain leD ltD (sC (.int 0)) (sV 0) (sV 1))))
def s_is_number_below : Ss := g_is_number_below n_is_int
def n_is_number_below : Fn := fnD 2 s_is_number_below
section
variable {P : Program} {w : World} {K : Frag} {cl : String → Addr} {dk : Addr} {mg : Str → Option Value} {base : Heap} {A : Adr}
theorem ok_is_number_below (T : Txt K cl mg A) : FnG P w K mg base 2 A.f_is_number_below A.fd_is_number_below ["thing", "limit"] (SpD (gg K cl dk) 2 n_is_number_below) := by
    have G_is_int := ok_is_int (P := P) (w := w) (base := base) (dk := dk) T
    refine fn_of_body (g := gg K cl dk) T.F_is_number_below sc_is_number_below rfl rfl fun cdv A0 outer sh H E hr hgd => ?_
    unfold s_is_number_below g_is_number_below
    exact (pds_one (pds_ret (pd_and rfl (pd_call G_is_int (hr.mono (by first | decide | omega)) hgd rfl T.m_is_int T.F_is_int.kp T.b_is_int (takes_of rfl rfl rfl rfl) (by exact (pda_cons (pd_var (pv 0)) pda_nil))) (pd_one (pd_chain opd_le opd_lt pd_int (pd_var (pv 0)) (pd_var (pv 1)))))))
end
def g_is_ascending : Ss :=
  (sRet (sApp (pureO allD) (lCons (sFrz (sComp (.tup [(.name 1), (.name 2)]) [1, 2] sYes (sOp ltD (sV 1) (sV 2)) (iZip (lCons (sV 0) (lCons (sSl (sV 0) (oSome (sC (.int 1))) oNone) lNil))))) lNil)))
def s_is_ascending : Ss := g_is_ascending
def n_is_ascending : Fn := fnD 3 s_is_ascending
section
variable {P : Program} {w : World} {K : Frag} {cl : String → Addr} {dk : Addr} {mg : Str → Option Value} {base : Heap} {A : Adr}
theorem ok_is_ascending (T : Txt K cl mg A) : FnG P w K mg base 1 A.f_is_ascending A.fd_is_ascending ["row"] (SpD (gg K cl dk) 1 n_is_ascending) := by
    refine fn_of_body (g := gg K cl dk) T.F_is_ascending sc_is_ascending rfl rfl fun cdv A0 outer sh H E hr hgd => ?_
    unfold s_is_ascending g_is_ascending
    exact (pds_one (pds_ret (pd_callB (callo_all rfl rfl) (by rfl) T.n_all (by decide +kernel) (by exact (pda_cons (pd_ofN (pdn_lc (own := [("one", 1), ("other", 2)]) (t := (.tup [(.name 1), (.name 2)])) rfl sc_is_ascending.nd (pdi_zip rfl (by rfl) T.n_zip (by exact (pda_cons (pd_var (pv 0)) (pda_cons (pd_slice rfl (pd_var (pv 0)) (pdo_some pd_int) pdo_none) pda_nil)))) (blkOk_by (own := [("one", 1), ("other", 2)]) (N := ["row", "one", "other"]) (sc := defScope st_is_ascending) (by decide +kernel)) (by decide) (fun _ _ _ _ _ => (pdg_tup rfl (by rfl) (pdgs_cons (pdg_name (i := 1) sc_is_ascending.nd rfl (Or.inl rfl)) (pdgs_cons (pdg_name (i := 2) sc_is_ascending.nd rfl (Or.inl rfl)) pdgs_nil)))) (fun _ _ _ _ _ => pdts_nil) (fun _ _ _ _ _ => (pd_cmp opd_lt (pd_var (pv 1)) (pd_var (pv 2)) (nomark _))))) pda_nil)))))
end
def g_is_tuple_below (p_is_number_below : Fn) (p_is_ascending : Fn) : Ss :=
  (sSeq (sIfS (sNotB (sTru (sIsi "tuple" (sV 0))))
  (sRet (sC (.bl false)))
  sSkip)
  (sRet (sAnd (sApp (pureO allD) (lCons (sFrz (sComp (.name 2) [2] sYes (sCall 2 p_is_number_below (lCons (sV 2) (lCons (sV 1) lNil))) (iVal (sV 0)))) lNil)) (sCall 1 p_is_ascending (lCons (sV 0) lNil)))))
def s_is_tuple_below : Ss := g_is_tuple_below n_is_number_below n_is_ascending
def n_is_tuple_below : Fn := fnD 3 s_is_tuple_below
section
variable {P : Program} {w : World} {K : Frag} {cl : String → Addr} {dk : Addr} {mg : Str → Option Value} {base : Heap} {A : Adr}
theorem ok_is_tuple_below (T : Txt K cl mg A) : FnG P w K mg base 3 A.f_is_tuple_below A.fd_is_tuple_below ["thing", "limit"] (SpD (gg K cl dk) 2 n_is_tuple_below) := by
    have G_is_ascending := ok_is_ascending (P := P) (w := w) (base := base) (dk := dk) T
    have G_is_number_below := ok_is_number_below (P := P) (w := w) (base := base) (dk := dk) T
    refine fn_of_body (g := gg K cl dk) T.F_is_tuple_below sc_is_tuple_below rfl rfl fun cdv A0 outer sh H E hr hgd => ?_
    unfold s_is_tuple_below g_is_tuple_below
    exact (pds_cons (pds_if (pdt_not (pdt_truth rfl (pd_isi (T := "tuple") rfl T.own (by decide) (pe_bltn (v := .ty "tuple") (u := .type "tuple") (by rfl) T.n_tuple (by decide +kernel) rfl) (by rfl) T.n_isinstance (pd_var (pv 0))) (by intro _; rfl)))
  (pds_one (pds_ret pd_bl))
  pds_nil)
  (pds_one (pds_ret (pd_and rfl (pd_callB (callo_all rfl rfl) (by rfl) T.n_all (by decide +kernel) (by exact (pda_cons (pd_ofN (pdn_lc (own := [("item", 2)]) (t := (.name 2)) rfl sc_is_tuple_below.nd (pdi_val rfl (pd_var (pv 0))) (blkOk_by (own := [("item", 2)]) (N := ["thing", "limit", "item"]) (sc := defScope st_is_tuple_below) (by decide +kernel)) (by decide) (fun _ _ _ _ _ => (pdg_name (i := 2) sc_is_tuple_below.nd rfl (Or.inl rfl))) (fun _ _ _ _ _ => pdts_nil) (fun _ _ _ _ _ => (pd_call G_is_number_below (hr.mono (by first | decide | omega)) hgd rfl T.m_is_number_below T.F_is_number_below.kp T.b_is_number_below takes0 (by exact (pda_cons (pd_var (pv 2)) (pda_cons (pd_var (pv 1)) pda_nil))))))) pda_nil))) (pd_one (pd_call G_is_ascending (hr.mono (by first | decide | omega)) hgd rfl T.m_is_ascending T.F_is_ascending.kp T.b_is_ascending (takes_of rfl rfl rfl rfl) (by exact (pda_cons (pd_var (pv 0)) pda_nil))))))))
end
def g_is_string_over : Ss :=
  (sRet (sAnd (sIsi "str" (sV 0)) (sApp (pureO allD) (lCons (sFrz (sComp (.name 2) [2] sYes (sOp inD (sV 2) (sV 1)) (iVal (sV 0)))) lNil))))
def s_is_string_over : Ss := g_is_string_over
def n_is_string_over : Fn := fnD 3 s_is_string_over
section
variable {P : Program} {w : World} {K : Frag} {cl : String → Addr} {dk : Addr} {mg : Str → Option Value} {base : Heap} {A : Adr}
theorem ok_is_string_over (T : Txt K cl mg A) : FnG P w K mg base 1 A.f_is_string_over A.fd_is_string_over ["thing", "signs"] (SpD (gg K cl dk) 2 n_is_string_over) := by
    refine fn_of_body (g := gg K cl dk) T.F_is_string_over sc_is_string_over rfl rfl fun cdv A0 outer sh H E hr hgd => ?_
    unfold s_is_string_over g_is_string_over
    exact (pds_one (pds_ret (pd_and rfl (pd_isi (T := "str") rfl T.own (by decide) (pe_bltn (v := .ty "str") (u := .type "str") (by rfl) T.n_str (by decide +kernel) rfl) (by rfl) T.n_isinstance (pd_var (pv 0))) (pd_one (pd_callB (callo_all rfl rfl) (by rfl) T.n_all (by decide +kernel) (by exact (pda_cons (pd_ofN (pdn_lc (own := [("sign", 2)]) (t := (.name 2)) rfl sc_is_string_over.nd (pdi_val rfl (pd_var (pv 0))) (blkOk_by (own := [("sign", 2)]) (N := ["thing", "signs", "sign"]) (sc := defScope st_is_string_over) (by decide +kernel)) (by decide) (fun _ _ _ _ _ => (pdg_name (i := 2) sc_is_string_over.nd rfl (Or.inl rfl))) (fun _ _ _ _ _ => pdts_nil) (fun _ _ _ _ _ => (pd_cmp (opd_in rfl) (pd_var (pv 2)) (pd_var (pv 1)) (by rfl))))) pda_nil)))))))
end
def g_is_shaft_count (p_is_int : Fn) : Ss :=
  (sRet (sAnd (sCall 1 p_is_int (lCons (sV 0) lNil)) (sChain leD leD (sC (.int 1)) (sV 0) (sC (.int 99)))))
def s_is_shaft_count : Ss := g_is_shaft_count n_is_int
def n_is_shaft_count : Fn := fnD 1 s_is_shaft_count
section
variable {P : Program} {w : World} {K : Frag} {cl : String → Addr} {dk : Addr} {mg : Str → Option Value} {base : Heap} {A : Adr}
theorem ok_is_shaft_count (T : Txt K cl mg A) : FnG P w K mg base 2 A.f_is_shaft_count A.fd_is_shaft_count ["thing"] (SpD (gg K cl dk) 1 n_is_shaft_count) := by
    have G_is_int := ok_is_int (P := P) (w := w) (base := base) (dk := dk) T
    refine fn_of_body (g := gg K cl dk) T.F_is_shaft_count sc_is_shaft_count rfl rfl fun cdv A0 outer sh H E hr hgd => ?_
    unfold s_is_shaft_count g_is_shaft_count
    exact (pds_one (pds_ret (pd_and rfl (pd_call G_is_int (hr.mono (by first | decide | omega)) hgd rfl T.m_is_int T.F_is_int.kp T.b_is_int (takes_of rfl rfl rfl rfl) (by exact (pda_cons (pd_var (pv 0)) pda_nil))) (pd_one (pd_chain opd_le opd_le pd_int (pd_var (pv 0)) (pd_globI rfl T.c_MOST_SHAFTS))))))
end
def g_is_threading (p_is_number_below : Fn) : Ss :=
  (sSeq (sIfS (sOrB (sNotB (sTru (sIsi "tuple" (sV 0)))) (sB (sOp eqD (sV 0) (sTup lNil))))
  (sRet (sC (.bl false)))
  sSkip)
  (sRet (sApp (pureO allD) (lCons (sFrz (sComp (.name 2) [2] sYes (sCall 2 p_is_number_below (lCons (sV 2) (lCons (sV 1) lNil))) (iVal (sV 0)))) lNil))))
def s_is_threading : Ss := g_is_threading n_is_number_below
def n_is_threading : Fn := fnD 3 s_is_threading
section
variable {P : Program} {w : World} {K : Frag} {cl : String → Addr} {dk : Addr} {mg : Str → Option Value} {base : Heap} {A : Adr}
theorem ok_is_threading (T : Txt K cl mg A) : FnG P w K mg base 3 A.f_is_threading A.fd_is_threading ["thing", "shafts"] (SpD (gg K cl dk) 2 n_is_threading) := by
    have G_is_number_below := ok_is_number_below (P := P) (w := w) (base := base) (dk := dk) T
    refine fn_of_body (g := gg K cl dk) T.F_is_threading sc_is_threading rfl rfl fun cdv A0 outer sh H E hr hgd => ?_
    unfold s_is_threading g_is_threading
    exact (pds_cons (pds_if (PDW.pt (pdw_or (pdt_not (pdt_truth rfl (pd_isi (T := "tuple") rfl T.own (by decide) (pe_bltn (v := .ty "tuple") (u := .type "tuple") (by rfl) T.n_tuple (by decide +kernel) rfl) (by rfl) T.n_isinstance (pd_var (pv 0))) (by intro _; rfl))) (pdw_or1 (pdt_cmp (opd_eq rfl hr.units) (pd_var (pv 0)) (pd_tup pda_nil) (nomark _)))))
  (pds_one (pds_ret pd_bl))
  pds_nil)
  (pds_one (pds_ret (pd_callB (callo_all rfl rfl) (by rfl) T.n_all (by decide +kernel) (by exact (pda_cons (pd_ofN (pdn_lc (own := [("item", 2)]) (t := (.name 2)) rfl sc_is_threading.nd (pdi_val rfl (pd_var (pv 0))) (blkOk_by (own := [("item", 2)]) (N := ["thing", "shafts", "item"]) (sc := defScope st_is_threading) (by decide +kernel)) (by decide) (fun _ _ _ _ _ => (pdg_name (i := 2) sc_is_threading.nd rfl (Or.inl rfl))) (fun _ _ _ _ _ => pdts_nil) (fun _ _ _ _ _ => (pd_call G_is_number_below (hr.mono (by first | decide | omega)) hgd rfl T.m_is_number_below T.F_is_number_below.kp T.b_is_number_below takes0 (by exact (pda_cons (pd_var (pv 2)) (pda_cons (pd_var (pv 1)) pda_nil))))))) pda_nil))))))
end
def g_is_treadling (p_is_string_over : Fn) : Ss :=
  (sRet (sCall 2 p_is_string_over (lCons (sV 1) (lCons (sFld ["Loom"] "letters" (sV 0)) lNil))))
def s_is_treadling : Ss := g_is_treadling n_is_string_over
def n_is_treadling : Fn := fnD 2 s_is_treadling
section
variable {P : Program} {w : World} {K : Frag} {cl : String → Addr} {dk : Addr} {mg : Str → Option Value} {base : Heap} {A : Adr}
theorem ok_is_treadling (T : Txt K cl mg A) : FnG P w K mg base 2 A.f_is_treadling A.fd_is_treadling ["loom", "thing"] (SpD (gg K cl dk) 2 n_is_treadling) := by
    have G_is_string_over := ok_is_string_over (P := P) (w := w) (base := base) (dk := dk) T
    refine fn_of_body (g := gg K cl dk) T.F_is_treadling sc_is_treadling rfl rfl fun cdv A0 outer sh H E hr hgd => ?_
    unfold s_is_treadling g_is_treadling
    exact (pds_one (pds_ret (pd_call G_is_string_over (hr.mono (by first | decide | omega)) hgd rfl T.m_is_string_over T.F_is_string_over.kp T.b_is_string_over (takes_of rfl rfl rfl rfl) (by exact (pda_cons (pd_var (pv 1)) (pda_cons (pd_fld (cs := ["Loom"]) rfl T.own T.nas_Loom_letters (pd_var (pv 0))) pda_nil))))))
end
def g_Loom___init__ (p_is_shaft_count : Fn) (p_is_threading : Fn) (p_is_tuple_below : Fn) : Ss :=
  (sSeq (sIfS (sNotB (sTru (sCall 1 p_is_shaft_count (lCons (sV 1) lNil))))
  (sRaise "BadLoom" "part" (lCons (sC (.str "shafts")) lNil))
  sSkip)
  (sSeq (sIfS (sNotB (sTru (sCall 2 p_is_threading (lCons (sV 2) (lCons (sV 1) lNil)))))
  (sRaise "BadLoom" "part" (lCons (sC (.str "threading")) lNil))
  sSkip)
  (sSeq (sIfS (sOrB (sNotB (sTru (sIsi "tuple" (sV 3)))) (sNotB (sB (sChain leD leD (sC (.int 1)) (sApp (pureO lenD) (lCons (sV 3) lNil)) (sApp (pureO lenD) (lCons (sC (.str "abcdefghijklmnopqrstuvwxyz")) lNil))))))
  (sRaise "BadLoom" "part" (lCons (sC (.str "lifts")) lNil))
  sSkip)
  (sSeq (sFor (.tup [(.name 4), (.name 5)]) (iEnumD (sV 3))
  (sIfS (sNotB (sTru (sCall 2 p_is_tuple_below (lCons (sV 5) (lCons (sV 1) lNil)))))
  (sRaise "BadLoom" "part" (lCons (sV 4) lNil))
  sSkip))
  (sSeq (sSetF 0 "Loom" "shafts" (sV 1))
  (sSeq (sSetF 0 "Loom" "threading" (sV 2))
  (sSeq (sSetF 0 "Loom" "lifts" (sV 3))
  (sSeq (sSetF 0 "Loom" "letters" (sSl (sC (.str "abcdefghijklmnopqrstuvwxyz")) oNone (oSome (sApp (pureO lenD) (lCons (sV 3) lNil)))))
  (sSetF 0 "Loom" "used" (sApp (pureO tupleD) (lCons (sSortSet (sV 2)) lNil)))))))))))
def s_Loom___init__ : Ss := g_Loom___init__ n_is_shaft_count n_is_threading n_is_tuple_below
def n_Loom___init__ : FnI := fnI "Loom" 6 s_Loom___init__
section
variable {P : Program} {w : World} {K : Frag} {cl : String → Addr} {dk : Addr} {mg : Str → Option Value} {base : Heap} {A : Adr}
theorem ok_Loom___init__ (T : Txt K cl mg A) : FnG P w K mg base 4 A.f_Loom___init__ A.fd_Loom___init__ ["self", "shafts", "threading", "lifts"] (SpI (gg K cl dk) "Loom" 3 n_Loom___init__) := by
    have G_is_shaft_count := ok_is_shaft_count (P := P) (w := w) (base := base) (dk := dk) T
    have G_is_threading := ok_is_threading (P := P) (w := w) (base := base) (dk := dk) T
    have G_is_tuple_below := ok_is_tuple_below (P := P) (w := w) (base := base) (dk := dk) T
    refine init_of_body (g := gg K cl dk) T.F_Loom___init__ sc_Loom___init__ rfl rfl fun cdv A0 outer sh H E p hr hgd => ?_
    unfold s_Loom___init__ g_Loom___init__
    exact (pds_cons (pds_if (pdt_not (pdt_truth rfl (pd_call G_is_shaft_count (hr.mono (by first | decide | omega)) hgd rfl T.m_is_shaft_count T.F_is_shaft_count.kp T.b_is_shaft_count (takes_of rfl rfl rfl rfl) (by exact (pda_cons (pd_var (pv 1)) pda_nil))) (by intro _; rfl)))
  (pds_one (pds_raise (ps_raiseBadLoom rfl T.x_BadLoom hr (takes_of rfl rfl rfl rfl) (by exact (pda_cons pd_str pda_nil)))))
  pds_nil)
  (pds_cons (pds_if (pdt_not (pdt_truth rfl (pd_call G_is_threading (hr.mono (by first | decide | omega)) hgd rfl T.m_is_threading T.F_is_threading.kp T.b_is_threading (takes_of rfl rfl rfl rfl) (by exact (pda_cons (pd_var (pv 2)) (pda_cons (pd_var (pv 1)) pda_nil)))) (by intro _; rfl)))
  (pds_one (pds_raise (ps_raiseBadLoom rfl T.x_BadLoom hr (takes_of rfl rfl rfl rfl) (by exact (pda_cons pd_str pda_nil)))))
  pds_nil)
  (pds_cons (pds_if (PDW.pt (pdw_or (pdt_not (pdt_truth rfl (pd_isi (T := "tuple") rfl T.own (by decide) (pe_bltn (v := .ty "tuple") (u := .type "tuple") (by rfl) T.n_tuple (by decide +kernel) rfl) (by rfl) T.n_isinstance (pd_var (pv 3))) (by intro _; rfl))) (pdw_or1 (pdt_not (pdt_chain opd_le opd_le pd_int (pd_callB (callo_len rfl) (by rfl) T.n_len (by decide +kernel) (by exact (pda_cons (pd_var (pv 3)) pda_nil))) (pd_callB (callo_len rfl) (by rfl) T.n_len (by decide +kernel) (by exact (pda_cons (pd_globS rfl T.c_LETTERS) pda_nil))))))))
  (pds_one (pds_raise (ps_raiseBadLoom rfl T.x_BadLoom hr (takes_of rfl rfl rfl rfl) (by exact (pda_cons pd_str pda_nil)))))
  pds_nil)
  (pds_cons (pds_for (tt := (.tup [(.name 4), (.name 5)])) (passes_of rfl) rfl (pdi_enum rfl (by rfl) T.n_enumerate (pd_var (pv 3))) (pdg_tup rfl (by rfl) (pdgs_cons (pdg_name (i := 4) sc_Loom___init__.nd rfl (Or.inl rfl)) (pdgs_cons (pdg_name (i := 5) sc_Loom___init__.nd rfl (Or.inl rfl)) pdgs_nil)))
  (pds_one (pds_if (pdt_not (pdt_truth rfl (pd_call G_is_tuple_below (hr.mono (by first | decide | omega)) hgd rfl T.m_is_tuple_below T.F_is_tuple_below.kp T.b_is_tuple_below (takes_of rfl rfl rfl rfl) (by exact (pda_cons (pd_var (pv 5)) (pda_cons (pd_var (pv 1)) pda_nil)))) (by intro _; rfl)))
  (pds_one (pds_raise (ps_raiseBadLoom rfl T.x_BadLoom hr (takes_of rfl rfl rfl rfl) (by exact (pda_cons (pd_var (pv 4)) pda_nil)))))
  pds_nil)))
  (pds_cons (pds_setF (i := 0) (c := "Loom") rfl T.oc_Loom.cl T.na_Loom_shafts (pv 0) (pd_var (pv 1)))
  (pds_cons (pds_setF (i := 0) (c := "Loom") rfl T.oc_Loom.cl T.na_Loom_threading (pv 0) (pd_var (pv 2)))
  (pds_cons (pds_setF (i := 0) (c := "Loom") rfl T.oc_Loom.cl T.na_Loom_lifts (pv 0) (pd_var (pv 3)))
  (pds_cons (pds_setF (i := 0) (c := "Loom") rfl T.oc_Loom.cl T.na_Loom_letters (pv 0) (pd_slice rfl (pd_globS rfl T.c_LETTERS) pdo_none (pdo_some (pd_callB (callo_len rfl) (by rfl) T.n_len (by decide +kernel) (by exact (pda_cons (pd_var (pv 3)) pda_nil))))))
  (pds_one (pds_setF (i := 0) (c := "Loom") rfl T.oc_Loom.cl T.na_Loom_used (pv 0) (pd_callTy (callo_tuple rfl) (by rfl) T.n_tuple (by decide +kernel) (by exact (pda_cons (pd_sortSet rfl rfl (by rfl) T.n_sorted (by rfl) T.n_set (pd_var (pv 2))) pda_nil)))))))))))))
end
def g_Loom___len__ : Ss :=
  (sRet (sApp (pureO lenD) (lCons (sFld ["Loom"] "threading" (sV 0)) lNil)))
def s_Loom___len__ : Ss := g_Loom___len__
def n_Loom___len__ : Fn := fnD 1 s_Loom___len__
section
variable {P : Program} {w : World} {K : Frag} {cl : String → Addr} {dk : Addr} {mg : Str → Option Value} {base : Heap} {A : Adr}
theorem ok_Loom___len__ (T : Txt K cl mg A) : FnG P w K mg base 1 A.f_Loom___len__ A.fd_Loom___len__ ["self"] (SpD (gg K cl dk) 1 n_Loom___len__) := by
    refine fn_of_body (g := gg K cl dk) T.F_Loom___len__ sc_Loom___len__ rfl rfl fun cdv A0 outer sh H E hr hgd => ?_
    unfold s_Loom___len__ g_Loom___len__
    exact (pds_one (pds_ret (pd_callB (callo_len rfl) (by rfl) T.n_len (by decide +kernel) (by exact (pda_cons (pd_fld (cs := ["Loom"]) rfl T.own T.nas_Loom_threading (pd_var (pv 0))) pda_nil)))))
end
def g_Loom___eq__ : Ss :=
  (sRet (sAnd (sIsC "Loom" (sV 1)) (sAnd (sOp eqD (sFld ["Loom"] "shafts" (sV 0)) (sFld ["Loom"] "shafts" (sV 1))) (sAnd (sOp eqD (sFld ["Loom"] "threading" (sV 0)) (sFld ["Loom"] "threading" (sV 1))) (sOp eqD (sFld ["Loom"] "lifts" (sV 0)) (sFld ["Loom"] "lifts" (sV 1)))))))
def s_Loom___eq__ : Ss := g_Loom___eq__
def n_Loom___eq__ : Fn := fnD 2 s_Loom___eq__
section
variable {P : Program} {w : World} {K : Frag} {cl : String → Addr} {dk : Addr} {mg : Str → Option Value} {base : Heap} {A : Adr}
theorem ok_Loom___eq__ (T : Txt K cl mg A) : FnG P w K mg base 1 A.f_Loom___eq__ A.fd_Loom___eq__ ["self", "other"] (SpD (gg K cl dk) 2 n_Loom___eq__) := by
    refine fn_of_body (g := gg K cl dk) T.F_Loom___eq__ sc_Loom___eq__ rfl rfl fun cdv A0 outer sh H E hr hgd => ?_
    unfold s_Loom___eq__ g_Loom___eq__
    exact (pds_one (pds_ret (pd_and rfl (pd_isiC (cn := "Loom") rfl T.own (show _ ∈ OWN by decide) T.sub_Loom (pe_glob (v := .ref _) rfl T.g_Loom rfl) (by rfl) T.n_isinstance (pd_var (pv 1))) (pd_and rfl (pd_cmp (opd_eq rfl hr.units) (pd_fld (cs := ["Loom"]) rfl T.own T.nas_Loom_shafts (pd_var (pv 0))) (pd_fld (cs := ["Loom"]) rfl T.own T.nas_Loom_shafts (pd_var (pv 1))) (nomark _)) (pd_and rfl (pd_cmp (opd_eq rfl hr.units) (pd_fld (cs := ["Loom"]) rfl T.own T.nas_Loom_threading (pd_var (pv 0))) (pd_fld (cs := ["Loom"]) rfl T.own T.nas_Loom_threading (pd_var (pv 1))) (nomark _)) (pd_one (pd_cmp (opd_eq rfl hr.units) (pd_fld (cs := ["Loom"]) rfl T.own T.nas_Loom_lifts (pd_var (pv 0))) (pd_fld (cs := ["Loom"]) rfl T.own T.nas_Loom_lifts (pd_var (pv 1))) (nomark _))))))))
end
def g_Loom_lift_of : Ss :=
  (sRet (sIx (sFld ["Loom"] "lifts" (sV 0)) (sM1 indexD (sC (.str "abcdefghijklmnopqrstuvwxyz")) (sV 1))))
def s_Loom_lift_of : Ss := g_Loom_lift_of
def n_Loom_lift_of : Fn := fnD 2 s_Loom_lift_of
section
variable {P : Program} {w : World} {K : Frag} {cl : String → Addr} {dk : Addr} {mg : Str → Option Value} {base : Heap} {A : Adr}
theorem ok_Loom_lift_of (T : Txt K cl mg A) : FnG P w K mg base 1 A.f_Loom_lift_of A.fd_Loom_lift_of ["self", "letter"] (SpD (gg K cl dk) 2 n_Loom_lift_of) := by
    refine fn_of_body (g := gg K cl dk) T.F_Loom_lift_of sc_Loom_lift_of rfl rfl fun cdv A0 outer sh H E hr hgd => ?_
    unfold s_Loom_lift_of g_Loom_lift_of
    exact (pds_one (pds_ret (pd_ix rfl (pd_fld (cs := ["Loom"]) rfl T.own T.nas_Loom_lifts (pd_var (pv 0))) (pd_m1 PySem.F.slot_str_index PySem.F.type_str_index mto_index (pd_globS rfl T.c_LETTERS) (pd_var (pv 1))))))
end
def g_Loom_with_lift (p_Loom___init__ : FnI) : Ss :=
  (sSeq (sSet 3 (sM1 indexD (sC (.str "abcdefghijklmnopqrstuvwxyz")) (sV 1)))
  (sRet (sOfC "Loom" (sC (.cls "Loom")) (sMake "Loom" 3 p_Loom___init__ (lCons (sFld ["Loom"] "shafts" (sV 0)) (lCons (sFld ["Loom"] "threading" (sV 0)) (lCons (sTup (lStar (sSl (sFld ["Loom"] "lifts" (sV 0)) oNone (oSome (sV 3))) (lCons (sV 2) (lStar (sSl (sFld ["Loom"] "lifts" (sV 0)) (oSome (sOp plusD (sV 3) (sC (.int 1)))) oNone) lNil)))) lNil)))))))
def s_Loom_with_lift : Ss := g_Loom_with_lift n_Loom___init__
def n_Loom_with_lift : Fn := fnD 4 s_Loom_with_lift
section
variable {P : Program} {w : World} {K : Frag} {cl : String → Addr} {dk : Addr} {mg : Str → Option Value} {base : Heap} {A : Adr}
theorem ok_Loom_with_lift (T : Txt K cl mg A) : FnG P w K mg base 6 A.f_Loom_with_lift A.fd_Loom_with_lift ["self", "letter", "lift"] (SpD (gg K cl dk) 3 n_Loom_with_lift) := by
    have G_Loom___init__ := ok_Loom___init__ (P := P) (w := w) (base := base) (dk := dk) T
    refine fn_of_body (g := gg K cl dk) T.F_Loom_with_lift sc_Loom_with_lift rfl rfl fun cdv A0 outer sh H E hr hgd => ?_
    unfold s_Loom_with_lift g_Loom_with_lift
    exact (pds_cons (pds_set (i := 3) sc_Loom_with_lift.nd rfl (Or.inl rfl) (pd_m1 PySem.F.slot_str_index PySem.F.type_str_index mto_index (pd_globS rfl T.c_LETTERS) (pd_var (pv 1))))
  (pds_one (pds_ret (pd_make (cn := "Loom") rfl T.own (show _ ∈ OWN by decide) T.mk_Loom G_Loom___init__ (hr.mono (by first | decide | omega)) hgd T.b_Loom___init__ (takes_of rfl rfl rfl rfl) (pd_globC (pe_glob (v := .ref _) rfl T.g_Loom rfl)) (by exact (pda_cons (pd_fld (cs := ["Loom"]) rfl T.own T.nas_Loom_shafts (pd_var (pv 0))) (pda_cons (pd_fld (cs := ["Loom"]) rfl T.own T.nas_Loom_threading (pd_var (pv 0))) (pda_cons (pd_tup (pda_star rfl (pd_slice rfl (pd_fld (cs := ["Loom"]) rfl T.own T.nas_Loom_lifts (pd_var (pv 0))) pdo_none (pdo_some (pd_var (pv 3)))) (pda_cons (pd_var (pv 2)) (pda_star rfl (pd_slice rfl (pd_fld (cs := ["Loom"]) rfl T.own T.nas_Loom_lifts (pd_var (pv 0))) (pdo_some (pd_op (opd_plus rfl) (pd_var (pv 3)) pd_int)) pdo_none) pda_nil)))) pda_nil))))))))
end
def g_Loom_threaded (p_Loom___init__ : FnI) : Ss :=
  (sRet (sOfC "Loom" (sC (.cls "Loom")) (sMake "Loom" 3 p_Loom___init__ (lCons (sFld ["Loom"] "shafts" (sV 0)) (lCons (sV 1) (lCons (sFld ["Loom"] "lifts" (sV 0)) lNil))))))
def s_Loom_threaded : Ss := g_Loom_threaded n_Loom___init__
def n_Loom_threaded : Fn := fnD 2 s_Loom_threaded
section
variable {P : Program} {w : World} {K : Frag} {cl : String → Addr} {dk : Addr} {mg : Str → Option Value} {base : Heap} {A : Adr}
theorem ok_Loom_threaded (T : Txt K cl mg A) : FnG P w K mg base 6 A.f_Loom_threaded A.fd_Loom_threaded ["self", "threading"] (SpD (gg K cl dk) 2 n_Loom_threaded) := by
    have G_Loom___init__ := ok_Loom___init__ (P := P) (w := w) (base := base) (dk := dk) T
    refine fn_of_body (g := gg K cl dk) T.F_Loom_threaded sc_Loom_threaded rfl rfl fun cdv A0 outer sh H E hr hgd => ?_
    unfold s_Loom_threaded g_Loom_threaded
    exact (pds_one (pds_ret (pd_make (cn := "Loom") rfl T.own (show _ ∈ OWN by decide) T.mk_Loom G_Loom___init__ (hr.mono (by first | decide | omega)) hgd T.b_Loom___init__ (takes_of rfl rfl rfl rfl) (pd_globC (pe_glob (v := .ref _) rfl T.g_Loom rfl)) (by exact (pda_cons (pd_fld (cs := ["Loom"]) rfl T.own T.nas_Loom_shafts (pd_var (pv 0))) (pda_cons (pd_var (pv 1)) (pda_cons (pd_fld (cs := ["Loom"]) rfl T.own T.nas_Loom_lifts (pd_var (pv 0))) pda_nil)))))))
end
end C01
set_option Elab.async false
set_option linter.all false
set_option maxRecDepth 100000
set_option maxHeartbeats 4000000
namespace C01
open PySem PySem.Spec L2 DL
open PySem.W (Frag)

def g__law_pick (p__law_draw : Fn) : Ss :=
  (sRet (sIx (sV 1) (sCall 2 p__law_draw (lCons (sV 0) (lCons (sApp (pureO lenD) (lCons (sV 1) lNil)) lNil)))))
def s__law_pick : Ss := g__law_pick n__law_draw
def n__law_pick : Fn := fnD 2 s__law_pick
section
variable {P : Program} {w : World} {K : Frag} {cl : String → Addr} {dk : Addr} {mg : Str → Option Value} {base : Heap} {A : Adr}
theorem ok__law_pick (T : Txt K cl mg A) : FnG P w K mg base 2 A.f__law_pick A.fd__law_pick ["_law_deck_here", "_law_some"] (SpD (gg K cl dk) 2 n__law_pick) := by
    have G__law_draw := ok__law_draw (P := P) (w := w) (base := base) (dk := dk) T
    refine fn_of_body (g := gg K cl dk) T.F__law_pick sc__law_pick rfl rfl fun cdv A0 outer sh H E hr hgd => ?_
    unfold s__law_pick g__law_pick
    exact (pds_one (pds_ret (pd_ix rfl (pd_var (pv 1)) (pd_call G__law_draw (hr.mono (by first | decide | omega)) hgd rfl T.m__law_draw T.F__law_draw.kp T.b__law_draw (takes_of rfl rfl rfl rfl) (by exact (pda_cons (pd_var (pv 0)) (pda_cons (pd_callB (callo_len rfl) (by rfl) T.n_len (by decide +kernel) (by exact (pda_cons (pd_var (pv 1)) pda_nil))) pda_nil)))))))
end
def g__law_part (p__law_draw : Fn) : Ss :=
  (sRet (sApp (pureO tupleD) (lCons (sFrz (sComp (.name 3) [3] (sB (sOp eqD (sCall 2 p__law_draw (lCons (sV 0) (lCons (sV 2) lNil))) (sC (.int 0)))) (sV 3) (iVal (sV 1)))) lNil)))
def s__law_part : Ss := g__law_part n__law_draw
def n__law_part : Fn := fnD 4 s__law_part
section
variable {P : Program} {w : World} {K : Frag} {cl : String → Addr} {dk : Addr} {mg : Str → Option Value} {base : Heap} {A : Adr}
theorem ok__law_part (T : Txt K cl mg A) : FnG P w K mg base 2 A.f__law_part A.fd__law_part ["_law_deck_here", "_law_some", "_law_often"] (SpD (gg K cl dk) 3 n__law_part) := by
    have G__law_draw := ok__law_draw (P := P) (w := w) (base := base) (dk := dk) T
    refine fn_of_body (g := gg K cl dk) T.F__law_part sc__law_part rfl rfl fun cdv A0 outer sh H E hr hgd => ?_
    unfold s__law_part g__law_part
    exact (pds_one (pds_ret (pd_callTy (callo_tuple rfl) (by rfl) T.n_tuple (by decide +kernel) (by exact (pda_cons (pd_ofN (pdn_lc (own := [("_law_it", 3)]) (t := (.name 3)) rfl sc__law_part.nd (pdi_val rfl (pd_var (pv 1))) (blkOk_by (own := [("_law_it", 3)]) (N := ["_law_deck_here", "_law_some", "_law_often", "_law_it"]) (sc := defScope st__law_part) (by decide +kernel)) (by decide) (fun _ _ _ _ _ => (pdg_name (i := 3) sc__law_part.nd rfl (Or.inl rfl))) (fun _ _ _ _ _ => (pdts_one (pdt_cmp (opd_eq rfl hr.units) (pd_call G__law_draw (hr.mono (by first | decide | omega)) hgd rfl T.m__law_draw T.F__law_draw.kp T.b__law_draw takes0 (by exact (pda_cons (pd_var (pv 0)) (pda_cons (pd_var (pv 2)) pda_nil)))) pd_int (nomark _)))) (fun _ _ _ _ _ => (pd_var (pv 3))))) pda_nil)))))
end
def g__law_loom (p__law_pick : Fn) (p__law_draw : Fn) (p__law_part : Fn) : Ss :=
  (sSeq (sPar [1, 2] (mD (sCall 2 p__law_pick (lCons (sV 0) (lCons (sLst (lCons (sC (.int 1)) (lCons (sC (.int 2)) (lCons (sC (.int 3)) (lCons (sC (.int 4)) (lCons (sC (.int 4)) (lCons (sC (.int 4)) lNil))))))) lNil))) (mN (sNew lNil) mNil)))
  (sSeq (sSet 3 (sIf (sB (sOp eqD (sCall 2 p__law_draw (lCons (sV 0) (lCons (sC (.int 3)) lNil))) (sC (.int 0)))) (sFrz (iLR1 (sCall 2 p__law_draw (lCons (sV 0) (lCons (sOp plusD (sV 1) (sC (.int 1))) lNil))))) (sLst lNil)))
  (sSeq (sPar [4, 5, 6] (mD (sCall 3 p__law_part (lCons (sV 0) (lCons (sFrz (iLR1 (sV 1))) (lCons (sC (.int 2)) lNil)))) (mD (sC (.bl true)) (mD (sOp eqN (sV 3) (sLst lNil)) mNil))))
  (sSeq (sFor (.name 7) (iRange1 (sCall 2 p__law_pick (lCons (sV 0) (lCons (sLst (lCons (sC (.int 1)) (lCons (sC (.int 2)) (lCons (sC (.int 3)) (lCons (sC (.int 4)) (lCons (sC (.int 4)) (lCons (sC (.int 4)) lNil))))))) lNil))))
  (sSeq (sIfS (sAndB (sB (sOp gtD (sV 7) (sC (.int 0)))) (sB (sOp eqD (sCall 2 p__law_draw (lCons (sV 0) (lCons (sC (.int 2)) lNil))) (sC (.int 0)))))
  (sSet 4 (sApp (pureO tupleD) (lCons (sFrz (sComp (.name 8) [8] (sB (sOp notInD (sV 8) (sV 4))) (sV 8) (iRange1 (sV 1)))) lNil)))
  (sIfS (sB (sOp gtD (sV 7) (sC (.int 0))))
  (sPar [4, 5] (mD (sCall 3 p__law_part (lCons (sV 0) (lCons (sFrz (iLR1 (sV 1))) (lCons (sC (.int 2)) lNil)))) (mD (sOp eqD (sCall 2 p__law_draw (lCons (sV 0) (lCons (sC (.int 2)) lNil))) (sC (.int 0))) mNil)))
  sSkip))
  (sSeq (sSet 9 (sFrz (iVal (sV 4))))
  (sSeq (sIfS (sNotB (sTru (sV 6)))
  (sSet 9 (sIf (sTru (sV 5)) (sFrz (sComp (.name 8) [8] (sB (sOp inD (sV 8) (sV 3))) (sV 8) (iVal (sV 4)))) (sOp plusD (sFrz (iVal (sV 4))) (sV 3))))
  sSkip)
  (sApnd 2 (sApp (pureO tupleD) (lCons (sSortSet (sV 9)) lNil)))))))
  (sSeq (sIfS (sAndB (sB (sOp eqD (sV 1) (sC (.int 4)))) (sB (sOp eqD (sCall 2 p__law_draw (lCons (sV 0) (lCons (sC (.int 8)) lNil))) (sC (.int 0)))))
  (sSet 2 (sSl (sLst (lCons (sTup (lCons (sC (.int 0)) lNil)) (lCons (sTup (lCons (sC (.int 1)) lNil)) (lCons (sTup (lCons (sC (.int 0)) (lCons (sC (.int 1)) (lCons (sC (.int 2)) lNil)))) (lCons (sTup (lCons (sC (.int 0)) (lCons (sC (.int 1)) (lCons (sC (.int 3)) lNil)))) lNil))))) (oSome (sCall 2 p__law_draw (lCons (sV 0) (lCons (sC (.int 2)) lNil)))) oNone))
  sSkip)
  (sSeq (sSet 10 (sCall 2 p__law_pick (lCons (sV 0) (lCons (sLst (lCons (sC (.int 1)) (lCons (sC (.int 2)) (lCons (sC (.int 3)) (lCons (sC (.int 4)) (lCons (sC (.int 5)) (lCons (sC (.int 6)) (lCons (sC (.int 8)) (lCons (sC (.int 12)) lNil))))))))) lNil))))
  (sSeq (sSet 11 (sOp gtD (sCall 2 p__law_draw (lCons (sV 0) (lCons (sC (.int 3)) lNil))) (sC (.int 0))))
  (sSeq (sSet 12 (sApp (pureO tupleD) (lCons (sFrz (sComp (.name 7) [7] sYes (sIf (sAndB (sB (sOp ltD (sV 7) (sV 1))) (sTru (sV 11))) (sV 7) (sCall 2 p__law_draw (lCons (sV 0) (lCons (sV 1) lNil)))) (iRange1 (sV 10)))) lNil)))
  (sFrzS 2 (sRet (sDisp (kvCons "count" (sV 1) (kvCons "thread" (sV 12) (kvCons "lots" (sApp (pureO tupleD) (lCons (sV 2) lNil)) kvNil))))))))))))))
def s__law_loom : Ss := g__law_loom n__law_pick n__law_draw n__law_part
def n__law_loom : Fn := fnD 13 s__law_loom
section
variable {P : Program} {w : World} {K : Frag} {cl : String → Addr} {dk : Addr} {mg : Str → Option Value} {base : Heap} {A : Adr}
theorem ok__law_loom (T : Txt K cl mg A) : FnG P w K mg base 3 A.f__law_loom A.fd__law_loom ["_law_deck_here"] (SpD (gg K cl dk) 1 n__law_loom) := by
    have G__law_draw := ok__law_draw (P := P) (w := w) (base := base) (dk := dk) T
    have G__law_part := ok__law_part (P := P) (w := w) (base := base) (dk := dk) T
    have G__law_pick := ok__law_pick (P := P) (w := w) (base := base) (dk := dk) T
    refine fn_of_body (g := gg K cl dk) T.F__law_loom sc__law_loom rfl rfl fun cdv A0 outer sh H E hr hgd => ?_
    unfold s__law_loom g__law_loom
    exact (pds_cons (pds_parT (is := [1, 2]) rfl rfl (by decide) (pdgs_cons (pdg_name (i := 1) sc__law_loom.nd rfl (Or.inr rfl)) (pdgs_cons (pdg_name (i := 2) sc__law_loom.nd rfl (Or.inl rfl)) pdgs_nil)) (by exact (pdm_d (pd_call G__law_pick (hr.mono (by first | decide | omega)) hgd rfl T.m__law_pick T.F__law_pick.kp T.b__law_pick (takes_of rfl rfl rfl rfl) (by exact (pda_cons (pd_var (pv 0)) (pda_cons (pd_lst (pda_cons pd_int (pda_cons pd_int (pda_cons pd_int (pda_cons pd_int (pda_cons pd_int (pda_cons pd_int pda_nil))))))) pda_nil)))) (pdm_n (pdn_lst pda_nil) pdm_nil))))
  (pds_cons (pds_set (i := 3) sc__law_loom.nd rfl (Or.inr rfl) (pd_if (pdt_cmp (opd_eq rfl hr.units) (pd_call G__law_draw (hr.mono (by first | decide | omega)) hgd rfl T.m__law_draw T.F__law_draw.kp T.b__law_draw (takes_of rfl rfl rfl rfl) (by exact (pda_cons (pd_var (pv 0)) (pda_cons pd_int pda_nil)))) pd_int (nomark _)) (pd_ofN (pdn_listRg rfl (by rfl) T.n_list (by rfl) T.n_range (pd_call G__law_draw (hr.mono (by first | decide | omega)) hgd rfl T.m__law_draw T.F__law_draw.kp T.b__law_draw (takes_of rfl rfl rfl rfl) (by exact (pda_cons (pd_var (pv 0)) (pda_cons (pd_op (opd_plus rfl) (pd_var (pv 1)) pd_int) pda_nil)))))) (pd_lst pda_nil)))
  (pds_cons (pds_parT (is := [4, 5, 6]) rfl rfl (by decide) (pdgs_cons (pdg_name (i := 4) sc__law_loom.nd rfl (Or.inr rfl)) (pdgs_cons (pdg_name (i := 5) sc__law_loom.nd rfl (Or.inl rfl)) (pdgs_cons (pdg_name (i := 6) sc__law_loom.nd rfl (Or.inl rfl)) pdgs_nil))) (by exact (pdm_d (pd_call G__law_part (hr.mono (by first | decide | omega)) hgd rfl T.m__law_part T.F__law_part.kp T.b__law_part (takes_of rfl rfl rfl rfl) (by exact (pda_cons (pd_var (pv 0)) (pda_cons (pd_ofN (pdn_listRg rfl (by rfl) T.n_list (by rfl) T.n_range (pd_var (pv 1)))) (pda_cons pd_int pda_nil))))) (pdm_d pd_bl (pdm_d (pd_cmp (opd_eqN rfl hr.units) (pd_var (pv 3)) (pd_lst pda_nil) (nomark _)) pdm_nil)))))
  (pds_cons (pds_for (tt := (.name 7)) (passes_of rfl) rfl (pdi_range1 (by rfl) T.n_range (pd_call G__law_pick (hr.mono (by first | decide | omega)) hgd rfl T.m__law_pick T.F__law_pick.kp T.b__law_pick (takes_of rfl rfl rfl rfl) (by exact (pda_cons (pd_var (pv 0)) (pda_cons (pd_lst (pda_cons pd_int (pda_cons pd_int (pda_cons pd_int (pda_cons pd_int (pda_cons pd_int (pda_cons pd_int pda_nil))))))) pda_nil))))) (pdg_name (i := 7) sc__law_loom.nd rfl (Or.inl rfl))
  (pds_cons (pds_if (PDW.pt (pdw_and (pdt_cmp opd_gt (pd_var (pv 7)) pd_int (nomark _)) (pdw_and1 (pdt_cmp (opd_eq rfl hr.units) (pd_call G__law_draw (hr.mono (by first | decide | omega)) hgd rfl T.m__law_draw T.F__law_draw.kp T.b__law_draw (takes_of rfl rfl rfl rfl) (by exact (pda_cons (pd_var (pv 0)) (pda_cons pd_int pda_nil)))) pd_int (nomark _)))))
  (pds_one (pds_set (i := 4) sc__law_loom.nd rfl (Or.inr rfl) (pd_callTy (callo_tuple rfl) (by rfl) T.n_tuple (by decide +kernel) (by exact (pda_cons (pd_ofN (pdn_lc (own := [("_law_s", 8)]) (t := (.name 8)) rfl sc__law_loom.nd (pdi_range1 (by rfl) T.n_range (pd_var (pv 1))) (blkOk_by (own := [("_law_s", 8)]) (N := ["_law_deck_here", "_law_count", "_law_lots", "_law_top", "_law_own", "_law_is_upper", "_law_is_flat", "_law_k", "_law_s", "_law_kept", "_law_ends_now", "_law_is_whole_here", "_law_thread"]) (sc := defScope st__law_loom) (by decide +kernel)) (by decide) (fun _ _ _ _ _ => (pdg_name (i := 8) sc__law_loom.nd rfl (Or.inl rfl))) (fun _ _ _ _ _ => (pdts_one (pdt_cmp (opd_notIn rfl) (pd_var (pv 8)) (pd_var (pv 4)) (by rfl)))) (fun _ _ _ _ _ => (pd_var (pv 8))))) pda_nil)))))
  (pds_one (pds_if (pdt_cmp opd_gt (pd_var (pv 7)) pd_int (nomark _))
  (pds_one (pds_parT (is := [4, 5]) rfl rfl (by decide) (pdgs_cons (pdg_name (i := 4) sc__law_loom.nd rfl (Or.inr rfl)) (pdgs_cons (pdg_name (i := 5) sc__law_loom.nd rfl (Or.inl rfl)) pdgs_nil)) (by exact (pdm_d (pd_call G__law_part (hr.mono (by first | decide | omega)) hgd rfl T.m__law_part T.F__law_part.kp T.b__law_part (takes_of rfl rfl rfl rfl) (by exact (pda_cons (pd_var (pv 0)) (pda_cons (pd_ofN (pdn_listRg rfl (by rfl) T.n_list (by rfl) T.n_range (pd_var (pv 1)))) (pda_cons pd_int pda_nil))))) (pdm_d (pd_cmp (opd_eq rfl hr.units) (pd_call G__law_draw (hr.mono (by first | decide | omega)) hgd rfl T.m__law_draw T.F__law_draw.kp T.b__law_draw (takes_of rfl rfl rfl rfl) (by exact (pda_cons (pd_var (pv 0)) (pda_cons pd_int pda_nil)))) pd_int (nomark _)) pdm_nil)))))
  pds_nil)))
  (pds_cons (pds_set (i := 9) sc__law_loom.nd rfl (Or.inl rfl) (pd_ofN (pdn_list rfl rfl (by rfl) T.n_list (by decide +kernel) (pd_var (pv 4)))))
  (pds_cons (pds_if (pdt_not (pdt_truth rfl (pd_var (pv 6)) (by intro _; rfl)))
  (pds_one (pds_set (i := 9) sc__law_loom.nd rfl (Or.inl rfl) (pd_if (pdt_truth rfl (pd_var (pv 5)) (by intro _; rfl)) (pd_ofN (pdn_lc (own := [("_law_s", 8)]) (t := (.name 8)) rfl sc__law_loom.nd (pdi_val rfl (pd_var (pv 4))) (blkOk_by (own := [("_law_s", 8)]) (N := ["_law_deck_here", "_law_count", "_law_lots", "_law_top", "_law_own", "_law_is_upper", "_law_is_flat", "_law_k", "_law_s", "_law_kept", "_law_ends_now", "_law_is_whole_here", "_law_thread"]) (sc := defScope st__law_loom) (by decide +kernel)) (by decide) (fun _ _ _ _ _ => (pdg_name (i := 8) sc__law_loom.nd rfl (Or.inl rfl))) (fun _ _ _ _ _ => (pdts_one (pdt_cmp (opd_in rfl) (pd_var (pv 8)) (pd_var (pv 3)) (by rfl)))) (fun _ _ _ _ _ => (pd_var (pv 8))))) (pd_op (opd_plus rfl) (pd_ofN (pdn_list rfl rfl (by rfl) T.n_list (by decide +kernel) (pd_var (pv 4)))) (pd_var (pv 3))))))
  pds_nil)
  (pds_one (pds_append (i := 2) rfl (pv 2) (pd_callTy (callo_tuple rfl) (by rfl) T.n_tuple (by decide +kernel) (by exact (pda_cons (pd_sortSet rfl rfl (by rfl) T.n_sorted (by rfl) T.n_set (pd_var (pv 9))) pda_nil)))))))))
  (pds_cons (pds_if (PDW.pt (pdw_and (pdt_cmp (opd_eq rfl hr.units) (pd_var (pv 1)) pd_int (nomark _)) (pdw_and1 (pdt_cmp (opd_eq rfl hr.units) (pd_call G__law_draw (hr.mono (by first | decide | omega)) hgd rfl T.m__law_draw T.F__law_draw.kp T.b__law_draw (takes_of rfl rfl rfl rfl) (by exact (pda_cons (pd_var (pv 0)) (pda_cons pd_int pda_nil)))) pd_int (nomark _)))))
  (pds_one (pds_set (i := 2) sc__law_loom.nd rfl (Or.inl rfl) (pd_slice rfl (pd_lst (pda_cons (pd_tup (pda_cons pd_int pda_nil)) (pda_cons (pd_tup (pda_cons pd_int pda_nil)) (pda_cons (pd_tup (pda_cons pd_int (pda_cons pd_int (pda_cons pd_int pda_nil)))) (pda_cons (pd_tup (pda_cons pd_int (pda_cons pd_int (pda_cons pd_int pda_nil)))) pda_nil))))) (pdo_some (pd_call G__law_draw (hr.mono (by first | decide | omega)) hgd rfl T.m__law_draw T.F__law_draw.kp T.b__law_draw (takes_of rfl rfl rfl rfl) (by exact (pda_cons (pd_var (pv 0)) (pda_cons pd_int pda_nil))))) pdo_none)))
  pds_nil)
  (pds_cons (pds_set (i := 10) sc__law_loom.nd rfl (Or.inl rfl) (pd_call G__law_pick (hr.mono (by first | decide | omega)) hgd rfl T.m__law_pick T.F__law_pick.kp T.b__law_pick (takes_of rfl rfl rfl rfl) (by exact (pda_cons (pd_var (pv 0)) (pda_cons (pd_lst (pda_cons pd_int (pda_cons pd_int (pda_cons pd_int (pda_cons pd_int (pda_cons pd_int (pda_cons pd_int (pda_cons pd_int (pda_cons pd_int pda_nil))))))))) pda_nil)))))
  (pds_cons (pds_set (i := 11) sc__law_loom.nd rfl (Or.inr rfl) (pd_cmp opd_gt (pd_call G__law_draw (hr.mono (by first | decide | omega)) hgd rfl T.m__law_draw T.F__law_draw.kp T.b__law_draw (takes_of rfl rfl rfl rfl) (by exact (pda_cons (pd_var (pv 0)) (pda_cons pd_int pda_nil)))) pd_int (nomark _)))
  (pds_cons (pds_set (i := 12) sc__law_loom.nd rfl (Or.inl rfl) (pd_callTy (callo_tuple rfl) (by rfl) T.n_tuple (by decide +kernel) (by exact (pda_cons (pd_ofN (pdn_lc (own := [("_law_k", 7)]) (t := (.name 7)) rfl sc__law_loom.nd (pdi_range1 (by rfl) T.n_range (pd_var (pv 10))) (blkOk_by (own := [("_law_k", 7)]) (N := ["_law_deck_here", "_law_count", "_law_lots", "_law_top", "_law_own", "_law_is_upper", "_law_is_flat", "_law_k", "_law_s", "_law_kept", "_law_ends_now", "_law_is_whole_here", "_law_thread"]) (sc := defScope st__law_loom) (by decide +kernel)) (by decide) (fun _ _ _ _ _ => (pdg_name (i := 7) sc__law_loom.nd rfl (Or.inl rfl))) (fun _ _ _ _ _ => pdts_nil) (fun _ _ _ _ _ => (pd_if (PDW.pt (pdw_and (pdt_cmp opd_lt (pd_var (pv 7)) (pd_var (pv 1)) (nomark _)) (pdw_and1 (pdt_truth rfl (pd_var (pv 11)) (by intro _; rfl))))) (pd_var (pv 7)) (pd_call G__law_draw (hr.mono (by first | decide | omega)) hgd rfl T.m__law_draw T.F__law_draw.kp T.b__law_draw takes0 (by exact (pda_cons (pd_var (pv 0)) (pda_cons (pd_var (pv 1)) pda_nil)))))))) pda_nil))))
  (pds_one (pds_frz (i := 2) (pds_ret (pd_disp (pdp_cons (pd_var (pv 1)) (pdp_cons (pd_var (pv 12)) (pdp_cons (pd_callTy (callo_tuple rfl) (by rfl) T.n_tuple (by decide +kernel) (by exact (pda_cons (pd_var (pv 2)) pda_nil))) pdp_nil)))))))))))))))
end
def g__law_signs : Ss :=
  (sRet (sSl (sC (.str "abcdefghijklmnopqrstuvwxyz")) oNone (oSome (sApp (pureO lenD) (lCons (sKey (sV 0) (sC (.str "lots"))) lNil)))))
def s__law_signs : Ss := g__law_signs
def n__law_signs : Fn := fnD 1 s__law_signs
section
variable {P : Program} {w : World} {K : Frag} {cl : String → Addr} {dk : Addr} {mg : Str → Option Value} {base : Heap} {A : Adr}
theorem ok__law_signs (T : Txt K cl mg A) : FnG P w K mg base 1 A.f__law_signs A.fd__law_signs ["_law_w"] (SpD (gg K cl dk) 1 n__law_signs) := by
    refine fn_of_body (g := gg K cl dk) T.F__law_signs sc__law_signs rfl rfl fun cdv A0 outer sh H E hr hgd => ?_
    unfold s__law_signs g__law_signs
    exact (pds_one (pds_ret (pd_slice rfl pd_str pdo_none (pdo_some (pd_callB (callo_len rfl) (by rfl) T.n_len (by decide +kernel) (by exact (pda_cons (pd_key hr.units (pd_var (pv 0)) pd_str) pda_nil)))))))
end
def g__law_odd (p__law_pick : Fn) : Ss :=
  (sSeq (sSet 2 (sLst (lCons (sC .non) (lCons (sC (.bl true)) (lCons (sC (.bl false)) (lCons (sC (.int 0)) (lCons (sC (.int 1)) (lCons (sNeg (sC (.int 1))) (lCons (sC (.int 2)) (lCons (sC (.int 99)) (lCons (sC (.int 100)) (lCons (sOp powD (sC (.int 10)) (sC (.int 39))) (lCons (sC (.str "")) (lCons (sC (.str "x")) (lCons (sC (.str "-")) (lCons (sC (.str "ab")) (lCons (sC (.str "x-")) (lCons (sC (.str "A")) (lCons (sTup lNil) (lCons (sTup (lCons (sC (.int 0)) lNil)) (lCons (sTup (lCons (sC (.int 1)) (lCons (sC (.int 0)) lNil))) (lCons (sTup (lCons (sC (.int 0)) (lCons (sC (.int 0)) lNil))) lNil))))))))))))))))))))))
  (sSeq (sSet 2 (sOp plusD (sV 2) (sLst (lCons (sLst lNil) (lCons (sC (.dct [])) (lCons (sTup (lCons (sTup lNil) lNil)) (lCons (sTup (lCons (sC (.bl true)) lNil)) (lCons (sTup (lCons (sC (.str "a")) lNil)) (lCons (sTup (lCons (sC (.int 0)) (lCons (sC (.int 1)) lNil))) (lCons (sTup (lCons (sTup (lCons (sC (.int 0)) lNil)) (lCons (sTup (lCons (sC (.int 1)) lNil)) lNil))) lNil))))))))))
  (sSeq (sIfS (sTru (sIsi "tuple" (sV 1)))
  (sSet 2 (sOp plusD (sV 2) (sOp timesD (sLst (lCons (sFrz (iVal (sV 1))) (lCons (sSl (sV 1) (oSome (sC (.int 1))) oNone) (lCons (sSl (sV 1) oNone (oSome (sNeg (sC (.int 1))))) (lCons (sOp plusD (sV 1) (sSl (sV 1) (oSome (sNeg (sC (.int 1)))) oNone)) (lCons (sRev (sV 1)) (lCons (sTup (lCons (sV 1) lNil)) lNil))))))) (sC (.int 2)))))
  sSkip)
  (sSeq (sIfS (sTru (sIsi "int" (sV 1)))
  (sSet 2 (sOp plusD (sV 2) (sOp timesD (sLst (lCons (sOp plusD (sV 1) (sC (.int 1))) (lCons (sOp minusD (sV 1) (sC (.int 1))) (lCons (sOp eqD (sV 1) (sC (.int 1))) (lCons (sApp textD (lCons (sV 1) lNil)) lNil))))) (sC (.int 3)))))
  sSkip)
  (sSeq (sIfS (sTru (sIsi "str" (sV 1)))
  (sSet 2 (sOp plusD (sV 2) (sOp timesD (sLst (lCons (sOp plusD (sV 1) (sC (.str "x"))) (lCons (sSl (sV 1) (oSome (sC (.int 1))) oNone) (lCons (sRev (sV 1)) (lCons (sM0 upperD (sV 1)) (lCons (sFrz (iVal (sV 1))) (lCons (sOp plusD (sV 1) (sC (.str " "))) lNil))))))) (sC (.int 2)))))
  sSkip)
  (sRet (sCall 2 p__law_pick (lCons (sV 0) (lCons (sV 2) lNil)))))))))
def s__law_odd : Ss := g__law_odd n__law_pick
def n__law_odd : Fn := fnD 3 s__law_odd
section
variable {P : Program} {w : World} {K : Frag} {cl : String → Addr} {dk : Addr} {mg : Str → Option Value} {base : Heap} {A : Adr}
theorem ok__law_odd (T : Txt K cl mg A) : FnG P w K mg base 3 A.f__law_odd A.fd__law_odd ["_law_deck_here", "_law_it"] (SpD (gg K cl dk) 2 n__law_odd) := by
    have G__law_pick := ok__law_pick (P := P) (w := w) (base := base) (dk := dk) T
    refine fn_of_body (g := gg K cl dk) T.F__law_odd sc__law_odd rfl rfl fun cdv A0 outer sh H E hr hgd => ?_
    unfold s__law_odd g__law_odd
    exact (pds_cons (pds_set (i := 2) sc__law_odd.nd rfl (Or.inl rfl) (pd_lst (pda_cons pd_non (pda_cons pd_bl (pda_cons pd_bl (pda_cons pd_int (pda_cons pd_int (pda_cons (pd_neg' pd_int) (pda_cons pd_int (pda_cons pd_int (pda_cons pd_int (pda_cons (pd_op opd_pow pd_int pd_int) (pda_cons pd_str (pda_cons pd_str (pda_cons pd_str (pda_cons pd_str (pda_cons pd_str (pda_cons pd_str (pda_cons (pd_tup pda_nil) (pda_cons (pd_tup (pda_cons pd_int pda_nil)) (pda_cons (pd_tup (pda_cons pd_int (pda_cons pd_int pda_nil))) (pda_cons (pd_tup (pda_cons pd_int (pda_cons pd_int pda_nil))) pda_nil))))))))))))))))))))))
  (pds_cons (pds_set (i := 2) sc__law_odd.nd rfl (Or.inl rfl) (pd_op (opd_plus rfl) (pd_var (pv 2)) (pd_lst (pda_cons (pd_lst pda_nil) (pda_cons pd_dnew (pda_cons (pd_tup (pda_cons (pd_tup pda_nil) pda_nil)) (pda_cons (pd_tup (pda_cons pd_bl pda_nil)) (pda_cons (pd_tup (pda_cons pd_str pda_nil)) (pda_cons (pd_tup (pda_cons pd_int (pda_cons pd_int pda_nil))) (pda_cons (pd_tup (pda_cons (pd_tup (pda_cons pd_int pda_nil)) (pda_cons (pd_tup (pda_cons pd_int pda_nil)) pda_nil))) pda_nil))))))))))
  (pds_cons (pds_if (pdt_truth rfl (pd_isi (T := "tuple") rfl T.own (by decide) (pe_bltn (v := .ty "tuple") (u := .type "tuple") (by rfl) T.n_tuple (by decide +kernel) rfl) (by rfl) T.n_isinstance (pd_var (pv 1))) (by intro _; rfl))
  (pds_one (pds_set (i := 2) sc__law_odd.nd rfl (Or.inl rfl) (pd_op (opd_plus rfl) (pd_var (pv 2)) (pd_op (opd_times rfl) (pd_lst (pda_cons (pd_ofN (pdn_list rfl rfl (by rfl) T.n_list (by decide +kernel) (pd_var (pv 1)))) (pda_cons (pd_slice rfl (pd_var (pv 1)) (pdo_some pd_int) pdo_none) (pda_cons (pd_slice rfl (pd_var (pv 1)) pdo_none (pdo_some (pd_neg' pd_int))) (pda_cons (pd_op (opd_plus rfl) (pd_var (pv 1)) (pd_slice rfl (pd_var (pv 1)) (pdo_some (pd_neg' pd_int)) pdo_none)) (pda_cons (pd_rev rfl (pd_var (pv 1))) (pda_cons (pd_tup (pda_cons (pd_var (pv 1)) pda_nil)) pda_nil))))))) pd_int))))
  pds_nil)
  (pds_cons (pds_if (pdt_truth rfl (pd_isi (T := "int") rfl T.own (by decide) (pe_bltn (v := .ty "int") (u := .type "int") (by rfl) T.n_int (by decide +kernel) rfl) (by rfl) T.n_isinstance (pd_var (pv 1))) (by intro _; rfl))
  (pds_one (pds_set (i := 2) sc__law_odd.nd rfl (Or.inl rfl) (pd_op (opd_plus rfl) (pd_var (pv 2)) (pd_op (opd_times rfl) (pd_lst (pda_cons (pd_op (opd_plus rfl) (pd_var (pv 1)) pd_int) (pda_cons (pd_op opd_minus (pd_var (pv 1)) pd_int) (pda_cons (pd_cmp (opd_eq rfl hr.units) (pd_var (pv 1)) pd_int (nomark _)) (pda_cons (pd_callTy callo_text (by rfl) T.n_str (by decide +kernel) (by exact (pda_cons (pd_var (pv 1)) pda_nil))) pda_nil))))) pd_int))))
  pds_nil)
  (pds_cons (pds_if (pdt_truth rfl (pd_isi (T := "str") rfl T.own (by decide) (pe_bltn (v := .ty "str") (u := .type "str") (by rfl) T.n_str (by decide +kernel) rfl) (by rfl) T.n_isinstance (pd_var (pv 1))) (by intro _; rfl))
  (pds_one (pds_set (i := 2) sc__law_odd.nd rfl (Or.inl rfl) (pd_op (opd_plus rfl) (pd_var (pv 2)) (pd_op (opd_times rfl) (pd_lst (pda_cons (pd_op (opd_plus rfl) (pd_var (pv 1)) pd_str) (pda_cons (pd_slice rfl (pd_var (pv 1)) (pdo_some pd_int) pdo_none) (pda_cons (pd_rev rfl (pd_var (pv 1))) (pda_cons (pd_m0 PySem.F.slot_str_upper PySem.F.type_str_upper mto_upper (pd_var (pv 1))) (pda_cons (pd_ofN (pdn_list rfl rfl (by rfl) T.n_list (by decide +kernel) (pd_var (pv 1)))) (pda_cons (pd_op (opd_plus rfl) (pd_var (pv 1)) pd_str) pda_nil))))))) pd_int))))
  pds_nil)
  (pds_one (pds_ret (pd_call G__law_pick (hr.mono (by first | decide | omega)) hgd rfl T.m__law_pick T.F__law_pick.kp T.b__law_pick (takes_of rfl rfl rfl rfl) (by exact (pda_cons (pd_var (pv 0)) (pda_cons (pd_var (pv 2)) pda_nil)))))))))))
end
def g__law_bent (p__law_draw : Fn) (p__law_odd : Fn) (rec_ : Fn) : Ss :=
  (sSeq (sIfS (sOrB (sB (sOp eqD (sV 2) (sC (.int 0)))) (sOrB (sNotB (sTru (sIsi "tuple" (sV 1)))) (sOrB (sB (sOp eqD (sV 1) (sTup lNil))) (sB (sOp eqD (sCall 2 p__law_draw (lCons (sV 0) (lCons (sC (.int 5)) lNil))) (sC (.int 0)))))))
  (sRet (sCall 2 p__law_odd (lCons (sV 0) (lCons (sV 1) lNil))))
  sSkip)
  (sSeq (sSet 3 (sCall 2 p__law_draw (lCons (sV 0) (lCons (sApp (pureO lenD) (lCons (sV 1) lNil)) lNil))))
  (sRet (sOp plusD (sOp plusD (sSl (sV 1) oNone (oSome (sV 3))) (sTup (lCons (sCall 3 rec_ (lCons (sV 0) (lCons (sIx (sV 1) (sV 3)) (lCons (sOp minusD (sV 2) (sC (.int 1))) lNil)))) lNil))) (sSl (sV 1) (oSome (sOp plusD (sV 3) (sC (.int 1)))) oNone)))))
def s__law_bent (rec_ : Fn) : Ss := g__law_bent n__law_draw n__law_odd rec_
def n__law_bent : Nat → Fn
  | 0 => fun _ _ => .bad
  | r + 1 => fnD 4 (s__law_bent (n__law_bent r))
section
variable {P : Program} {w : World} {K : Frag} {cl : String → Addr} {dk : Addr} {mg : Str → Option Value} {base : Heap} {A : Adr}
theorem ok__law_bent (T : Txt K cl mg A) : ∀ r : Nat, FnG P w K mg base (4 + r) A.f__law_bent A.fd__law_bent ["_law_deck_here", "_law_it", "_law_deep"] (SpD (gg K cl dk) 3 (n__law_bent r))
  | 0 => fnG_never (by decide)
  | r + 1 => by
    have G__law_bent := ok__law_bent T r
    have G__law_draw := ok__law_draw (P := P) (w := w) (base := base) (dk := dk) T
    have G__law_odd := ok__law_odd (P := P) (w := w) (base := base) (dk := dk) T
    refine fn_of_body (g := gg K cl dk) (k := 4 + r) T.F__law_bent sc__law_bent rfl rfl fun cdv A0 outer sh H E hr hgd => ?_
    unfold s__law_bent g__law_bent
    exact (pds_cons (pds_if (PDW.pt (pdw_or (pdt_cmp (opd_eq rfl hr.units) (pd_var (pv 2)) pd_int (nomark _)) (pdw_or (pdt_not (pdt_truth rfl (pd_isi (T := "tuple") rfl T.own (by decide) (pe_bltn (v := .ty "tuple") (u := .type "tuple") (by rfl) T.n_tuple (by decide +kernel) rfl) (by rfl) T.n_isinstance (pd_var (pv 1))) (by intro _; rfl))) (pdw_or (pdt_cmp (opd_eq rfl hr.units) (pd_var (pv 1)) (pd_tup pda_nil) (nomark _)) (pdw_or1 (pdt_cmp (opd_eq rfl hr.units) (pd_call G__law_draw (hr.mono (by first | decide | omega)) hgd rfl T.m__law_draw T.F__law_draw.kp T.b__law_draw (takes_of rfl rfl rfl rfl) (by exact (pda_cons (pd_var (pv 0)) (pda_cons pd_int pda_nil)))) pd_int (nomark _)))))))
  (pds_one (pds_ret (pd_call G__law_odd (hr.mono (by first | decide | omega)) hgd rfl T.m__law_odd T.F__law_odd.kp T.b__law_odd (takes_of rfl rfl rfl rfl) (by exact (pda_cons (pd_var (pv 0)) (pda_cons (pd_var (pv 1)) pda_nil))))))
  pds_nil)
  (pds_cons (pds_set (i := 3) sc__law_bent.nd rfl (Or.inl rfl) (pd_call G__law_draw (hr.mono (by first | decide | omega)) hgd rfl T.m__law_draw T.F__law_draw.kp T.b__law_draw (takes_of rfl rfl rfl rfl) (by exact (pda_cons (pd_var (pv 0)) (pda_cons (pd_callB (callo_len rfl) (by rfl) T.n_len (by decide +kernel) (by exact (pda_cons (pd_var (pv 1)) pda_nil))) pda_nil)))))
  (pds_one (pds_ret (pd_op (opd_plus rfl) (pd_op (opd_plus rfl) (pd_slice rfl (pd_var (pv 1)) pdo_none (pdo_some (pd_var (pv 3)))) (pd_tup (pda_cons (pd_call G__law_bent (hr.mono (by first | decide | omega)) hgd rfl T.m__law_bent T.F__law_bent.kp T.b__law_bent (takes_of rfl rfl rfl rfl) (by exact (pda_cons (pd_var (pv 0)) (pda_cons (pd_ix rfl (pd_var (pv 1)) (pd_var (pv 3))) (pda_cons (pd_op opd_minus (pd_var (pv 2)) pd_int) pda_nil))))) pda_nil))) (pd_slice rfl (pd_var (pv 1)) (pdo_some (pd_op (opd_plus rfl) (pd_var (pv 3)) pd_int)) pdo_none))))))
end
def g__law_is_whole : Ss :=
  (sRet (sAnd (sIsi "int" (sV 0)) (sAnd (sNot (sIsi "bool" (sV 0))) (sChain leD leD (sV 1) (sV 0) (sV 2)))))
def s__law_is_whole : Ss := g__law_is_whole
def n__law_is_whole : Fn := fnD 3 s__law_is_whole
section
variable {P : Program} {w : World} {K : Frag} {cl : String → Addr} {dk : Addr} {mg : Str → Option Value} {base : Heap} {A : Adr}
theorem ok__law_is_whole (T : Txt K cl mg A) : FnG P w K mg base 1 A.f__law_is_whole A.fd__law_is_whole ["_law_it", "_law_least", "_law_greatest"] (SpD (gg K cl dk) 3 n__law_is_whole) := by
    refine fn_of_body (g := gg K cl dk) T.F__law_is_whole sc__law_is_whole rfl rfl fun cdv A0 outer sh H E hr hgd => ?_
    unfold s__law_is_whole g__law_is_whole
    exact (pds_one (pds_ret (pd_and rfl (pd_isi (T := "int") rfl T.own (by decide) (pe_bltn (v := .ty "int") (u := .type "int") (by rfl) T.n_int (by decide +kernel) rfl) (by rfl) T.n_isinstance (pd_var (pv 0))) (pd_and rfl (pd_not rfl (pd_isi (T := "bool") rfl T.own (by decide) (pe_bltn (v := .ty "bool") (u := .type "bool") (by rfl) T.n_bool (by decide +kernel) rfl) (by rfl) T.n_isinstance (pd_var (pv 0)))) (pd_one (pd_chain opd_le opd_le (pd_var (pv 1)) (pd_var (pv 0)) (pd_var (pv 2))))))))
end
def g__law_is_lot (p__law_is_whole : Fn) : Ss :=
  (sSeq (sIfS (sOrB (sNotB (sTru (sIsi "tuple" (sV 0)))) (sB (sOp neN (sFrz (sComp (.name 2) [2] (sNotB (sTru (sCall 3 p__law_is_whole (lCons (sV 2) (lCons (sC (.int 0)) (lCons (sV 1) lNil)))))) (sV 2) (iVal (sV 0)))) (sLst lNil))))
  (sRet (sC (.bl false)))
  sSkip)
  (sRet (sOp eqN (sFrz (sComp (.name 3) [3] (sNotB (sB (sOp ltD (sIx (sV 0) (sOp minusD (sV 3) (sC (.int 1)))) (sIx (sV 0) (sV 3))))) (sV 3) (iRange2 (sC (.int 1)) (sApp (pureO lenD) (lCons (sV 0) lNil))))) (sLst lNil))))
def s__law_is_lot : Ss := g__law_is_lot n__law_is_whole
def n__law_is_lot : Fn := fnD 4 s__law_is_lot
section
variable {P : Program} {w : World} {K : Frag} {cl : String → Addr} {dk : Addr} {mg : Str → Option Value} {base : Heap} {A : Adr}
theorem ok__law_is_lot (T : Txt K cl mg A) : FnG P w K mg base 2 A.f__law_is_lot A.fd__law_is_lot ["_law_it", "_law_greatest"] (SpD (gg K cl dk) 2 n__law_is_lot) := by
    have G__law_is_whole := ok__law_is_whole (P := P) (w := w) (base := base) (dk := dk) T
    refine fn_of_body (g := gg K cl dk) T.F__law_is_lot sc__law_is_lot rfl rfl fun cdv A0 outer sh H E hr hgd => ?_
    unfold s__law_is_lot g__law_is_lot
    exact (pds_cons (pds_if (PDW.pt (pdw_or (pdt_not (pdt_truth rfl (pd_isi (T := "tuple") rfl T.own (by decide) (pe_bltn (v := .ty "tuple") (u := .type "tuple") (by rfl) T.n_tuple (by decide +kernel) rfl) (by rfl) T.n_isinstance (pd_var (pv 0))) (by intro _; rfl))) (pdw_or1 (pdt_cmp (opd_neN rfl hr.units) (pd_ofN (pdn_lc (own := [("_law_n", 2)]) (t := (.name 2)) rfl sc__law_is_lot.nd (pdi_val rfl (pd_var (pv 0))) (blkOk_by (own := [("_law_n", 2)]) (N := ["_law_it", "_law_greatest", "_law_n", "_law_k"]) (sc := defScope st__law_is_lot) (by decide +kernel)) (by decide) (fun _ _ _ _ _ => (pdg_name (i := 2) sc__law_is_lot.nd rfl (Or.inl rfl))) (fun _ _ _ _ _ => (pdts_one (pdt_not (pdt_truth rfl (pd_call G__law_is_whole (hr.mono (by first | decide | omega)) hgd rfl T.m__law_is_whole T.F__law_is_whole.kp T.b__law_is_whole takes0 (by exact (pda_cons (pd_var (pv 2)) (pda_cons pd_int (pda_cons (pd_var (pv 1)) pda_nil))))) (by intro _; rfl))))) (fun _ _ _ _ _ => (pd_var (pv 2))))) (pd_lst pda_nil) (nomark _)))))
  (pds_one (pds_ret pd_bl))
  pds_nil)
  (pds_one (pds_ret (pd_cmp (opd_eqN rfl hr.units) (pd_ofN (pdn_lc (own := [("_law_k", 3)]) (t := (.name 3)) rfl sc__law_is_lot.nd (pdi_range2 (by rfl) T.n_range pd_int (pd_callB (callo_len rfl) (by rfl) T.n_len (by decide +kernel) (by exact (pda_cons (pd_var (pv 0)) pda_nil)))) (blkOk_by (own := [("_law_k", 3)]) (N := ["_law_it", "_law_greatest", "_law_n", "_law_k"]) (sc := defScope st__law_is_lot) (by decide +kernel)) (by decide) (fun _ _ _ _ _ => (pdg_name (i := 3) sc__law_is_lot.nd rfl (Or.inl rfl))) (fun _ _ _ _ _ => (pdts_one (pdt_not (pdt_cmp opd_lt (pd_ix rfl (pd_var (pv 0)) (pd_op opd_minus (pd_var (pv 3)) pd_int)) (pd_ix rfl (pd_var (pv 0)) (pd_var (pv 3))) (nomark _))))) (fun _ _ _ _ _ => (pd_var (pv 3))))) (pd_lst pda_nil) (nomark _)))))
end
def g__law_great (p__law_pick : Fn) (p__law_draw : Fn) (p__law_part : Fn) : Ss :=
  (sSeq (sSet 1 (sCall 2 p__law_pick (lCons (sV 0) (lCons (sLst (lCons (sC (.int 5)) (lCons (sC (.int 26)) (lCons (sC (.int 98)) (lCons (sC (.int 99)) lNil))))) lNil))))
  (sSeq (sSet 2 (sApp (pureO tupleD) (lCons (sFrz (sComp (.name 3) [3] sYes (sCall 2 p__law_draw (lCons (sV 0) (lCons (sV 1) lNil))) (iRange1 (sOp plusD (sC (.int 1)) (sCall 2 p__law_draw (lCons (sV 0) (lCons (sC (.int 30)) lNil))))))) lNil)))
  (sSeq (sSet 4 (sFrz (sComp (.name 3) [3] sYes (sCall 3 p__law_part (lCons (sV 0) (lCons (sFrz (iLR1 (sV 1))) (lCons (sCall 2 p__law_pick (lCons (sV 0) (lCons (sLst (lCons (sC (.int 2)) (lCons (sC (.int 9)) lNil))) lNil))) lNil)))) (iRange1 (sCall 2 p__law_pick (lCons (sV 0) (lCons (sLst (lCons (sC (.int 5)) (lCons (sC (.int 25)) (lCons (sC (.int 26)) lNil)))) lNil)))))))
  (sRet (sDisp (kvCons "count" (sV 1) (kvCons "thread" (sV 2) (kvCons "lots" (sApp (pureO tupleD) (lCons (sV 4) lNil)) kvNil))))))))
def s__law_great : Ss := g__law_great n__law_pick n__law_draw n__law_part
def n__law_great : Fn := fnD 5 s__law_great
section
variable {P : Program} {w : World} {K : Frag} {cl : String → Addr} {dk : Addr} {mg : Str → Option Value} {base : Heap} {A : Adr}
theorem ok__law_great (T : Txt K cl mg A) : FnG P w K mg base 3 A.f__law_great A.fd__law_great ["_law_deck_here"] (SpD (gg K cl dk) 1 n__law_great) := by
    have G__law_draw := ok__law_draw (P := P) (w := w) (base := base) (dk := dk) T
    have G__law_part := ok__law_part (P := P) (w := w) (base := base) (dk := dk) T
    have G__law_pick := ok__law_pick (P := P) (w := w) (base := base) (dk := dk) T
    refine fn_of_body (g := gg K cl dk) T.F__law_great sc__law_great rfl rfl fun cdv A0 outer sh H E hr hgd => ?_
    unfold s__law_great g__law_great
    exact (pds_cons (pds_set (i := 1) sc__law_great.nd rfl (Or.inr rfl) (pd_call G__law_pick (hr.mono (by first | decide | omega)) hgd rfl T.m__law_pick T.F__law_pick.kp T.b__law_pick (takes_of rfl rfl rfl rfl) (by exact (pda_cons (pd_var (pv 0)) (pda_cons (pd_lst (pda_cons pd_int (pda_cons pd_int (pda_cons pd_int (pda_cons pd_int pda_nil))))) pda_nil)))))
  (pds_cons (pds_set (i := 2) sc__law_great.nd rfl (Or.inl rfl) (pd_callTy (callo_tuple rfl) (by rfl) T.n_tuple (by decide +kernel) (by exact (pda_cons (pd_ofN (pdn_lc (own := [("_law_k", 3)]) (t := (.name 3)) rfl sc__law_great.nd (pdi_range1 (by rfl) T.n_range (pd_op (opd_plus rfl) pd_int (pd_call G__law_draw (hr.mono (by first | decide | omega)) hgd rfl T.m__law_draw T.F__law_draw.kp T.b__law_draw (takes_of rfl rfl rfl rfl) (by exact (pda_cons (pd_var (pv 0)) (pda_cons pd_int pda_nil)))))) (blkOk_by (own := [("_law_k", 3)]) (N := ["_law_deck_here", "_law_count", "_law_thread", "_law_k", "_law_lots"]) (sc := defScope st__law_great) (by decide +kernel)) (by decide) (fun _ _ _ _ _ => (pdg_name (i := 3) sc__law_great.nd rfl (Or.inl rfl))) (fun _ _ _ _ _ => pdts_nil) (fun _ _ _ _ _ => (pd_call G__law_draw (hr.mono (by first | decide | omega)) hgd rfl T.m__law_draw T.F__law_draw.kp T.b__law_draw takes0 (by exact (pda_cons (pd_var (pv 0)) (pda_cons (pd_var (pv 1)) pda_nil))))))) pda_nil))))
  (pds_cons (pds_setD (pds_setLc (i := 4) (own := [("_law_k", 3)]) (tt := (.name 3)) rfl sc__law_great.nd rfl rfl (sw_true rfl rfl rfl (by decide +kernel)) (pdi_range1 (by rfl) T.n_range (pd_call G__law_pick (hr.mono (by first | decide | omega)) hgd rfl T.m__law_pick T.F__law_pick.kp T.b__law_pick (takes_of rfl rfl rfl rfl) (by exact (pda_cons (pd_var (pv 0)) (pda_cons (pd_lst (pda_cons pd_int (pda_cons pd_int (pda_cons pd_int pda_nil)))) pda_nil))))) (blkOk_by (own := [("_law_k", 3)]) (N := ["_law_deck_here", "_law_count", "_law_thread", "_law_k", "_law_lots"]) (sc := defScope st__law_great) (by decide +kernel)) (by decide) (fun _ _ _ _ _ => (pdg_name (i := 3) sc__law_great.nd rfl (Or.inl rfl))) (fun _ _ _ _ _ => pdts_nil) (fun _ _ _ _ _ => (pd_call G__law_part (hr.mono (by first | decide | omega)) hgd rfl T.m__law_part T.F__law_part.kp T.b__law_part takes0 (by exact (pda_cons (pd_var (pv 0)) (pda_cons (pd_ofN (pdn_listRg rfl (by rfl) T.n_list (by rfl) T.n_range (pd_var (pv 1)))) (pda_cons (pd_call G__law_pick (hr.mono (by first | decide | omega)) hgd rfl T.m__law_pick T.F__law_pick.kp T.b__law_pick takes0 (by exact (pda_cons (pd_var (pv 0)) (pda_cons (pd_lst (pda_cons pd_int (pda_cons pd_int pda_nil))) pda_nil)))) pda_nil))))))))
  (pds_one (pds_ret (pd_disp (pdp_cons (pd_var (pv 1)) (pdp_cons (pd_var (pv 2)) (pdp_cons (pd_callTy (callo_tuple rfl) (by rfl) T.n_tuple (by decide +kernel) (by exact (pda_cons (pd_var (pv 4)) pda_nil))) pdp_nil)))))))))
end
def g__law_bad (p__law_is_whole : Fn) (p__law_is_lot : Fn) : Ss :=
  (sSeq (sAsg (.tup [(.name 1), (.name 2), (.name 3)]) (sV 0))
  (sSeq (sIfS (sNotB (sTru (sCall 3 p__law_is_whole (lCons (sV 1) (lCons (sC (.int 1)) (lCons (sC (.int 99)) lNil))))))
  (sRet (sC (.str "shafts")))
  sSkip)
  (sSeq (sIfS (sOrB (sNotB (sTru (sIsi "tuple" (sV 2)))) (sB (sOp eqD (sV 2) (sTup lNil))))
  (sRet (sC (.str "threading")))
  sSkip)
  (sSeq (sIfS (sB (sOp neN (sFrz (sComp (.name 4) [4] (sNotB (sTru (sCall 3 p__law_is_whole (lCons (sV 4) (lCons (sC (.int 0)) (lCons (sOp minusD (sV 1) (sC (.int 1))) lNil)))))) (sV 4) (iVal (sV 2)))) (sLst lNil)))
  (sRet (sC (.str "threading")))
  sSkip)
  (sSeq (sIfS (sOrB (sNotB (sTru (sIsi "tuple" (sV 3)))) (sNotB (sB (sChain leD leD (sC (.int 1)) (sApp (pureO lenD) (lCons (sV 3) lNil)) (sC (.int 26))))))
  (sRet (sC (.str "lifts")))
  sSkip)
  (sSeq (sSet 5 (sFrz (sComp (.tup [(.name 6), (.name 7)]) [6, 7] (sNotB (sTru (sCall 2 p__law_is_lot (lCons (sV 7) (lCons (sOp minusD (sV 1) (sC (.int 1))) lNil))))) (sV 6) (iEnumD (sV 3)))))
  (sRet (sIf (sB (sOp neN (sV 5) (sLst lNil))) (sIx (sV 5) (sC (.int 0))) (sC .non)))))))))
def s__law_bad : Ss := g__law_bad n__law_is_whole n__law_is_lot
def n__law_bad : Fn := fnD 8 s__law_bad
section
variable {P : Program} {w : World} {K : Frag} {cl : String → Addr} {dk : Addr} {mg : Str → Option Value} {base : Heap} {A : Adr}
theorem ok__law_bad (T : Txt K cl mg A) : FnG P w K mg base 3 A.f__law_bad A.fd__law_bad ["_law_parts_now"] (SpD (gg K cl dk) 1 n__law_bad) := by
    have G__law_is_lot := ok__law_is_lot (P := P) (w := w) (base := base) (dk := dk) T
    have G__law_is_whole := ok__law_is_whole (P := P) (w := w) (base := base) (dk := dk) T
    refine fn_of_body (g := gg K cl dk) T.F__law_bad sc__law_bad rfl rfl fun cdv A0 outer sh H E hr hgd => ?_
    unfold s__law_bad g__law_bad
    exact (pds_cons (pds_asg (pd_var (pv 0)) (pdg_tup rfl (by rfl) (pdgs_cons (pdg_name (i := 1) sc__law_bad.nd rfl (Or.inr rfl)) (pdgs_cons (pdg_name (i := 2) sc__law_bad.nd rfl (Or.inl rfl)) (pdgs_cons (pdg_name (i := 3) sc__law_bad.nd rfl (Or.inl rfl)) pdgs_nil)))))
  (pds_cons (pds_if (pdt_not (pdt_truth rfl (pd_call G__law_is_whole (hr.mono (by first | decide | omega)) hgd rfl T.m__law_is_whole T.F__law_is_whole.kp T.b__law_is_whole (takes_of rfl rfl rfl rfl) (by exact (pda_cons (pd_var (pv 1)) (pda_cons pd_int (pda_cons pd_int pda_nil))))) (by intro _; rfl)))
  (pds_one (pds_ret pd_str))
  pds_nil)
  (pds_cons (pds_if (PDW.pt (pdw_or (pdt_not (pdt_truth rfl (pd_isi (T := "tuple") rfl T.own (by decide) (pe_bltn (v := .ty "tuple") (u := .type "tuple") (by rfl) T.n_tuple (by decide +kernel) rfl) (by rfl) T.n_isinstance (pd_var (pv 2))) (by intro _; rfl))) (pdw_or1 (pdt_cmp (opd_eq rfl hr.units) (pd_var (pv 2)) (pd_tup pda_nil) (nomark _)))))
  (pds_one (pds_ret pd_str))
  pds_nil)
  (pds_cons (pds_if (pdt_cmp (opd_neN rfl hr.units) (pd_ofN (pdn_lc (own := [("_law_s", 4)]) (t := (.name 4)) rfl sc__law_bad.nd (pdi_val rfl (pd_var (pv 2))) (blkOk_by (own := [("_law_s", 4)]) (N := ["_law_parts_now", "_law_count", "_law_thread", "_law_lots", "_law_s", "_law_odd_here", "_law_k", "_law_lot"]) (sc := defScope st__law_bad) (by decide +kernel)) (by decide) (fun _ _ _ _ _ => (pdg_name (i := 4) sc__law_bad.nd rfl (Or.inl rfl))) (fun _ _ _ _ _ => (pdts_one (pdt_not (pdt_truth rfl (pd_call G__law_is_whole (hr.mono (by first | decide | omega)) hgd rfl T.m__law_is_whole T.F__law_is_whole.kp T.b__law_is_whole takes0 (by exact (pda_cons (pd_var (pv 4)) (pda_cons pd_int (pda_cons (pd_op opd_minus (pd_var (pv 1)) pd_int) pda_nil))))) (by intro _; rfl))))) (fun _ _ _ _ _ => (pd_var (pv 4))))) (pd_lst pda_nil) (nomark _))
  (pds_one (pds_ret pd_str))
  pds_nil)
  (pds_cons (pds_if (PDW.pt (pdw_or (pdt_not (pdt_truth rfl (pd_isi (T := "tuple") rfl T.own (by decide) (pe_bltn (v := .ty "tuple") (u := .type "tuple") (by rfl) T.n_tuple (by decide +kernel) rfl) (by rfl) T.n_isinstance (pd_var (pv 3))) (by intro _; rfl))) (pdw_or1 (pdt_not (pdt_chain opd_le opd_le pd_int (pd_callB (callo_len rfl) (by rfl) T.n_len (by decide +kernel) (by exact (pda_cons (pd_var (pv 3)) pda_nil))) pd_int)))))
  (pds_one (pds_ret pd_str))
  pds_nil)
  (pds_cons (pds_setD (pds_setLc (i := 5) (own := [("_law_k", 6), ("_law_lot", 7)]) (tt := (.tup [(.name 6), (.name 7)])) rfl sc__law_bad.nd rfl rfl (sw_true rfl rfl rfl (by decide +kernel)) (pdi_enum rfl (by rfl) T.n_enumerate (pd_var (pv 3))) (blkOk_by (own := [("_law_k", 6), ("_law_lot", 7)]) (N := ["_law_parts_now", "_law_count", "_law_thread", "_law_lots", "_law_s", "_law_odd_here", "_law_k", "_law_lot"]) (sc := defScope st__law_bad) (by decide +kernel)) (by decide) (fun _ _ _ _ _ => (pdg_tup rfl (by rfl) (pdgs_cons (pdg_name (i := 6) sc__law_bad.nd rfl (Or.inl rfl)) (pdgs_cons (pdg_name (i := 7) sc__law_bad.nd rfl (Or.inl rfl)) pdgs_nil)))) (fun _ _ _ _ _ => (pdts_one (pdt_not (pdt_truth rfl (pd_call G__law_is_lot (hr.mono (by first | decide | omega)) hgd rfl T.m__law_is_lot T.F__law_is_lot.kp T.b__law_is_lot takes0 (by exact (pda_cons (pd_var (pv 7)) (pda_cons (pd_op opd_minus (pd_var (pv 1)) pd_int) pda_nil)))) (by intro _; rfl))))) (fun _ _ _ _ _ => (pd_var (pv 6)))))
  (pds_one (pds_ret (pd_if (pdt_cmp (opd_neN rfl hr.units) (pd_var (pv 5)) (pd_lst pda_nil) (nomark _)) (pd_ix rfl (pd_var (pv 5)) pd_int) pd_non)))))))))
end
end C01
set_option Elab.async false
set_option linter.all false
set_option maxRecDepth 100000
set_option maxHeartbeats 4000000
namespace C01
open PySem PySem.Spec L2 DL
open PySem.W (Frag)

def g__law_built (p_Loom___init__ : FnI) (p_Loom___len__ : Fn) : Ss :=
  (sSeq (sAsg (.tup [(.name 2), (.name 3), (.name 4)]) (sV 0))
  (sSeq (sSet 5 (sC .non))
  (sSeq (sTry takes_BadLoom 8
  (sSeq (sSet 6 (sIf (sTru (sV 1)) (sOfC "Loom" (sC (.cls "Loom")) (sMake "Loom" 3 p_Loom___init__ (sOrdK 3 [1, 2, 0] (lCons (sV 4) (lCons (sV 2) (lCons (sV 3) lNil)))))) (sC .non)))
  (sSeq (sSet 7 (sIf (sTru (sV 1)) (sV 6) (sOfC "Loom" (sC (.cls "Loom")) (sMake "Loom" 3 p_Loom___init__ (lCons (sV 2) (lCons (sV 3) (lCons (sV 4) lNil)))))))
  (sSet 5 (sLst (lCons (sC (.str "loom")) (lCons (sFld ["Loom"] "shafts" (sV 7)) (lCons (sFld ["Loom"] "threading" (sV 7)) (lCons (sFld ["Loom"] "lifts" (sV 7)) (lCons (sFld ["Loom"] "letters" (sV 7)) (lCons (sFld ["Loom"] "used" (sV 7)) (lCons (sApp (orO (pureO lenD) (ownO "Loom" p_Loom___len__ lenC)) (lCons (sV 7) lNil)) lNil)))))))))))
  (sSet 5 (sLst (lCons (sC (.str "bad")) (lCons (sXf "BadLoom" "part" 8) (lCons (sXi "BadLoom" true 8) lNil))))))
  (sRet (sV 5)))))
def s__law_built : Ss := g__law_built n_Loom___init__ n_Loom___len__
def n__law_built : Fn := fnD 9 s__law_built
section
variable {P : Program} {w : World} {K : Frag} {cl : String → Addr} {dk : Addr} {mg : Str → Option Value} {base : Heap} {A : Adr}
theorem ok__law_built (T : Txt K cl mg A) : FnG P w K mg base 6 A.f__law_built A.fd__law_built ["_law_parts_now", "_law_is_named"] (SpD (gg K cl dk) 2 n__law_built) := by
    have G_Loom___init__ := ok_Loom___init__ (P := P) (w := w) (base := base) (dk := dk) T
    have G_Loom___len__ := ok_Loom___len__ (P := P) (w := w) (base := base) (dk := dk) T
    refine fn_of_body (g := gg K cl dk) T.F__law_built sc__law_built rfl rfl fun cdv A0 outer sh H E hr hgd => ?_
    unfold s__law_built g__law_built
    exact (pds_cons (pds_asg (pd_var (pv 0)) (pdg_tup rfl (by rfl) (pdgs_cons (pdg_name (i := 2) sc__law_built.nd rfl (Or.inl rfl)) (pdgs_cons (pdg_name (i := 3) sc__law_built.nd rfl (Or.inl rfl)) (pdgs_cons (pdg_name (i := 4) sc__law_built.nd rfl (Or.inl rfl)) pdgs_nil)))))
  (pds_cons (pds_set (i := 5) sc__law_built.nd rfl (Or.inl rfl) pd_non)
  (pds_cons (pds_try (i := 8) (yes := takes_BadLoom) rfl rfl rfl sc__law_built.nd rfl rfl ⟨rfl, by decide, .inl T.g_BadLoom⟩ (takes_of rfl rfl rfl rfl) T.yes_BadLoom (fun W pn xe tk ps_ => (pds_cons (pds_set (i := 6) sc__law_built.nd rfl (Or.inl rfl) (pd_if (pdt_truth rfl (pd_var (pv 1)) (by intro _; rfl)) (pd_makeK0 (ix := [1, 2, 0]) (cn := "Loom") rfl T.own (show _ ∈ OWN by decide) T.mk_Loom G_Loom___init__ (hr.mono (by first | decide | omega)) hgd T.kbo_Loom___init___lifts_shafts_threading tk (pd_globC (pe_glob (v := .ref _) rfl T.g_Loom rfl)) (pdk_cons (pd_var (pv 4)) (pdk_cons (pd_var (pv 2)) (pdk_cons (pd_var (pv 3)) pdk_nil)))) pd_non))
  (pds_cons (pds_set (i := 7) sc__law_built.nd rfl (Or.inl rfl) (pd_if (pdt_truth rfl (pd_var (pv 1)) (by intro _; rfl)) (pd_var (pv 6)) (pd_make (cn := "Loom") rfl T.own (show _ ∈ OWN by decide) T.mk_Loom G_Loom___init__ (hr.mono (by first | decide | omega)) hgd T.b_Loom___init__ tk (pd_globC (pe_glob (v := .ref _) rfl T.g_Loom rfl)) (by exact (pda_cons (pd_var (pv 2)) (pda_cons (pd_var (pv 3)) (pda_cons (pd_var (pv 4)) pda_nil)))))))
  (pds_one (pds_set (i := 5) sc__law_built.nd rfl (Or.inl rfl) (pd_lst (pda_cons pd_str (pda_cons (pd_fld (cs := ["Loom"]) rfl T.own T.nas_Loom_shafts (pd_var (pv 7))) (pda_cons (pd_fld (cs := ["Loom"]) rfl T.own T.nas_Loom_threading (pd_var (pv 7))) (pda_cons (pd_fld (cs := ["Loom"]) rfl T.own T.nas_Loom_lifts (pd_var (pv 7))) (pda_cons (pd_fld (cs := ["Loom"]) rfl T.own T.nas_Loom_letters (pd_var (pv 7))) (pda_cons (pd_fld (cs := ["Loom"]) rfl T.own T.nas_Loom_used (pd_var (pv 7))) (pda_cons (pd_callB (CallO.or (callo_len rfl) (callo_lenOwn (cn := "Loom") rfl G_Loom___len__ (hr.mono (by first | decide | omega)) hgd T.b_Loom___len__ T.s_Loom___len__ T.fn_Loom___len__)) (by rfl) T.n_len (by decide +kernel) (by exact (pda_cons (pd_var (pv 7)) pda_nil))) pda_nil)))))))))))))
  (fun a oe cls d pn hz hf => (pds_one (pds_set (i := 5) sc__law_built.nd rfl (Or.inl rfl) (pd_lst (pda_cons pd_str (pda_cons (pd_xf (xfc_BadLoom T.x_BadLoom) T.x_BadLoom.noN hz hf (pv 8)) (pda_cons (pd_xi (b := true) T.e_BadLoom T.ki_BadLoom hz hf (pv 8) (pe_glob (v := .ref _) rfl T.g_LoomError rfl) (by rfl) T.n_isinstance) pda_nil))))))))
  (pds_one (pds_ret (pd_var (pv 5)))))))
end
def g__law_right (p__law_bad : Fn) (p__law_built : Fn) : Ss :=
  (sSeq (sPar [1, 2] (mD (sCall 1 p__law_bad (lCons (sV 0) lNil)) (mD (sApp (pureO reprD) (lCons (sV 0) lNil)) mNil)))
  (sSeq (sSet 3 (sLst (lCons (sC (.str "bad")) (lCons (sV 1) (lCons (sC (.bl true)) lNil)))))
  (sSeq (sIfS (sB (sOp (isD fun b => b) (sV 1) (sC .non)))
  (sSeq (sSet 4 (sSl (sC (.str "abcdefghijklmnopqrstuvwxyz")) oNone (oSome (sApp (pureO lenD) (lCons (sIx (sV 0) (sC (.int 2))) lNil)))))
  (sSet 3 (sOp plusD (sOp plusD (sLst (lCons (sC (.str "loom")) lNil)) (sFrz (iVal (sV 0)))) (sLst (lCons (sV 4) (lCons (sApp (pureO tupleD) (lCons (sSortSet (sIx (sV 0) (sC (.int 1)))) lNil)) (lCons (sApp (pureO lenD) (lCons (sIx (sV 0) (sC (.int 1))) lNil)) lNil)))))))
  sSkip)
  (sSeq (sSet 5 (sLst (lCons (sCall 2 p__law_built (lCons (sV 0) (lCons (sC (.bl false)) lNil))) (lCons (sCall 2 p__law_built (lCons (sV 0) (lCons (sC (.bl true)) lNil))) lNil))))
  (sRet (sAnd (sOp eqD (sApp (pureO reprD) (lCons (sV 5) lNil)) (sApp (pureO reprD) (lCons (sLst (lCons (sV 3) (lCons (sV 3) lNil))) lNil))) (sOp eqD (sApp (pureO reprD) (lCons (sV 0) lNil)) (sV 2))))))))
def s__law_right : Ss := g__law_right n__law_bad n__law_built
def n__law_right : Fn := fnD 6 s__law_right
section
variable {P : Program} {w : World} {K : Frag} {cl : String → Addr} {dk : Addr} {mg : Str → Option Value} {base : Heap} {A : Adr}
theorem ok__law_right (T : Txt K cl mg A) : FnG P w K mg base 7 A.f__law_right A.fd__law_right ["_law_parts_now"] (SpD (gg K cl dk) 1 n__law_right) := by
    have G__law_bad := ok__law_bad (P := P) (w := w) (base := base) (dk := dk) T
    have G__law_built := ok__law_built (P := P) (w := w) (base := base) (dk := dk) T
    refine fn_of_body (g := gg K cl dk) T.F__law_right sc__law_right rfl rfl fun cdv A0 outer sh H E hr hgd => ?_
    unfold s__law_right g__law_right
    exact (pds_cons (pds_par (i := 1) (j := 2) rfl sc__law_right.nd rfl rfl (by decide) rfl rfl (by exact (pdm_d (pd_call G__law_bad (hr.mono (by first | decide | omega)) hgd rfl T.m__law_bad T.F__law_bad.kp T.b__law_bad (takes_of rfl rfl rfl rfl) (by exact (pda_cons (pd_var (pv 0)) pda_nil))) (pdm_d (pd_callB (callo_repr rfl hgd hr.units) (by rfl) T.n_repr (by decide +kernel) (by exact (pda_cons (pd_var (pv 0)) pda_nil))) pdm_nil))) (by rfl))
  (pds_cons (pds_set (i := 3) sc__law_right.nd rfl (Or.inl rfl) (pd_lst (pda_cons pd_str (pda_cons (pd_var (pv 1)) (pda_cons pd_bl pda_nil)))))
  (pds_cons (pds_if (pdt_cmp opd_is (pd_var (pv 1)) pd_non (nomark _))
  (pds_cons (pds_set (i := 4) sc__law_right.nd rfl (Or.inl rfl) (pd_slice rfl pd_str pdo_none (pdo_some (pd_callB (callo_len rfl) (by rfl) T.n_len (by decide +kernel) (by exact (pda_cons (pd_ix rfl (pd_var (pv 0)) pd_int) pda_nil))))))
  (pds_one (pds_set (i := 3) sc__law_right.nd rfl (Or.inl rfl) (pd_op (opd_plus rfl) (pd_op (opd_plus rfl) (pd_lst (pda_cons pd_str pda_nil)) (pd_ofN (pdn_list rfl rfl (by rfl) T.n_list (by decide +kernel) (pd_var (pv 0))))) (pd_lst (pda_cons (pd_var (pv 4)) (pda_cons (pd_callTy (callo_tuple rfl) (by rfl) T.n_tuple (by decide +kernel) (by exact (pda_cons (pd_sortSet rfl rfl (by rfl) T.n_sorted (by rfl) T.n_set (pd_ix rfl (pd_var (pv 0)) pd_int)) pda_nil))) (pda_cons (pd_callB (callo_len rfl) (by rfl) T.n_len (by decide +kernel) (by exact (pda_cons (pd_ix rfl (pd_var (pv 0)) pd_int) pda_nil))) pda_nil))))))))
  pds_nil)
  (pds_cons (pds_set (i := 5) sc__law_right.nd rfl (Or.inl rfl) (pd_lst (pda_cons (pd_call G__law_built (hr.mono (by first | decide | omega)) hgd rfl T.m__law_built T.F__law_built.kp T.b__law_built (takes_of rfl rfl rfl rfl) (by exact (pda_cons (pd_var (pv 0)) (pda_cons pd_bl pda_nil)))) (pda_cons (pd_call G__law_built (hr.mono (by first | decide | omega)) hgd rfl T.m__law_built T.F__law_built.kp T.b__law_built (takes_of rfl rfl rfl rfl) (by exact (pda_cons (pd_var (pv 0)) (pda_cons pd_bl pda_nil)))) pda_nil))))
  (pds_one (pds_ret (pd_and rfl (pd_cmp (opd_eq rfl hr.units) (pd_callB (callo_repr rfl hgd hr.units) (by rfl) T.n_repr (by decide +kernel) (by exact (pda_cons (pd_var (pv 5)) pda_nil))) (pd_callB (callo_repr rfl hgd hr.units) (by rfl) T.n_repr (by decide +kernel) (by exact (pda_cons (pd_lst (pda_cons (pd_var (pv 3)) (pda_cons (pd_var (pv 3)) pda_nil))) pda_nil))) (nomark _)) (pd_one (pd_cmp (opd_eq rfl hr.units) (pd_callB (callo_repr rfl hgd hr.units) (by rfl) T.n_repr (by decide +kernel) (by exact (pda_cons (pd_var (pv 0)) pda_nil))) (pd_var (pv 2)) (nomark _))))))))))
end
def g__law_code (p_Loom___init__ : FnI) : Ss :=
  (sRet (sOfC "Loom" (sC (.cls "Loom")) (sMake "Loom" 3 p_Loom___init__ (lCons (sKey (sV 0) (sC (.str "count"))) (lCons (sKey (sV 0) (sC (.str "thread"))) (lCons (sKey (sV 0) (sC (.str "lots"))) lNil))))))
def s__law_code : Ss := g__law_code n_Loom___init__
def n__law_code : Fn := fnD 1 s__law_code
section
variable {P : Program} {w : World} {K : Frag} {cl : String → Addr} {dk : Addr} {mg : Str → Option Value} {base : Heap} {A : Adr}
theorem ok__law_code (T : Txt K cl mg A) : FnG P w K mg base 6 A.f__law_code A.fd__law_code ["_law_w"] (SpD (gg K cl dk) 1 n__law_code) := by
    have G_Loom___init__ := ok_Loom___init__ (P := P) (w := w) (base := base) (dk := dk) T
    refine fn_of_body (g := gg K cl dk) T.F__law_code sc__law_code rfl rfl fun cdv A0 outer sh H E hr hgd => ?_
    unfold s__law_code g__law_code
    exact (pds_one (pds_ret (pd_make (cn := "Loom") rfl T.own (show _ ∈ OWN by decide) T.mk_Loom G_Loom___init__ (hr.mono (by first | decide | omega)) hgd T.b_Loom___init__ (takes_of rfl rfl rfl rfl) (pd_globC (pe_glob (v := .ref _) rfl T.g_Loom rfl)) (by exact (pda_cons (pd_key hr.units (pd_var (pv 0)) pd_str) (pda_cons (pd_key hr.units (pd_var (pv 0)) pd_str) (pda_cons (pd_key hr.units (pd_var (pv 0)) pd_str) pda_nil)))))))
end
def g__law_others_right (p__law_code : Fn) (p__law_signs : Fn) (p_Loom_lift_of : Fn) (p__law_draw : Fn) (p__law_part : Fn) (p_Loom_with_lift : Fn) (p_Loom___eq__ : Fn) (p_Loom_threaded : Fn) (p_is_treadling : Fn) : Ss :=
  (sSeq (sPar [2, 3] (mD (sCall 1 p__law_code (lCons (sV 1) lNil)) (mD (sCall 1 p__law_signs (lCons (sV 1) lNil)) mNil)))
  (sSeq (sIfS (sB (sOp neD (sApp (pureO reprD) (lCons (sFrz (sComp (.name 4) [4] sYes (sMeth "Loom" "lift_of" 2 p_Loom_lift_of (sV 2) (lCons (sV 4) lNil)) (iVal (sV 3)))) lNil)) (sApp (pureO reprD) (lCons (sFrz (iVal (sKey (sV 1) (sC (.str "lots"))))) lNil))))
  (sRet (sC (.bl false)))
  sSkip)
  (sSeq (sIfS (sB (sOp neD (sMeth "Loom" "lift_of" 2 p_Loom_lift_of (sV 2) (sOrdK 1 [0] (lCons (sC (.str "a")) lNil))) (sIx (sKey (sV 1) (sC (.str "lots"))) (sC (.int 0)))))
  (sRet (sC (.bl false)))
  sSkip)
  (sSeq (sPar [5, 6] (mD (sCall 2 p__law_draw (lCons (sV 0) (lCons (sApp (pureO lenD) (lCons (sV 3) lNil)) lNil))) (mD (sCall 3 p__law_part (lCons (sV 0) (lCons (sFrz (iLR1 (sKey (sV 1) (sC (.str "count"))))) (lCons (sC (.int 2)) lNil)))) mNil)))
  (sSeq (sSet 7 (sApp (pureO tupleD) (lCons (sFrz (sComp (.name 8) [8] sYes (sCall 2 p__law_draw (lCons (sV 0) (lCons (sKey (sV 1) (sC (.str "count"))) lNil))) (iRange1 (sOp plusD (sC (.int 1)) (sCall 2 p__law_draw (lCons (sV 0) (lCons (sC (.int 9)) lNil))))))) lNil)))
  (sSeq (sSet 9 (sApp (pureO dictD) (lCons (sOp plusD (sFrz (iItems (sV 1))) (sLst (lCons (sTup (lCons (sC (.str "lots")) (lCons (sOp plusD (sOp plusD (sSl (sKey (sV 1) (sC (.str "lots"))) oNone (oSome (sV 5))) (sTup (lCons (sV 6) lNil))) (sSl (sKey (sV 1) (sC (.str "lots"))) (oSome (sOp plusD (sV 5) (sC (.int 1)))) oNone)) lNil))) lNil))) lNil)))
  (sSeq (sSet 10 (sApp (pureO dictD) (lCons (sOp plusD (sFrz (iItems (sV 1))) (sLst (lCons (sTup (lCons (sC (.str "thread")) (lCons (sV 7) lNil))) lNil))) lNil)))
  (sSeq (sSet 11 (sLst (lCons (sMeth "Loom" "with_lift" 3 p_Loom_with_lift (sV 2) (lCons (sIx (sV 3) (sV 5)) (lCons (sV 6) lNil))) (lCons (sMeth "Loom" "with_lift" 3 p_Loom_with_lift (sV 2) (sOrdK 2 [1, 0] (lCons (sV 6) (lCons (sIx (sV 3) (sV 5)) lNil)))) lNil))))
  (sSeq (sIfS (sOrB (sB (sOp neN (sFrz (sComp (.name 12) [12] (sNotB (sB (sOpO (orOp (pureOp eqD) (ownEq "Loom" p_Loom___eq__ (fun b => b))) (sV 12) (sCall 1 p__law_code (lCons (sV 9) lNil))))) (sV 12) (iVal (sV 11)))) (sLst lNil))) (sB (sOp neD (sOpO (orOp (pureOp eqD) (ownEq "Loom" p_Loom___eq__ (fun b => b))) (sV 2) (sIx (sV 11) (sC (.int 0)))) (sOp eqD2 (sV 9) (sV 1)))))
  (sRet (sC (.bl false)))
  sSkip)
  (sSeq (sSet 11 (sLst (lCons (sMeth "Loom" "threaded" 2 p_Loom_threaded (sV 2) (lCons (sV 7) lNil)) (lCons (sMeth "Loom" "threaded" 2 p_Loom_threaded (sV 2) (sOrdK 1 [0] (lCons (sV 7) lNil))) lNil))))
  (sSeq (sIfS (sOrB (sB (sOp neN (sFrz (sComp (.name 12) [12] (sNotB (sB (sOpO (orOp (pureOp eqD) (ownEq "Loom" p_Loom___eq__ (fun b => b))) (sV 12) (sCall 1 p__law_code (lCons (sV 10) lNil))))) (sV 12) (iVal (sV 11)))) (sLst lNil))) (sB (sOp neD (sOpO (orOp (pureOp neD) (ownEq "Loom" p_Loom___eq__ (fun b => !b))) (sV 2) (sIx (sV 11) (sC (.int 0)))) (sOp neD2 (sV 10) (sV 1)))))
  (sRet (sC (.bl false)))
  sSkip)
  (sSeq (sSet 13 (sLst (lCons (sC .non) (lCons (sC (.int 0)) (lCons (sC (.str "")) (lCons (sV 3) (lCons (sOp timesD (sRev (sV 3)) (sC (.int 3))) (lCons (sOp plusD (sV 3) (sC (.str "A"))) (lCons (sC (.str "a ")) (lCons (sC (.str "{")) (lCons (sTup (lCons (sC (.str "a")) lNil)) (lCons (sLst (lCons (sC (.str "a")) lNil)) (lCons (sOp timesD (sIx (sV 3) (sNeg (sC (.int 1)))) (sC (.int 60))) (lCons (sC (.bl true)) (lCons (sV 2) lNil)))))))))))))))
  (sSeq (sSet 13 (sOp plusD (sV 13) (sLst (lCons (sIx (sC (.str "abcdefghijklmnopqrstuvwxyz{")) (sApp (pureO lenD) (lCons (sV 3) lNil))) (lCons (sC (.str "a\n")) lNil)))))
  (sSeq (sSet 14 (sFrz (sComp (.name 12) [12] sYes (sAnd (sIsi "str" (sV 12)) (sOp eqN (sFrz (sComp (.name 15) [15] (sB (sOp notInD (sV 15) (sV 3))) (sV 15) (iVal (sV 12)))) (sLst lNil))) (iVal (sV 13)))))
  (sSeq (sIfS (sOrB (sB (sOp neD (sApp (pureO reprD) (lCons (sFrz (sComp (.name 12) [12] sYes (sCall 2 p_is_treadling (lCons (sV 2) (lCons (sV 12) lNil))) (iVal (sV 13)))) lNil)) (sApp (pureO reprD) (lCons (sV 14) lNil)))) (sB (sOp (isD fun b => !b) (sCallK 2 0 2 [1, 0] p_is_treadling lNil (lCons (sC (.str "a")) (lCons (sV 2) lNil))) (sC (.bl true)))))
  (sRet (sC (.bl false)))
  sSkip)
  (sRet (sOp eqN (sFrz (sComp (.name 12) [12] (sB (sOpO (orOp (pureOp eqD) (ownEq "Loom" p_Loom___eq__ (fun b => b))) (sV 2) (sV 12))) (sV 12) (iVal (sLst (lCons (sC .non) (lCons (sC (.int 0)) (lCons (sKey (sV 1) (sC (.str "lots"))) (lCons (sTup (lCons (sKey (sV 1) (sC (.str "count"))) (lCons (sKey (sV 1) (sC (.str "thread"))) (lCons (sKey (sV 1) (sC (.str "lots"))) lNil)))) (lCons (sLst (lCons (sV 2) lNil)) lNil))))))))) (sLst lNil))))))))))))))))))
def s__law_others_right : Ss := g__law_others_right n__law_code n__law_signs n_Loom_lift_of n__law_draw n__law_part n_Loom_with_lift n_Loom___eq__ n_Loom_threaded n_is_treadling
def n__law_others_right : Fn := fnD 16 s__law_others_right
section
variable {P : Program} {w : World} {K : Frag} {cl : String → Addr} {dk : Addr} {mg : Str → Option Value} {base : Heap} {A : Adr}
theorem ok__law_others_right (T : Txt K cl mg A) : FnG P w K mg base 7 A.f__law_others_right A.fd__law_others_right ["_law_deck_here", "_law_w"] (SpD (gg K cl dk) 2 n__law_others_right) := by
    have G_Loom___eq__ := ok_Loom___eq__ (P := P) (w := w) (base := base) (dk := dk) T
    have G_Loom_lift_of := ok_Loom_lift_of (P := P) (w := w) (base := base) (dk := dk) T
    have G_Loom_threaded := ok_Loom_threaded (P := P) (w := w) (base := base) (dk := dk) T
    have G_Loom_with_lift := ok_Loom_with_lift (P := P) (w := w) (base := base) (dk := dk) T
    have G__law_code := ok__law_code (P := P) (w := w) (base := base) (dk := dk) T
    have G__law_draw := ok__law_draw (P := P) (w := w) (base := base) (dk := dk) T
    have G__law_part := ok__law_part (P := P) (w := w) (base := base) (dk := dk) T
    have G__law_signs := ok__law_signs (P := P) (w := w) (base := base) (dk := dk) T
    have G_is_treadling := ok_is_treadling (P := P) (w := w) (base := base) (dk := dk) T
    refine fn_of_body (g := gg K cl dk) T.F__law_others_right sc__law_others_right rfl rfl fun cdv A0 outer sh H E hr hgd => ?_
    unfold s__law_others_right g__law_others_right
    exact (pds_cons (pds_parT (is := [2, 3]) rfl rfl (by decide) (pdgs_cons (pdg_name (i := 2) sc__law_others_right.nd rfl (Or.inr rfl)) (pdgs_cons (pdg_name (i := 3) sc__law_others_right.nd rfl (Or.inr rfl)) pdgs_nil)) (by exact (pdm_d (pd_call G__law_code (hr.mono (by first | decide | omega)) hgd rfl T.m__law_code T.F__law_code.kp T.b__law_code (takes_of rfl rfl rfl rfl) (by exact (pda_cons (pd_var (pv 1)) pda_nil))) (pdm_d (pd_call G__law_signs (hr.mono (by first | decide | omega)) hgd rfl T.m__law_signs T.F__law_signs.kp T.b__law_signs (takes_of rfl rfl rfl rfl) (by exact (pda_cons (pd_var (pv 1)) pda_nil))) pdm_nil))))
  (pds_cons (pds_if (pdt_cmp (opd_ne rfl hr.units) (pd_callB (callo_repr rfl hgd hr.units) (by rfl) T.n_repr (by decide +kernel) (by exact (pda_cons (pd_ofN (pdn_lc (own := [("_law_sign", 4)]) (t := (.name 4)) rfl sc__law_others_right.nd (pdi_val rfl (pd_var (pv 3))) (blkOk_by (own := [("_law_sign", 4)]) (N := ["_law_deck_here", "_law_w", "_law_code_here", "_law_signs_here", "_law_sign", "_law_at", "_law_lot", "_law_thread", "_law_k", "_law_far", "_law_odd_here", "_law_told", "_law_it", "_law_some", "_law_due", "_law_x"]) (sc := defScope st__law_others_right) (by decide +kernel)) (by decide) (fun _ _ _ _ _ => (pdg_name (i := 4) sc__law_others_right.nd rfl (Or.inl rfl))) (fun _ _ _ _ _ => pdts_nil) (fun _ _ _ _ _ => (pd_meth (c := "Loom") rfl T.own (show _ ∈ OWN by decide) T.me_Loom_lift_of G_Loom_lift_of (hr.mono (by first | decide | omega)) hgd T.b_Loom_lift_of takes0 (pd_var (pv 2)) (by exact (pda_cons (pd_var (pv 4)) pda_nil)))))) pda_nil))) (pd_callB (callo_repr rfl hgd hr.units) (by rfl) T.n_repr (by decide +kernel) (by exact (pda_cons (pd_ofN (pdn_list rfl rfl (by rfl) T.n_list (by decide +kernel) (pd_key hr.units (pd_var (pv 1)) pd_str))) pda_nil))) (nomark _))
  (pds_one (pds_ret pd_bl))
  pds_nil)
  (pds_cons (pds_if (pdt_cmp (opd_ne rfl hr.units) (pd_methK0 (c := "Loom") (ix := [0]) rfl T.own (show _ ∈ OWN by decide) T.me_Loom_lift_of G_Loom_lift_of (hr.mono (by first | decide | omega)) hgd T.kbo_Loom_lift_of_letter (takes_of rfl rfl rfl rfl) (pd_var (pv 2)) (pdk_cons pd_str pdk_nil)) (pd_ix rfl (pd_key hr.units (pd_var (pv 1)) pd_str) pd_int) (nomark _))
  (pds_one (pds_ret pd_bl))
  pds_nil)
  (pds_cons (pds_par (i := 5) (j := 6) rfl sc__law_others_right.nd rfl rfl (by decide) rfl rfl (by exact (pdm_d (pd_call G__law_draw (hr.mono (by first | decide | omega)) hgd rfl T.m__law_draw T.F__law_draw.kp T.b__law_draw (takes_of rfl rfl rfl rfl) (by exact (pda_cons (pd_var (pv 0)) (pda_cons (pd_callB (callo_len rfl) (by rfl) T.n_len (by decide +kernel) (by exact (pda_cons (pd_var (pv 3)) pda_nil))) pda_nil)))) (pdm_d (pd_call G__law_part (hr.mono (by first | decide | omega)) hgd rfl T.m__law_part T.F__law_part.kp T.b__law_part (takes_of rfl rfl rfl rfl) (by exact (pda_cons (pd_var (pv 0)) (pda_cons (pd_ofN (pdn_listRg rfl (by rfl) T.n_list (by rfl) T.n_range (pd_key hr.units (pd_var (pv 1)) pd_str))) (pda_cons pd_int pda_nil))))) pdm_nil))) (by rfl))
  (pds_cons (pds_set (i := 7) sc__law_others_right.nd rfl (Or.inl rfl) (pd_callTy (callo_tuple rfl) (by rfl) T.n_tuple (by decide +kernel) (by exact (pda_cons (pd_ofN (pdn_lc (own := [("_law_k", 8)]) (t := (.name 8)) rfl sc__law_others_right.nd (pdi_range1 (by rfl) T.n_range (pd_op (opd_plus rfl) pd_int (pd_call G__law_draw (hr.mono (by first | decide | omega)) hgd rfl T.m__law_draw T.F__law_draw.kp T.b__law_draw (takes_of rfl rfl rfl rfl) (by exact (pda_cons (pd_var (pv 0)) (pda_cons pd_int pda_nil)))))) (blkOk_by (own := [("_law_k", 8)]) (N := ["_law_deck_here", "_law_w", "_law_code_here", "_law_signs_here", "_law_sign", "_law_at", "_law_lot", "_law_thread", "_law_k", "_law_far", "_law_odd_here", "_law_told", "_law_it", "_law_some", "_law_due", "_law_x"]) (sc := defScope st__law_others_right) (by decide +kernel)) (by decide) (fun _ _ _ _ _ => (pdg_name (i := 8) sc__law_others_right.nd rfl (Or.inl rfl))) (fun _ _ _ _ _ => pdts_nil) (fun _ _ _ _ _ => (pd_call G__law_draw (hr.mono (by first | decide | omega)) hgd rfl T.m__law_draw T.F__law_draw.kp T.b__law_draw takes0 (by exact (pda_cons (pd_var (pv 0)) (pda_cons (pd_key hr.units (pd_var (pv 1)) pd_str) pda_nil))))))) pda_nil))))
  (pds_cons (pds_set (i := 9) sc__law_others_right.nd rfl (Or.inr rfl) (pd_callTy (callo_dict rfl rfl) (by rfl) T.n_dict (by decide +kernel) (by exact (pda_cons (pd_op (opd_plus rfl) (pd_items rfl (pd_var (pv 1)) (by rfl) T.n_list) (pd_lst (pda_cons (pd_tup (pda_cons pd_str (pda_cons (pd_op (opd_plus rfl) (pd_op (opd_plus rfl) (pd_slice rfl (pd_key hr.units (pd_var (pv 1)) pd_str) pdo_none (pdo_some (pd_var (pv 5)))) (pd_tup (pda_cons (pd_var (pv 6)) pda_nil))) (pd_slice rfl (pd_key hr.units (pd_var (pv 1)) pd_str) (pdo_some (pd_op (opd_plus rfl) (pd_var (pv 5)) pd_int)) pdo_none)) pda_nil))) pda_nil))) pda_nil))))
  (pds_cons (pds_set (i := 10) sc__law_others_right.nd rfl (Or.inr rfl) (pd_callTy (callo_dict rfl rfl) (by rfl) T.n_dict (by decide +kernel) (by exact (pda_cons (pd_op (opd_plus rfl) (pd_items rfl (pd_var (pv 1)) (by rfl) T.n_list) (pd_lst (pda_cons (pd_tup (pda_cons pd_str (pda_cons (pd_var (pv 7)) pda_nil))) pda_nil))) pda_nil))))
  (pds_cons (pds_set (i := 11) sc__law_others_right.nd rfl (Or.inl rfl) (pd_lst (pda_cons (pd_meth (c := "Loom") rfl T.own (show _ ∈ OWN by decide) T.me_Loom_with_lift G_Loom_with_lift (hr.mono (by first | decide | omega)) hgd T.b_Loom_with_lift (takes_of rfl rfl rfl rfl) (pd_var (pv 2)) (by exact (pda_cons (pd_ix rfl (pd_var (pv 3)) (pd_var (pv 5))) (pda_cons (pd_var (pv 6)) pda_nil)))) (pda_cons (pd_methK0 (c := "Loom") (ix := [1, 0]) rfl T.own (show _ ∈ OWN by decide) T.me_Loom_with_lift G_Loom_with_lift (hr.mono (by first | decide | omega)) hgd T.kbo_Loom_with_lift_lift_letter (takes_of rfl rfl rfl rfl) (pd_var (pv 2)) (pdk_cons (pd_var (pv 6)) (pdk_cons (pd_ix rfl (pd_var (pv 3)) (pd_var (pv 5))) pdk_nil))) pda_nil))))
  (pds_cons (pds_if (PDW.pt (pdw_or (pdt_cmp (opd_neN rfl hr.units) (pd_ofN (pdn_lc (own := [("_law_it", 12)]) (t := (.name 12)) rfl sc__law_others_right.nd (pdi_val rfl (pd_var (pv 11))) (blkOk_by (own := [("_law_it", 12)]) (N := ["_law_deck_here", "_law_w", "_law_code_here", "_law_signs_here", "_law_sign", "_law_at", "_law_lot", "_law_thread", "_law_k", "_law_far", "_law_odd_here", "_law_told", "_law_it", "_law_some", "_law_due", "_law_x"]) (sc := defScope st__law_others_right) (by decide +kernel)) (by decide) (fun _ _ _ _ _ => (pdg_name (i := 12) sc__law_others_right.nd rfl (Or.inl rfl))) (fun _ _ _ _ _ => (pdts_one (pdt_not (pdt_cmpO (OpO.or (OpD.toO (opd_eq rfl hr.units)) (opo_eqOwn rfl T.own (show _ ∈ OWN by decide) T.sub_Loom G_Loom___eq__ (hr.mono (by first | decide | omega)) hgd T.b_Loom___eq__ T.s_Loom___eq__ T.fn_Loom___eq__)) (pd_var (pv 12)) (pd_call G__law_code (hr.mono (by first | decide | omega)) hgd rfl T.m__law_code T.F__law_code.kp T.b__law_code takes0 (by exact (pda_cons (pd_var (pv 9)) pda_nil))) (nomark _))))) (fun _ _ _ _ _ => (pd_var (pv 12))))) (pd_lst pda_nil) (nomark _)) (pdw_or1 (pdt_cmp (opd_ne rfl hr.units) (pd_cmpO (OpO.or (OpD.toO (opd_eq rfl hr.units)) (opo_eqOwn rfl T.own (show _ ∈ OWN by decide) T.sub_Loom G_Loom___eq__ (hr.mono (by first | decide | omega)) hgd T.b_Loom___eq__ T.s_Loom___eq__ T.fn_Loom___eq__)) (pd_var (pv 2)) (pd_ix rfl (pd_var (pv 11)) pd_int) (nomark _)) (pd_cmp (opd_eq2 rfl hr) (pd_var (pv 9)) (pd_var (pv 1)) (nomark _)) (nomark _)))))
  (pds_one (pds_ret pd_bl))
  pds_nil)
  (pds_cons (pds_set (i := 11) sc__law_others_right.nd rfl (Or.inl rfl) (pd_lst (pda_cons (pd_meth (c := "Loom") rfl T.own (show _ ∈ OWN by decide) T.me_Loom_threaded G_Loom_threaded (hr.mono (by first | decide | omega)) hgd T.b_Loom_threaded (takes_of rfl rfl rfl rfl) (pd_var (pv 2)) (by exact (pda_cons (pd_var (pv 7)) pda_nil))) (pda_cons (pd_methK0 (c := "Loom") (ix := [0]) rfl T.own (show _ ∈ OWN by decide) T.me_Loom_threaded G_Loom_threaded (hr.mono (by first | decide | omega)) hgd T.kbo_Loom_threaded_threading (takes_of rfl rfl rfl rfl) (pd_var (pv 2)) (pdk_cons (pd_var (pv 7)) pdk_nil)) pda_nil))))
  (pds_cons (pds_if (PDW.pt (pdw_or (pdt_cmp (opd_neN rfl hr.units) (pd_ofN (pdn_lc (own := [("_law_it", 12)]) (t := (.name 12)) rfl sc__law_others_right.nd (pdi_val rfl (pd_var (pv 11))) (blkOk_by (own := [("_law_it", 12)]) (N := ["_law_deck_here", "_law_w", "_law_code_here", "_law_signs_here", "_law_sign", "_law_at", "_law_lot", "_law_thread", "_law_k", "_law_far", "_law_odd_here", "_law_told", "_law_it", "_law_some", "_law_due", "_law_x"]) (sc := defScope st__law_others_right) (by decide +kernel)) (by decide) (fun _ _ _ _ _ => (pdg_name (i := 12) sc__law_others_right.nd rfl (Or.inl rfl))) (fun _ _ _ _ _ => (pdts_one (pdt_not (pdt_cmpO (OpO.or (OpD.toO (opd_eq rfl hr.units)) (opo_eqOwn rfl T.own (show _ ∈ OWN by decide) T.sub_Loom G_Loom___eq__ (hr.mono (by first | decide | omega)) hgd T.b_Loom___eq__ T.s_Loom___eq__ T.fn_Loom___eq__)) (pd_var (pv 12)) (pd_call G__law_code (hr.mono (by first | decide | omega)) hgd rfl T.m__law_code T.F__law_code.kp T.b__law_code takes0 (by exact (pda_cons (pd_var (pv 10)) pda_nil))) (nomark _))))) (fun _ _ _ _ _ => (pd_var (pv 12))))) (pd_lst pda_nil) (nomark _)) (pdw_or1 (pdt_cmp (opd_ne rfl hr.units) (pd_cmpO (OpO.or (OpD.toO (opd_ne rfl hr.units)) (opo_neOwn rfl T.own (show _ ∈ OWN by decide) T.sub_Loom G_Loom___eq__ (hr.mono (by first | decide | omega)) hgd T.b_Loom___eq__ T.ne_Loom T.s_Loom___eq__ T.fn_Loom___eq__ T.so_Loom)) (pd_var (pv 2)) (pd_ix rfl (pd_var (pv 11)) pd_int) (nomark _)) (pd_cmp (opd_ne2 rfl hr) (pd_var (pv 10)) (pd_var (pv 1)) (nomark _)) (nomark _)))))
  (pds_one (pds_ret pd_bl))
  pds_nil)
  (pds_cons (pds_set (i := 13) sc__law_others_right.nd rfl (Or.inl rfl) (pd_lst (pda_cons pd_non (pda_cons pd_int (pda_cons pd_str (pda_cons (pd_var (pv 3)) (pda_cons (pd_op (opd_times rfl) (pd_rev rfl (pd_var (pv 3))) pd_int) (pda_cons (pd_op (opd_plus rfl) (pd_var (pv 3)) pd_str) (pda_cons pd_str (pda_cons pd_str (pda_cons (pd_tup (pda_cons pd_str pda_nil)) (pda_cons (pd_lst (pda_cons pd_str pda_nil)) (pda_cons (pd_op (opd_times rfl) (pd_ix rfl (pd_var (pv 3)) (pd_neg' pd_int)) pd_int) (pda_cons pd_bl (pda_cons (pd_var (pv 2)) pda_nil)))))))))))))))
  (pds_cons (pds_set (i := 13) sc__law_others_right.nd rfl (Or.inl rfl) (pd_op (opd_plus rfl) (pd_var (pv 13)) (pd_lst (pda_cons (pd_ix rfl pd_str (pd_callB (callo_len rfl) (by rfl) T.n_len (by decide +kernel) (by exact (pda_cons (pd_var (pv 3)) pda_nil)))) (pda_cons pd_str pda_nil)))))
  (pds_cons (pds_setD (pds_setLc (i := 14) (own := [("_law_it", 12)]) (tt := (.name 12)) rfl sc__law_others_right.nd rfl rfl (sw_true rfl rfl rfl (by decide +kernel)) (pdi_val rfl (pd_var (pv 13))) (blkOk_by (own := [("_law_it", 12)]) (N := ["_law_deck_here", "_law_w", "_law_code_here", "_law_signs_here", "_law_sign", "_law_at", "_law_lot", "_law_thread", "_law_k", "_law_far", "_law_odd_here", "_law_told", "_law_it", "_law_some", "_law_due", "_law_x"]) (sc := defScope st__law_others_right) (by decide +kernel)) (by decide) (fun _ _ _ _ _ => (pdg_name (i := 12) sc__law_others_right.nd rfl (Or.inl rfl))) (fun _ _ _ _ _ => pdts_nil) (fun _ _ _ _ _ => (pd_and rfl (pd_isi (T := "str") rfl T.own (by decide) (pe_bltn (v := .ty "str") (u := .type "str") (by rfl) T.n_str (by decide +kernel) rfl) (by rfl) T.n_isinstance (pd_var (pv 12))) (pd_one (pd_cmp (opd_eqN rfl hr.units) (pd_ofN (pdn_lc (own := [("_law_x", 15)]) (t := (.name 15)) rfl sc__law_others_right.nd (pdi_val rfl (pd_var (pv 12))) (blkOk_in (own := [("_law_x", 15)]) (N := ["_law_deck_here", "_law_w", "_law_code_here", "_law_signs_here", "_law_sign", "_law_at", "_law_lot", "_law_thread", "_law_k", "_law_far", "_law_odd_here", "_law_told", "_law_it", "_law_some", "_law_due", "_law_x"]) (by decide +kernel)) (by decide) (fun _ _ _ _ _ => (pdg_name (i := 15) sc__law_others_right.nd rfl (Or.inl rfl))) (fun _ _ _ _ _ => (pdts_one (pdt_cmp (opd_notIn rfl) (pd_var (pv 15)) (pd_var (pv 3)) (by rfl)))) (fun _ _ _ _ _ => (pd_var (pv 15))))) (pd_lst pda_nil) (nomark _)))))))
  (pds_cons (pds_if (PDW.pt (pdw_or (pdt_cmp (opd_ne rfl hr.units) (pd_callB (callo_repr rfl hgd hr.units) (by rfl) T.n_repr (by decide +kernel) (by exact (pda_cons (pd_ofN (pdn_lc (own := [("_law_it", 12)]) (t := (.name 12)) rfl sc__law_others_right.nd (pdi_val rfl (pd_var (pv 13))) (blkOk_by (own := [("_law_it", 12)]) (N := ["_law_deck_here", "_law_w", "_law_code_here", "_law_signs_here", "_law_sign", "_law_at", "_law_lot", "_law_thread", "_law_k", "_law_far", "_law_odd_here", "_law_told", "_law_it", "_law_some", "_law_due", "_law_x"]) (sc := defScope st__law_others_right) (by decide +kernel)) (by decide) (fun _ _ _ _ _ => (pdg_name (i := 12) sc__law_others_right.nd rfl (Or.inl rfl))) (fun _ _ _ _ _ => pdts_nil) (fun _ _ _ _ _ => (pd_call G_is_treadling (hr.mono (by first | decide | omega)) hgd rfl T.m_is_treadling T.F_is_treadling.kp T.b_is_treadling takes0 (by exact (pda_cons (pd_var (pv 2)) (pda_cons (pd_var (pv 12)) pda_nil))))))) pda_nil))) (pd_callB (callo_repr rfl hgd hr.units) (by rfl) T.n_repr (by decide +kernel) (by exact (pda_cons (pd_var (pv 14)) pda_nil))) (nomark _)) (pdw_or1 (pdt_cmp opd_isNot (pd_callK0 (ix := [1, 0]) G_is_treadling (hr.mono (by first | decide | omega)) hgd rfl T.m_is_treadling T.F_is_treadling.kp T.kb_is_treadling_0_thing_loom (takes_of rfl rfl rfl rfl) (pdk_cons pd_str (pdk_cons (pd_var (pv 2)) pdk_nil))) pd_bl (nomark _)))))
  (pds_one (pds_ret pd_bl))
  pds_nil)
  (pds_one (pds_ret (pd_cmp (opd_eqN rfl hr.units) (pd_ofN (pdn_lc (own := [("_law_it", 12)]) (t := (.name 12)) rfl sc__law_others_right.nd (pdi_val rfl (pd_lst (pda_cons pd_non (pda_cons pd_int (pda_cons (pd_key hr.units (pd_var (pv 1)) pd_str) (pda_cons (pd_tup (pda_cons (pd_key hr.units (pd_var (pv 1)) pd_str) (pda_cons (pd_key hr.units (pd_var (pv 1)) pd_str) (pda_cons (pd_key hr.units (pd_var (pv 1)) pd_str) pda_nil)))) (pda_cons (pd_lst (pda_cons (pd_var (pv 2)) pda_nil)) pda_nil))))))) (blkOk_by (own := [("_law_it", 12)]) (N := ["_law_deck_here", "_law_w", "_law_code_here", "_law_signs_here", "_law_sign", "_law_at", "_law_lot", "_law_thread", "_law_k", "_law_far", "_law_odd_here", "_law_told", "_law_it", "_law_some", "_law_due", "_law_x"]) (sc := defScope st__law_others_right) (by decide +kernel)) (by decide) (fun _ _ _ _ _ => (pdg_name (i := 12) sc__law_others_right.nd rfl (Or.inl rfl))) (fun _ _ _ _ _ => (pdts_one (pdt_cmpO (OpO.or (OpD.toO (opd_eq rfl hr.units)) (opo_eqOwn rfl T.own (show _ ∈ OWN by decide) T.sub_Loom G_Loom___eq__ (hr.mono (by first | decide | omega)) hgd T.b_Loom___eq__ T.s_Loom___eq__ T.fn_Loom___eq__)) (pd_var (pv 2)) (pd_var (pv 12)) (nomark _)))) (fun _ _ _ _ _ => (pd_var (pv 12))))) (pd_lst pda_nil) (nomark _)))))))))))))))))))
end
end C01
set_option Elab.async false
set_option linter.all false
set_option maxRecDepth 100000
set_option maxHeartbeats 4000000
namespace C01
open PySem PySem.Spec L2 DL
abbrev LET : Str := "abcdefghijklmnopqrstuvwxyz"
/-! ### numbers, rows of numbers -/
def isI : D → Bool
  | .int _ => true
  | _ => false
theorem is_int_run {d : D} {k : DkO} (h : plain d = true) : n_is_int [d] k = .ok (.bl (isI d)) k := by
  unfold n_is_int fnD entryE s_is_int g_is_int
  cases d <;> first | (cases h; done) | simp [isTy, isTyN, tyN, truD, isI]
def numB (lo hi : Int) : D → Bool
  | .int i => decide (lo ≤ i) && decide (i ≤ hi)
  | _ => false
theorem le_int {i j : Int} : leD (.int i) (.int j) = some (.bl (decide (i ≤ j))) := by unfold leD orD intOp; rfl
section
variable {env : List En} {k k1 : DkO} {f h q : Sm D} {l : Sm (List D)}
theorem chain_le {o : D → D → Option D} {a b c : Int} {z : Bool} (e1 : f env k = .ok (.int a) k) (e2 : h env k = .ok (.int b) k) (e3 : q env k = .ok (.int c) k) (e4 : o (.int b) (.int c) = some (.bl z)) :
    sChain leD o f h q env k = .ok (.bl (decide (a ≤ b) && z)) k := by
  rw [sChain_eq, e1, bind_ok, e2, bind_ok, le_int]
  by_cases hz : a ≤ b
  · simp [hz, e3, e4]
  · simp [hz]
end
theorem below_run {d : D} {n : Int} {k : DkO} (h : plain d = true) : n_is_number_below [d, .int n] k = .ok (.bl (numB 0 (n - 1) d)) k := by
  have e := is_int_run (k := k) h
  refine (?_ : endD (g_is_number_below n_is_int [.d d, .d (.int n)] k) = _)
  generalize n_is_int = FI at e
  have e1 : sCall 1 FI (lCons (sV 0) lNil) [.d d, .d (.int n)] k = .ok (.bl (isI d)) k := call_run (l1_run (v_run rfl)) rfl e
  unfold g_is_number_below
  cases d with
  | int i =>
    rw [ret_run ((and_t e1).trans (chain_le (a := 0) (b := i) (c := n) rfl rfl rfl lt_int))]
    have : decide (i < n) = decide (i ≤ n - 1) := by rw [decide_eq_decide]; omega
    rw [this]; rfl
  | _ => rw [ret_run (and_f e1)]; rfl
theorem whole_run {d : D} {lo hi : Int} {k : DkO} (h : plain d = true) : n__law_is_whole [d, .int lo, .int hi] k = .ok (.bl (numB lo hi d)) k := by
  refine (?_ : endD (g__law_is_whole [.d d, .d (.int lo), .d (.int hi)] k) = _)
  unfold g__law_is_whole
  have e1 := isi_run (T := "int") (f := sV 0) (env := [.d d, .d (.int lo), .d (.int hi)]) (k := k) (v_run rfl) h
  have e2 := isi_run (T := "bool") (f := sV 0) (env := [.d d, .d (.int lo), .d (.int hi)]) (k := k) (v_run rfl) h
  cases d with
  | int i =>
    have e3 : sNot (sIsi "bool" (sV 0)) [.d (.int i), .d (.int lo), .d (.int hi)] k = .ok (.bl true) k := by rw [sNot_eq, e2]; rfl
    rw [ret_run ((and_t e1).trans ((and_t e3).trans (chain_le (a := lo) (b := i) (c := hi) rfl rfl rfl le_int)))]
    rfl
  | bl b =>
    have e3 : sNot (sIsi "bool" (sV 0)) [.d (.bl b), .d (.int lo), .d (.int hi)] k = .ok (.bl false) k := by rw [sNot_eq, e2]; rfl
    rw [ret_run ((and_t e1).trans (and_f e3))]; rfl
  | _ => first | (cases h; done) | (rw [ret_run (and_f e1)]; rfl)
/-- all of a row -/
theorem allB_run {FB : Fn} {ds : List D} {n : D} {q : D → Bool} {k : DkO} (hB : ∀ d ∈ ds, ∀ k, FB [d, n] k = .ok (.bl (q d)) k) (hl : ds.length ≤ sizeLine) :
    sApp (pureO allD) (lCons (sFrz (sComp (.name 2) [2] sYes (sCall 2 FB (lCons (sV 2) (lCons (sV 1) lNil))) (iVal (sV 0)))) lNil) [.d (.tup ds), .d n, .no] k = .ok (.bl (ds.all q)) k := by
  have e : ∀ k, compM (.name 2) sYes (sCall 2 FB (lCons (sV 2) (lCons (sV 1) lNil))) (wipeE [.d (.tup ds), .d n, .no] [2]) ds [] k = .ok ([] ++ (ds.filter fun _ => true).map fun d => .bl (q d)) k :=
    compM_eq (pp := fun _ => true) (ff := fun d => .bl (q d)) ds [] (by simpa using hl) fun d hd => ⟨_, rfl, fun k => ⟨rfl, fun _ => call_run (l2_run (v_run rfl) (v_run rfl)) rfl (hB d hd k)⟩⟩
  refine app_run (l1_run (comp_run (iVal_run (v_run rfl) rfl) (e k))) (pure_run ?_)
  rw [List.nil_append, filter_yes]
  exact all_map
/-- numbers in a row -/
def numsOf : List D → List Int
  | [] => []
  | .int i :: ds => i :: numsOf ds
  | _ :: ds => numsOf ds
theorem nums_all {lo hi : Int} : ∀ {ds : List D}, ds.all (numB lo hi) = true → ds = (numsOf ds).map .int ∧ ∀ i ∈ numsOf ds, lo ≤ i ∧ i ≤ hi
  | [], _ => ⟨rfl, fun _ z => nomatch z⟩
  | d :: ds, h => by
    rw [List.all_cons, Bool.and_eq_true] at h
    obtain ⟨e, q⟩ := nums_all h.2
    cases d with
    | int i =>
      have hi' := h.1
      simp only [numB, Bool.and_eq_true, decide_eq_true_eq] at hi'
      refine ⟨by show _ = D.int i :: (numsOf ds).map D.int; rw [← e], fun j hj => ?_⟩
      rcases List.mem_cons.mp hj with rfl | hj
      · exact hi'
      · exact q j hj
    | _ => exact absurd h.1 (by simp [numB])
theorem nums_map (ns : List Int) : numsOf (ns.map D.int) = ns := by
  induction ns with
  | nil => rfl
  | cons n ns ih => show n :: numsOf (ns.map D.int) = _; rw [ih]
/-- each less than the next -/
def ascB (ns : List Int) : Bool := (ns.zip (ns.drop 1)).all fun p => decide (p.1 < p.2)
theorem cut_tail {α : Type} {xs : List α} : cutL xs (some 1) none = xs.drop 1 := by
  unfold cutL
  have e1 : (1 : Int) = ((1 : Nat) : Int) := rfl
  rw [e1, HT.sIx_none, HT.sIx_nat]
  cases xs with
  | nil => rfl
  | cons x xs =>
    rw [Nat.min_eq_left (by rw [List.length_cons]; omega)]
    exact List.take_of_length_le (by rw [List.length_drop]; omega)
theorem zip_ints (xs ys : List Int) : zipD (xs.map D.int) (ys.map D.int) = (xs.zip ys).map fun p => D.tup [.int p.1, .int p.2] := by
  unfold zipD
  rw [List.zip_map, List.map_map]
  rfl
theorem asc_run {ns : List Int} {k : DkO} (hl : ns.length ≤ sizeLine) : n_is_ascending [.tup (ns.map .int)] k = .ok (.bl (ascB ns)) k := by
  refine (?_ : endD (g_is_ascending [.d (.tup (ns.map .int)), .no, .no] k) = _)
  unfold g_is_ascending
  have hz : (ns.zip (ns.drop 1)).length ≤ sizeLine := by rw [List.length_zip]; omega
  have e : ∀ k, compM (.tup [.name 1, .name 2]) sYes (sOp ltD (sV 1) (sV 2)) (wipeE [.d (.tup (ns.map .int)), .no, .no] [1, 2]) ((ns.zip (ns.drop 1)).map fun p => .tup [.int p.1, .int p.2]) [] k = .ok ([] ++ ((ns.zip (ns.drop 1)).filter fun _ => true).map fun p => .bl (decide (p.1 < p.2))) k :=
    compM_map (mk := fun p : Int × Int => .tup [.int p.1, .int p.2]) (pp := fun _ => true) (ff := fun p => .bl (decide (p.1 < p.2))) _ [] (by simpa using hz) fun p _ => ⟨_, rfl, fun k => ⟨rfl, fun _ => op_run (v_run rfl) (v_run rfl) lt_int⟩⟩
  have ez : DL.iZip (lCons (sV 0) (lCons (sSl (sV 0) (oSome (sC (.int 1))) oNone) lNil)) [.d (.tup (ns.map .int)), .no, .no] k = .ok ((ns.zip (ns.drop 1)).map fun p => .tup [.int p.1, .int p.2]) k := by
    have a : lCons (sV 0) (lCons (sSl (sV 0) (oSome (sC (.int 1))) oNone) lNil) [.d (.tup (ns.map .int)), .no, .no] k = .ok [.tup (ns.map .int), .tup (cutL (ns.map .int) (some 1) none)] k := l2_run (v_run rfl) (sl_run (v_run rfl) (oSome_run rfl) oNone_run rfl)
    unfold DL.iZip
    rw [a, bind_ok]
    show Out.of (some (zipD _ _)) k = _
    rw [cut_tail, ← List.map_drop, zip_ints]
    rfl
  rw [ret_run (app_run (l1_run (comp_run ez (e k))) (pure_run (by rw [List.nil_append, filter_yes]; exact all_map)))]
  rfl
/-- a lift below n -/
def lotB (n : Int) : D → Bool
  | .tup ds => ds.all (numB 0 (n - 1)) && ascB (numsOf ds)
  | _ => false
/-- a row of plain values, not too long -/
def okL (d : D) : Prop := plain d = true ∧ ∀ ds, d = .tup ds → ds.length ≤ sizeLine ∧ ∀ e ∈ ds, plain e = true
theorem lot_run {d : D} {n : Int} {k : DkO} (h : okL d) : n_is_tuple_below [d, .int n] k = .ok (.bl (lotB n d)) k := by
  obtain ⟨hp, ht⟩ := h
  refine (?_ : endD (g_is_tuple_below n_is_number_below n_is_ascending [.d d, .d (.int n), .no] k) = _)
  have e1 := isi_run (T := "tuple") (f := sV 0) (env := [.d d, .d (.int n), .no]) (k := k) (v_run rfl) hp
  unfold g_is_tuple_below
  cases d with
  | tup ds =>
    obtain ⟨hl, hd⟩ := ht ds rfl
    have hB : ∀ d ∈ ds, ∀ k, n_is_number_below [d, .int n] k = .ok (.bl (numB 0 (n - 1) d)) k := fun d hx k => below_run (hd d hx)
    have a := allB_run (k := k) hB hl
    rw [seq_nx (if_skip (notB_run (tru_run e1 rfl)))]
    cases hc : ds.all (numB 0 (n - 1)) with
    | false =>
      rw [hc] at a
      rw [ret_run (and_f a)]
      show _ = Out.ok (D.bl (ds.all (numB 0 (n - 1)) && _)) k
      rw [hc]; rfl
    | true =>
      rw [hc] at a
      obtain ⟨en, _⟩ := nums_all hc
      have b := asc_run (ns := numsOf ds) (k := k) (by rw [← List.length_map (f := D.int), ← en]; exact hl)
      rw [← en] at b
      have b2 : sCall 1 n_is_ascending (lCons (sV 0) lNil) [.d (.tup ds), .d (.int n), .no] k = .ok (.bl (ascB (numsOf ds))) k := call_run (l1_run (v_run rfl)) rfl b
      rw [ret_run ((and_t a).trans b2)]
      show _ = Out.ok (D.bl (ds.all (numB 0 (n - 1)) && _)) k
      rw [hc]; rfl
  | _ =>
    first
    | (cases hp; done)
    | (rw [seq_rt ((ifs_t (notB_run (tru_run e1 rfl))).trans (ret_run rfl))]; rfl)
def thrB (n : Int) : D → Bool
  | .tup ds => !ds.isEmpty && ds.all (numB 0 (n - 1))
  | _ => false
theorem thr_run {d : D} {n : Int} {k : DkO} (h : okL d) : n_is_threading [d, .int n] k = .ok (.bl (thrB n d)) k := by
  obtain ⟨hp, ht⟩ := h
  refine (?_ : endD (g_is_threading n_is_number_below [.d d, .d (.int n), .no] k) = _)
  have e1 := isi_run (T := "tuple") (f := sV 0) (env := [.d d, .d (.int n), .no]) (k := k) (v_run rfl) hp
  unfold g_is_threading
  cases d with
  | tup ds =>
    obtain ⟨hl, hd⟩ := ht ds rfl
    have hB : ∀ d ∈ ds, ∀ k, n_is_number_below [d, .int n] k = .ok (.bl (numB 0 (n - 1) d)) k := fun d hx k => below_run (hd d hx)
    have a := allB_run (k := k) hB hl
    have e2 : sB (sOp eqD (sV 0) (sTup lNil)) [.d (.tup ds), .d (.int n), .no] k = .ok ds.isEmpty k := b_run (op_run (v_run rfl) (tup_run rfl (by decide)) eq_nilT)
    cases he : ds.isEmpty with
    | true =>
      rw [he] at e2
      rw [seq_rt ((ifs_t ((orB_f (notB_run (tru_run e1 rfl))).trans e2)).trans (ret_run rfl))]
      show _ = Out.ok (D.bl (!ds.isEmpty && _)) k
      rw [he]; rfl
    | false =>
      rw [he] at e2
      rw [seq_nx (if_skip ((orB_f (notB_run (tru_run e1 rfl))).trans e2)), ret_run a]
      show _ = Out.ok (D.bl (!ds.isEmpty && _)) k
      rw [he]; rfl
  | _ =>
    first
    | (cases hp; done)
    | (rw [seq_rt ((ifs_t (orB_t (notB_run (tru_run e1 rfl)))).trans (ret_run rfl))]; rfl)
theorem cnt_run {d : D} {k : DkO} (h : plain d = true) : n_is_shaft_count [d] k = .ok (.bl (numB 1 99 d)) k := by
  have e := is_int_run (k := k) h
  refine (?_ : endD (g_is_shaft_count n_is_int [.d d] k) = _)
  generalize n_is_int = FI at e
  have e1 : sCall 1 FI (lCons (sV 0) lNil) [.d d] k = .ok (.bl (isI d)) k := call_run (l1_run (v_run rfl)) rfl e
  unfold g_is_shaft_count
  cases d with
  | int i => rw [ret_run ((and_t e1).trans (chain_le (a := 1) (b := i) (c := 99) rfl rfl rfl le_int))]; rfl
  | _ => rw [ret_run (and_f e1)]; rfl
end C01
set_option Elab.async false
set_option linter.all false
set_option maxRecDepth 100000
set_option maxHeartbeats 4000000
namespace C01
open PySem PySem.Spec L2 DL
/-! ### the law's own look -/
theorem filt_empty {α : Type} {q : α → Bool} {l : List α} : (l.filter fun x => !q x).isEmpty = l.all q := by
  rw [Bool.eq_iff_iff, List.isEmpty_iff, List.filter_eq_nil_iff, List.all_eq_true]
  constructor
  · intro h a ha; simpa using h a ha
  · intro h a ha; simpa using h a ha
/-- those of a row that are not whole -/
theorem notW_run {FW : Fn} {i : Nat} {its fl fh : Sm D} {env : List En} {ds : List D} {lo hi : Int} {k : DkO} (hW : ∀ d ∈ ds, ∀ k, FW [d, .int lo, .int hi] k = .ok (.bl (numB lo hi d)) k) (hl : ds.length ≤ sizeLine) (e1 : iVal its env k = .ok ds k)
    (hx : ∀ d, ((wipeE env [i]).set i (.d d))[i]? = some (.d d)) (h2 : ∀ d k, fl ((wipeE env [i]).set i (.d d)) k = .ok (.int lo) k) (h3 : ∀ d k, fh ((wipeE env [i]).set i (.d d)) k = .ok (.int hi) k) :
    sFrz (sComp (.name i) [i] (sNotB (sTru (sCall 3 FW (lCons (sV i) (lCons fl (lCons fh lNil)))))) (sV i) (iVal its)) env k = .ok (.lst (ds.filter fun d => !numB lo hi d)) k := by
  have e : ∀ k, compM (.name i) (sNotB (sTru (sCall 3 FW (lCons (sV i) (lCons fl (lCons fh lNil)))))) (sV i) (wipeE env [i]) ds [] k = .ok ([] ++ (ds.filter fun d => !numB lo hi d).map fun d => d) k :=
    compM_eq (pp := fun d => !numB lo hi d) (ff := fun d => d) ds [] (by simpa using hl) fun d hd => ⟨_, rfl, fun k => ⟨notB_run (tru_run (call_run (l3_run (v_run (hx d)) (h2 d k) (h3 d k)) rfl (hW d hd k)) rfl), fun _ => v_run (hx d)⟩⟩
  rw [comp_run e1 (e k), List.nil_append, List.map_id']
theorem drop_ix {α : Type} {xs : List α} {i : Nat} : (xs.drop 1)[i]? = xs[i + 1]? := by rw [List.getElem?_drop, Nat.add_comm]
/-- where a row of numbers does not ascend -/
def dips (ns : List Int) : List Nat := (List.range' 1 (ns.length - 1)).filter fun j => !decide (ns.getD (j - 1) 0 < ns.getD j 0)
theorem dips_empty {ns : List Int} : (dips ns).isEmpty = ascB ns := by
  unfold dips
  rw [filt_empty, ascB, Bool.eq_iff_iff, List.all_eq_true, List.all_eq_true]
  constructor
  · intro h p hp
    obtain ⟨i, hi⟩ := List.mem_iff_getElem?.mp hp
    obtain ⟨h1, h2⟩ := List.getElem?_zip_eq_some.mp hi
    rw [drop_ix] at h2
    have l2 := (List.getElem?_eq_some_iff.mp h2).1
    have := h (i + 1) (List.mem_range'_1.mpr ⟨by omega, by omega⟩)
    rw [Nat.add_sub_cancel, List.getD_eq_getElem?_getD, List.getD_eq_getElem?_getD, h1, h2] at this
    exact this
  · intro h j hj
    obtain ⟨j1, j2⟩ := List.mem_range'_1.mp hj
    obtain ⟨i, rfl⟩ : ∃ i, j = i + 1 := ⟨j - 1, by omega⟩
    have l1 : i < ns.length := by omega
    have l2 : i + 1 < ns.length := by omega
    have e : (ns.zip (ns.drop 1))[i]? = some (ns[i], ns[i + 1]) := List.getElem?_zip_eq_some.mpr ⟨List.getElem?_eq_getElem l1, by rw [drop_ix]; exact List.getElem?_eq_getElem l2⟩
    have := h _ (List.mem_of_getElem? e)
    rw [Nat.add_sub_cancel, List.getD_eq_getElem?_getD, List.getD_eq_getElem?_getD, List.getElem?_eq_getElem l1, List.getElem?_eq_getElem l2]
    exact this
theorem range_from1 (n : Nat) : rangeL 1 (n : Nat) = (List.range' 1 (n - 1)).map fun (i : Nat) => .int (i : Nat) := by
  unfold rangeL
  have e : ((n : Int) - 1).toNat = n - 1 := by omega
  rw [e, List.range'_eq_map_range, List.map_map]
  refine List.map_congr_left fun i _ => ?_
  show D.int (1 + (i : Int)) = .int ((1 + i : Nat) : Int)
  congr 1
theorem big62' {w : Nat} (h : w ≤ 16777216) : big62 (w : Nat) = true := by
  unfold big62
  simp only [Bool.and_eq_true, decide_eq_true_eq]
  omega
theorem atI_ints {ns : List Int} {i : Nat} (h : i < ns.length) : atI (ns.map D.int) (i : Int) = some (.int (ns.getD i 0)) := by
  refine L2.atI_nat ?_
  rw [List.getElem?_map, List.getD_eq_getElem?_getD, List.getElem?_eq_getElem h]; rfl
theorem islot_run {d : D} {g : Int} {k : DkO} (h : okL d) : n__law_is_lot [d, .int g] k = .ok (.bl (lotB (g + 1) d)) k := by
  obtain ⟨hp, ht⟩ := h
  refine (?_ : endD (g__law_is_lot n__law_is_whole [.d d, .d (.int g), .no, .no] k) = _)
  have e1 := isi_run (T := "tuple") (f := sV 0) (env := [.d d, .d (.int g), .no, .no]) (k := k) (v_run rfl) hp
  unfold g__law_is_lot
  cases d with
  | tup ds =>
    obtain ⟨hl, hd⟩ := ht ds rfl
    have sz := sizeLine_eq
    have hW : ∀ d ∈ ds, ∀ k, n__law_is_whole [d, .int 0, .int g] k = .ok (.bl (numB 0 g d)) k := fun d hx k => whole_run (hd d hx)
    have a := notW_run (i := 2) (its := sV 0) (fl := sC (.int 0)) (fh := sV 1) (env := [.d (.tup ds), .d (.int g), .no, .no]) (k := k) hW hl (iVal_run (v_run rfl) rfl) (fun _ => rfl) (fun _ _ => rfl) (fun _ _ => rfl)
    have e2 := b_run (op_run a (lst_run (l := lNil) rfl (by decide)) ne_nilL)
    rw [filt_empty] at e2
    have hg : g + 1 - 1 = g := by omega
    cases hc : ds.all (numB 0 g) with
    | false =>
      rw [hc] at e2
      rw [seq_rt ((ifs_t ((orB_f (notB_run (tru_run e1 rfl))).trans e2)).trans (ret_run rfl))]
      show _ = Out.ok (D.bl (ds.all (numB 0 (g + 1 - 1)) && _)) k
      rw [hg, hc]; rfl
    | true =>
      rw [hc] at e2
      rw [seq_nx (if_skip ((orB_f (notB_run (tru_run e1 rfl))).trans e2))]
      obtain ⟨en, _⟩ := nums_all hc
      generalize hns : numsOf ds = ns at en
      have hln : ds.length = ns.length := by rw [en, List.length_map]
      have eC : ∀ k, compM (.name 3) (sNotB (sB (sOp ltD (sIx (sV 0) (sOp minusD (sV 3) (sC (.int 1)))) (sIx (sV 0) (sV 3))))) (sV 3) (wipeE [.d (.tup ds), .d (.int g), .no, .no] [3]) ((List.range' 1 (ns.length - 1)).map fun (i : Nat) => .int (i : Nat)) [] k = .ok ([] ++ (dips ns).map fun (i : Nat) => .int (i : Nat)) k := by
        refine compM_map (mk := fun (i : Nat) => .int (i : Nat)) (pp := fun j => !decide (ns.getD (j - 1) 0 < ns.getD j 0)) (ff := fun (i : Nat) => .int (i : Nat)) _ [] (by rw [List.length_range', List.length_nil]; omega) fun j hj => ⟨_, rfl, fun k => ⟨?_, fun _ => v_run rfl⟩⟩
        obtain ⟨j1, j2⟩ := List.mem_range'_1.mp hj
        have ej : (j : Int) - 1 = ((j - 1 : Nat) : Int) := by omega
        refine notB_run (b_run (op_run (ix_run (v_run rfl) (op_run (v_run rfl) rfl minus_int) ?_) (ix_run (v_run rfl) (v_run rfl) ?_) lt_int))
        · show atI ds ((j : Int) - 1) = _
          rw [en, ej]
          exact atI_ints (by omega)
        · show atI ds (j : Int) = _
          rw [en]
          exact atI_ints (by omega)
      have eR : iRange2 (sC (.int 1)) (sApp (pureO lenD) (lCons (sV 0) lNil)) [.d (.tup ds), .d (.int g), .no, .no] k = .ok ((List.range' 1 (ns.length - 1)).map fun (i : Nat) => .int (i : Nat)) k := by
        rw [iRange2_eq, sC_eq, bind_ok, app_run (l1_run (v_run rfl)) rfl, bind_ok]
        show (if big62 1 = true ∧ big62 (ds.length : Nat) = true then Out.ok (rangeL 1 (ds.length : Nat)) k else .bad) = _
        rw [if_pos ⟨by decide, big62' (by omega)⟩, hln, range_from1]
      rw [ret_run (op_run (comp_run eR (eC k)) (lst_run (l := lNil) rfl (by decide)) eq_nilL)]
      show _ = Out.ok (D.bl (ds.all (numB 0 (g + 1 - 1)) && ascB (numsOf ds))) k
      rw [hg, hc, hns, List.nil_append, List.isEmpty_map, dips_empty]; rfl
  | _ =>
    first
    | (cases hp; done)
    | (rw [seq_rt ((ifs_t (orB_t (notB_run (tru_run e1 rfl)))).trans (ret_run rfl))]; rfl)
/-! ### what is wrong with the parts of a loom -/
def intV : D → Int
  | .int i => i
  | _ => 0
def liftsB (n : Int) : D → D
  | .tup ls => if 1 ≤ ls.length ∧ ls.length ≤ 26 then unD (ls.findIdx? fun d => !lotB n d) else .str "lifts"
  | _ => .str "lifts"
def badOf (c t l : D) : D := if numB 1 99 c = false then .str "shafts" else if thrB (intV c) t = false then .str "threading" else liftsB (intV c) l
/-- parts within bounds -/
structure okP (c t l : D) : Prop where
  pc : plain c = true
  pt : okL t
  pl : okL l
  ls : ∀ ds, l = .tup ds → ∀ d ∈ ds, okL d
theorem num_int {lo hi : Int} {d : D} (h : numB lo hi d = true) : d = .int (intV d) ∧ lo ≤ intV d ∧ intV d ≤ hi := by
  cases d with
  | int i => simp only [numB, Bool.and_eq_true, decide_eq_true_eq] at h; exact ⟨rfl, h.1, h.2⟩
  | _ => simp [numB] at h
theorem len_chain {f : Sm D} {env : List En} {k : DkO} {ls : List D} {z : Sm D} (e : f env k = .ok (.tup ls) k) (e2 : z env k = .ok (.int 26) k) : sB (sChain leD leD (sC (.int 1)) (sApp (pureO lenD) (lCons f lNil)) z) env k = .ok (decide (1 ≤ ls.length ∧ ls.length ≤ 26)) k := by
  refine b_run ((chain_le (a := 1) (b := (ls.length : Nat)) (c := 26) rfl (app_run (l1_run e) rfl) e2 le_int).trans ?_)
  congr 2
  rw [Bool.eq_iff_iff, Bool.and_eq_true, decide_eq_true_eq, decide_eq_true_eq, decide_eq_true_eq]
  omega
theorem bad_run {c t l : D} {k : DkO} (o : okP c t l) : n__law_bad [.tup [c, t, l]] k = .ok (badOf c t l) k := by
  refine (?_ : endD (g__law_bad n__law_is_whole n__law_is_lot [.d (.tup [c, t, l]), .no, .no, .no, .no, .no, .no, .no] k) = _)
  have hW : ∀ (d : D) lo hi k, plain d = true → n__law_is_whole [d, .int lo, .int hi] k = .ok (.bl (numB lo hi d)) k := fun d lo hi k => whole_run
  have hL : ∀ (d : D) g k, okL d → n__law_is_lot [d, .int g] k = .ok (.bl (lotB (g + 1) d)) k := fun d g k => islot_run
  generalize n__law_is_whole = FW at hW ⊢
  generalize n__law_is_lot = FL at hL ⊢
  unfold g__law_bad
  have s0 : sAsg (.tup [.name 1, .name 2, .name 3]) (sV 0) [.d (.tup [c, t, l]), .no, .no, .no, .no, .no, .no, .no] k = .nx [.d (.tup [c, t, l]), .d c, .d t, .d l, .no, .no, .no, .no] k := rfl
  rw [seq_nx s0]
  have e1 : sNotB (sTru (sCall 3 FW (lCons (sV 1) (lCons (sC (.int 1)) (lCons (sC (.int 99)) lNil))))) [.d (.tup [c, t, l]), .d c, .d t, .d l, .no, .no, .no, .no] k = .ok (!numB 1 99 c) k := notB_run (tru_run (call_run (l3_run (v_run rfl) rfl rfl) rfl (hW c 1 99 k o.pc)) rfl)
  unfold badOf
  cases hc : numB 1 99 c with
  | false => rw [hc] at e1; rw [seq_rt ((ifs_t e1).trans (ret_run rfl))]; rfl
  | true =>
    rw [hc] at e1
    obtain ⟨ec, c1, c2⟩ := num_int hc
    generalize hn : intV c = n at ec c1 c2 ⊢
    subst ec
    rw [seq_nx (if_skip e1)]
    have e2 := isi_run (T := "tuple") (f := sV 2) (env := [.d (.tup [.int n, t, l]), .d (.int n), .d t, .d l, .no, .no, .no, .no]) (k := k) (v_run rfl) o.pt.1
    rw [if_neg (by simp)]
    cases t with
    | tup ts =>
      obtain ⟨hl, hd⟩ := o.pt.2 ts rfl
      have e3 : sB (sOp eqD (sV 2) (sTup lNil)) [.d (.tup [.int n, .tup ts, l]), .d (.int n), .d (.tup ts), .d l, .no, .no, .no, .no] k = .ok ts.isEmpty k := b_run (op_run (v_run rfl) (tup_run rfl (by decide)) eq_nilT)
      cases he : ts.isEmpty with
      | true =>
        rw [he] at e3
        rw [seq_rt ((ifs_t ((orB_f (notB_run (tru_run e2 rfl))).trans e3)).trans (ret_run rfl)), if_pos (by simp [thrB, he])]; rfl
      | false =>
        rw [he] at e3
        rw [seq_nx (if_skip ((orB_f (notB_run (tru_run e2 rfl))).trans e3))]
        have a := notW_run (FW := FW) (i := 4) (its := sV 2) (fl := sC (.int 0)) (fh := sOp minusD (sV 1) (sC (.int 1))) (env := [.d (.tup [.int n, .tup ts, l]), .d (.int n), .d (.tup ts), .d l, .no, .no, .no, .no]) (lo := 0) (hi := n - 1) (k := k) (fun d hx k => hW d _ _ k (hd d hx)) hl (iVal_run (v_run rfl) rfl) (fun _ => rfl) (fun _ _ => rfl) (fun _ _ => op_run (v_run rfl) rfl minus_int)
        have e4 := b_run (op_run a (lst_run (l := lNil) rfl (by decide)) ne_nilL)
        rw [filt_empty] at e4
        cases ha : ts.all (numB 0 (n - 1)) with
        | false => rw [ha] at e4; rw [seq_rt ((ifs_t e4).trans (ret_run rfl)), if_pos (by simp [thrB, ha])]; rfl
        | true =>
          rw [ha] at e4
          rw [seq_nx (if_skip e4), if_neg (by simp [thrB, he, ha])]
          have e5 := isi_run (T := "tuple") (f := sV 3) (env := [.d (.tup [.int n, .tup ts, l]), .d (.int n), .d (.tup ts), .d l, .no, .no, .no, .no]) (k := k) (v_run rfl) o.pl.1
          cases l with
          | tup ls =>
            obtain ⟨hl2, hd2⟩ := o.pl.2 ls rfl
            have e6 := len_chain (f := sV 3) (env := [.d (.tup [.int n, .tup ts, .tup ls]), .d (.int n), .d (.tup ts), .d (.tup ls), .no, .no, .no, .no]) (k := k) (z := sC (.int 26)) (v_run rfl) rfl
            show _ = Out.ok (if 1 ≤ ls.length ∧ ls.length ≤ 26 then unD (ls.findIdx? fun d => !lotB n d) else .str "lifts") k
            by_cases hz : 1 ≤ ls.length ∧ ls.length ≤ 26
            · rw [decide_eq_true hz] at e6
              rw [seq_nx (if_skip ((orB_f (notB_run (tru_run e5 rfl))).trans (notB_run e6))), if_pos hz]
              obtain ⟨ns, f1, f2⟩ := firsts (i := 6) (t := .tup [.name 6, .name 7]) (k := k) (ds := ls) (q := fun d => !lotB n d) (p := sNotB (sTru (sCall 2 FL (lCons (sV 7) (lCons (sOp minusD (sV 1) (sC (.int 1))) lNil))))) (env0 := wipeE [.d (.tup [.int n, .tup ts, .tup ls]), .d (.int n), .d (.tup ts), .d (.tup ls), .no, .no, .no, .no] [6, 7]) hl2 fun m d hm => by
                refine ⟨_, rfl, fun k => ⟨?_, v_run rfl⟩⟩
                have := hL d (n - 1) k (o.ls ls rfl d hm)
                rw [show n - 1 + 1 = n by omega] at this
                exact notB_run (tru_run (call_run (l2_run (v_run rfl) (op_run (v_run rfl) rfl minus_int)) rfl this) rfl)
              have e7 : sFrz (sComp (.tup [.name 6, .name 7]) [6, 7] (sNotB (sTru (sCall 2 FL (lCons (sV 7) (lCons (sOp minusD (sV 1) (sC (.int 1))) lNil))))) (sV 6) (iEnumD (sV 3))) [.d (.tup [.int n, .tup ts, .tup ls]), .d (.int n), .d (.tup ts), .d (.tup ls), .no, .no, .no, .no] k = .ok (.lst (ns.map fun n => .int (n : Nat))) k :=
                comp_run (by rw [iEnumD_eq, v_run (i := 3) rfl]; rfl) f1
              rw [seq_nx (set_run e7), ← f2]
              have e8 : sB (sOp neN (sV 5) (sLst lNil)) [.d (.tup [.int n, .tup ts, .tup ls]), .d (.int n), .d (.tup ts), .d (.tup ls), .no, .d (.lst (ns.map fun n => .int (n : Nat))), .no, .no] k = .ok (!ns.isEmpty) k := by
                have := b_run (op_run (f := sV 5) (env := [.d (.tup [.int n, .tup ts, .tup ls]), .d (.int n), .d (.tup ts), .d (.tup ls), .no, .d (.lst (ns.map fun n => .int (n : Nat))), .no, .no]) (k := k) (v_run rfl) (lst_run (l := lNil) rfl (by decide)) (ne_nilL (xs := ns.map fun n => .int (n : Nat))))
                rwa [List.isEmpty_map] at this
              cases ns with
              | nil => exact (congrArg endD (ret_run ((sif_run (f := sIx (sV 5) (sC (.int 0))) (h := sC .non) e8).trans rfl))).trans rfl
              | cons m ms =>
                have e9 : atI ((m :: ms).map fun n => D.int (n : Nat)) 0 = some (.int (m : Nat)) := L2.atI_nat (j := 0) rfl
                exact (congrArg endD (ret_run ((sif_run (f := sIx (sV 5) (sC (.int 0))) (h := sC .non) e8).trans (ix_run (v_run rfl) rfl e9)))).trans rfl
            · rw [decide_eq_false hz] at e6
              rw [seq_rt ((ifs_t ((orB_f (notB_run (tru_run e5 rfl))).trans (notB_run e6))).trans (ret_run rfl)), if_neg hz]; rfl
          | _ =>
            first
            | (cases o.pl.1; done)
            | (rw [seq_rt ((ifs_t (orB_t (notB_run (tru_run e5 rfl)))).trans (ret_run rfl))]; rfl)
    | _ =>
      first
      | (cases o.pt.1; done)
      | (rw [seq_rt ((ifs_t (orB_t (notB_run (tru_run e2 rfl)))).trans (ret_run rfl))]; rfl)
end C01
set_option Elab.async false
set_option linter.all false
set_option maxRecDepth 100000
set_option maxHeartbeats 4000000
namespace C01
open PySem PySem.Spec L2 DL
/-! ### a loom is made -/
abbrev F5 (c t l s u : D) : List (Str × D) := [("shafts", c), ("threading", t), ("lifts", l), ("letters", s), ("used", u)]
theorem put5 {a b c d e : D} : putD "used" e (putD "letters" d (putD "lifts" c (putD "threading" b (putD "shafts" a [])))) = F5 a b c d e := by rfl
theorem setF_run {fs : List (Str × D)} {rest : List En} {k : DkO} {f : Sm D} {d : D} {fl : Str} (e : f (.ownO "Loom" fs :: rest) k = .ok d k) (hl : fs.length < 1000) : sSetF 0 "Loom" fl f (.ownO "Loom" fs :: rest) k = .nx (.ownO "Loom" (putD fl d fs) :: rest) k := by
  rw [sSetF_eq, e, outS_ok]
  show (if "Loom" = "Loom" ∧ fs.length < 1000 then _ else _) = _
  rw [if_pos ⟨rfl, hl⟩]
  rfl
theorem put_len {fl : Str} {d : D} : ∀ {fs : List (Str × D)}, (putD fl d fs).length ≤ fs.length + 1
  | [] => Nat.le_refl _
  | (f, v) :: fs => by
    unfold putD
    have := put_len (fl := fl) (d := d) (fs := fs)
    split <;> simp only [List.length_cons] <;> omega
def bodyI (FT : Fn) : Ss := (sIfS (sNotB (sTru (sCall 2 FT (lCons (sV 5) (lCons (sV 1) lNil)))))
  (sRaise "BadLoom" "part" (lCons (sV 4) lNil))
  sSkip)
theorem loopI {FT : Fn} {n : Int} (hT : ∀ d k, okL d → FT [d, .int n] k = .ok (.bl (lotB n d)) k) {o t l : En} {k : DkO} : ∀ (ds : List D) (i : Nat) (a b : En), (∀ d ∈ ds, okL d) →
    (∃ i' env', ds.findIdx? (fun d => !lotB n d) = some i' ∧ DL.forM (.tup [.name 4, .name 5]) (bodyI FT) (enumI i ds) [o, .d (.int n), t, l, a, b] k = .err "BadLoom" [("part", .int ((i + i' : Nat)))] env' k) ∨
    (ds.findIdx? (fun d => !lotB n d) = none ∧ ∃ a' b', DL.forM (.tup [.name 4, .name 5]) (bodyI FT) (enumI i ds) [o, .d (.int n), t, l, a, b] k = .nx [o, .d (.int n), t, l, a', b'] k)
  | [], i, a, b, _ => .inr ⟨rfl, a, b, rfl⟩
  | d :: ds, i, a, b, h => by
    have e1 : sNotB (sTru (sCall 2 FT (lCons (sV 5) (lCons (sV 1) lNil)))) [o, .d (.int n), t, l, .d (.int (i : Nat)), .d d] k = .ok (!lotB n d) k := notB_run (tru_run (call_run (l2_run (v_run rfl) (v_run rfl)) rfl (hT d k (h d List.mem_cons_self))) rfl)
    rw [enumI_cons]
    unfold DL.forM
    simp only [Tgt.set, Tgt.setAll, List.set_cons_succ, List.set_cons_zero]
    cases hr : lotB n d with
    | false =>
      rw [hr] at e1
      have eB : bodyI FT [o, .d (.int n), t, l, .d (.int (i : Nat)), .d d] k = .err "BadLoom" [("part", .int (i : Nat))] [o, .d (.int n), t, l, .d (.int (i : Nat)), .d d] k := by
        unfold bodyI
        rw [ifs_t e1, sRaise_eq, l1_run (v_run (i := 4) rfl)]; rfl
      rw [eB]
      refine .inl ⟨0, [o, .d (.int n), t, l, .d (.int (i : Nat)), .d d], ?_, rfl⟩
      rw [List.findIdx?_cons, hr]; rfl
    | true =>
      rw [hr] at e1
      have eB : bodyI FT [o, .d (.int n), t, l, .d (.int (i : Nat)), .d d] k = .nx [o, .d (.int n), t, l, .d (.int (i : Nat)), .d d] k := if_skip e1
      rw [eB]
      simp only
      rcases loopI hT ds (i + 1) (.d (.int (i : Nat))) (.d d) (fun d hd => h d (List.mem_cons_of_mem _ hd)) with ⟨i', env', e2, e3⟩ | ⟨e2, a', b', e3⟩
      · refine .inl ⟨i' + 1, env', ?_, ?_⟩
        · rw [List.findIdx?_cons, hr, e2]; rfl
        · rw [e3]
          have : i + 1 + i' = i + (i' + 1) := by omega
          rw [this]
      · refine .inr ⟨?_, a', b', e3⟩
        rw [List.findIdx?_cons, hr, e2]; rfl
theorem put_le {fl : Str} {d : D} {fs : List (Str × D)} {n : Nat} (h : fs.length ≤ n) : (putD fl d fs).length ≤ n + 1 := Nat.le_trans put_len (Nat.succ_le_succ h)
theorem lt1k {m n : Nat} (h : m ≤ n) (hn : n ≤ 5) : m < 1000 := by omega
def lettersOf (l : D) : Str := L2.cutS LET none (some ((tupL l).length : Nat))
def usedOf (t : D) : D := .tup ((sortU (numsOf (tupL t))).map .int)
theorem raise_run {p : Sm Bool} {f : Sm D} {env : List En} {k : DkO} {d : D} (e : p env k = .ok true k) (e2 : f env k = .ok d k) : sIfS p (sRaise "BadLoom" "part" (lCons f lNil)) sSkip env k = .err "BadLoom" [("part", d)] env k := by
  rw [ifs_t e, sRaise_eq, l1_run e2]; rfl
theorem seq_er {s t : Ss} {env env' : List En} {k k' : DkO} {c : String} {fs : List (Str × D)} (e : s env k = .err c fs env' k') : sSeq s t env k = .err c fs env' k' := by rw [sSeq_eq, e]
theorem init_run {c t l : D} {k : DkO} (o : okP c t l) (h64 : (tupL t).length < 64) :
    n_Loom___init__ [c, t, l] k = if (badOf c t l).isNon = true then .ok (F5 c t l (.str (lettersOf l)) (usedOf t)) k else .err "BadLoom" [("part", badOf c t l)] k := by
  show endI "Loom" (g_Loom___init__ n_is_shaft_count n_is_threading n_is_tuple_below [.ownO "Loom" [], .d c, .d t, .d l, .no, .no] k) = _
  have hC : ∀ k, n_is_shaft_count [c] k = .ok (.bl (numB 1 99 c)) k := fun k => cnt_run o.pc
  have hH : ∀ n k, n_is_threading [t, .int n] k = .ok (.bl (thrB n t)) k := fun n k => thr_run o.pt
  have hT : ∀ n d k, okL d → n_is_tuple_below [d, .int n] k = .ok (.bl (lotB n d)) k := fun n d k h => lot_run h
  generalize n_is_shaft_count = FC at hC ⊢
  generalize n_is_threading = FH at hH ⊢
  generalize n_is_tuple_below = FT at hT ⊢
  unfold g_Loom___init__
  have e1 : sNotB (sTru (sCall 1 FC (lCons (sV 1) lNil))) [.ownO "Loom" [], .d c, .d t, .d l, .no, .no] k = .ok (!numB 1 99 c) k := notB_run (tru_run (call_run (l1_run (v_run rfl)) rfl (hC k)) rfl)
  cases hc : numB 1 99 c with
  | false =>
    have hb : badOf c t l = .str "shafts" := by unfold badOf; rw [if_pos hc]
    rw [hc] at e1
    rw [seq_er (raise_run e1 rfl), hb]; rfl
  | true =>
    rw [hc] at e1
    obtain ⟨ec, c1, c2⟩ := num_int hc
    generalize hn : intV c = n at ec c1 c2
    subst ec
    rw [seq_nx (if_skip e1)]
    have e2 : sNotB (sTru (sCall 2 FH (lCons (sV 2) (lCons (sV 1) lNil)))) [.ownO "Loom" [], .d (.int n), .d t, .d l, .no, .no] k = .ok (!thrB n t) k := notB_run (tru_run (call_run (l2_run (v_run rfl) (v_run rfl)) rfl (hH n k)) rfl)
    cases ht : thrB n t with
    | false =>
      have hb : badOf (.int n) t l = .str "threading" := by unfold badOf; rw [hc, if_neg (by simp), hn, if_pos ht]
      rw [ht] at e2
      rw [seq_er (raise_run e2 rfl), hb]; rfl
    | true =>
      rw [ht] at e2
      rw [seq_nx (if_skip e2)]
      have hb : badOf (.int n) t l = liftsB n l := by unfold badOf; rw [hc, if_neg (by simp), hn, if_neg (by rw [ht]; simp)]
      rw [hb]
      have e5 := isi_run (T := "tuple") (f := sV 3) (env := [.ownO "Loom" [], .d (.int n), .d t, .d l, .no, .no]) (k := k) (v_run rfl) o.pl.1
      cases l with
      | tup ls =>
        have e6 := len_chain (f := sV 3) (env := [.ownO "Loom" [], .d (.int n), .d t, .d (.tup ls), .no, .no]) (k := k) (z := sApp (pureO lenD) (lCons (sC (.str "abcdefghijklmnopqrstuvwxyz")) lNil)) (v_run rfl) rfl
        unfold liftsB
        simp only
        by_cases hz : 1 ≤ ls.length ∧ ls.length ≤ 26
        · rw [decide_eq_true hz] at e6
          rw [seq_nx (if_skip ((orB_f (notB_run (tru_run e5 rfl))).trans (notB_run e6))), if_pos hz]
          have eF : ∀ r, DL.forM (.tup [.name 4, .name 5]) (bodyI FT) (enumI 0 ls) [.ownO "Loom" [], .d (.int n), .d t, .d (.tup ls), .no, .no] k = r → sFor (.tup [.name 4, .name 5]) (iEnumD (sV 3)) (sIfS (sNotB (sTru (sCall 2 FT (lCons (sV 5) (lCons (sV 1) lNil))))) (sRaise "BadLoom" "part" (lCons (sV 4) lNil)) sSkip) [.ownO "Loom" [], .d (.int n), .d t, .d (.tup ls), .no, .no] k = r := fun r e => by
            rw [sFor_eq, iEnumD_eq, v_run (i := 3) rfl]; exact e
          rcases loopI (hT n) (o := .ownO "Loom" []) (t := .d t) (l := .d (.tup ls)) (k := k) ls 0 .no .no (o.ls ls rfl) with ⟨i', env', f1, f2⟩ | ⟨f1, a', b', f2⟩
          · rw [seq_er (eF _ f2), f1, Nat.zero_add]; rfl
          · rw [seq_nx (eF _ f2), f1]
            cases t with
            | tup ts =>
              have hts : ts.all (numB 0 (n - 1)) = true := by
                unfold thrB at ht
                rw [Bool.and_eq_true] at ht
                exact ht.2
              obtain ⟨en, _⟩ := nums_all hts
              have hs : sortSetD (.tup ts) = some (.lst ((sortU (numsOf ts)).map .int)) := by
                unfold sortSetD
                have e0 : (seqOf (.tup ts)).bind intsOf = some (numsOf ts) := by
                  show intsOf ts = _
                  rw [en, ints_map, ← en]
                rw [e0]
                refine if_pos ?_
                have : (numsOf ts).length = ts.length := by rw [← List.length_map (f := D.int), ← en]
                rw [this]; exact h64
              have q1 := setF_run (fs := []) (rest := [.d (.int n), .d (.tup ts), .d (.tup ls), a', b']) (k := k) (f := sV 1) (fl := "shafts") (v_run rfl) (by decide)
              have q2 := setF_run (fs := putD "shafts" (.int n) []) (rest := [.d (.int n), .d (.tup ts), .d (.tup ls), a', b']) (k := k) (f := sV 2) (fl := "threading") (v_run rfl) (lt1k (put_le (n := 0) (Nat.le_refl _)) (by decide))
              have q3 := setF_run (fs := putD "threading" (.tup ts) (putD "shafts" (.int n) [])) (rest := [.d (.int n), .d (.tup ts), .d (.tup ls), a', b']) (k := k) (f := sV 3) (fl := "lifts") (v_run rfl) (lt1k (put_le (put_le (n := 0) (Nat.le_refl _))) (by decide))
              have q4 := setF_run (fs := putD "lifts" (.tup ls) (putD "threading" (.tup ts) (putD "shafts" (.int n) []))) (rest := [.d (.int n), .d (.tup ts), .d (.tup ls), a', b']) (k := k) (f := sSl (sC (.str "abcdefghijklmnopqrstuvwxyz")) oNone (oSome (sApp (pureO lenD) (lCons (sV 3) lNil)))) (fl := "letters") (d := .str (lettersOf (.tup ls))) (sl_run rfl oNone_run (oSome_run (app_run (l1_run (v_run rfl)) rfl)) rfl) (lt1k (put_le (put_le (put_le (n := 0) (Nat.le_refl _)))) (by decide))
              have q5 := setF_run (fs := putD "letters" (.str (lettersOf (.tup ls))) (putD "lifts" (.tup ls) (putD "threading" (.tup ts) (putD "shafts" (.int n) [])))) (rest := [.d (.int n), .d (.tup ts), .d (.tup ls), a', b']) (k := k) (f := sApp (pureO tupleD) (lCons (sSortSet (sV 2)) lNil)) (fl := "used") (d := usedOf (.tup ts)) (app_run (l1_run (d := .lst ((sortU (numsOf ts)).map .int)) (by unfold sSortSet; rw [v_run (i := 2) rfl, bind_ok, hs]; rfl)) rfl) (lt1k (put_le (put_le (put_le (put_le (n := 0) (Nat.le_refl _))))) (by decide))
              rw [seq_nx q1, seq_nx q2, seq_nx q3, seq_nx q4, q5, put5]
              rfl
            | _ => simp [thrB] at ht
        · rw [decide_eq_false hz] at e6
          rw [seq_er (raise_run ((orB_f (notB_run (tru_run e5 rfl))).trans (notB_run e6)) rfl), if_neg hz]; rfl
      | _ =>
        first
        | (cases o.pl.1; done)
        | (rw [seq_er (raise_run (orB_t (notB_run (tru_run e5 rfl))) rfl)]; rfl)
abbrev loomO (c t l : D) : D := .obj "Loom" (F5 c t l (.str (lettersOf l)) (usedOf t))
theorem fld_run {f : Sm D} {env : List En} {k k1 : DkO} {fs : List (Str × D)} {fl : Str} {d : D} (e : f env k = .ok (.obj "Loom" fs) k1) (h : fs.lookup fl = some d) : sFld ["Loom"] fl f env k = .ok d k1 := by
  rw [sFld_eq, e, bind_ok]
  show (if "Loom" ∈ ["Loom"] then Out.of (fs.lookup fl) k1 else .bad) = _
  rw [if_pos (by simp), h]; rfl
theorem lk1 {c t l s u : D} : (F5 c t l s u).lookup ("shafts" : Str) = some c := by rfl
theorem lk2 {c t l s u : D} : (F5 c t l s u).lookup ("threading" : Str) = some t := by rfl
theorem lk3 {c t l s u : D} : (F5 c t l s u).lookup ("lifts" : Str) = some l := by rfl
theorem lk4 {c t l s u : D} : (F5 c t l s u).lookup ("letters" : Str) = some s := by rfl
theorem lk5 {c t l s u : D} : (F5 c t l s u).lookup ("used" : Str) = some u := by rfl
end C01
set_option Elab.async false
set_option linter.all false
set_option maxRecDepth 100000
set_option maxHeartbeats 4000000
namespace C01
open PySem PySem.Spec L2 DL
/-! ### what is built, and what is due -/
theorem len_run {fs : List (Str × D)} {ts : List D} {k : DkO} (h : fs.lookup ("threading" : Str) = some (.tup ts)) : n_Loom___len__ [.obj "Loom" fs] k = .ok (.int ts.length) k := by
  show endD (g_Loom___len__ [.d (.obj "Loom" fs)] k) = _
  unfold g_Loom___len__
  rw [ret_run (app_run (l1_run (fld_run (v_run rfl) h)) rfl)]; rfl
theorem own_len {fs : List (Str × D)} {ts : List D} {k : DkO} (h : fs.lookup ("threading" : Str) = some (.tup ts)) (hl : ts.length < 1000000) : orO (pureO lenD) (ownO "Loom" n_Loom___len__ lenC) [.obj "Loom" fs] k = .ok (.int ts.length) k := by
  have hc : lenC (.int (ts.length : Nat)) = true := by
    simp only [lenC, Bool.and_eq_true, decide_eq_true_eq]
    omega
  rw [orO_bad rfl]
  exact ownO_ok (len_run h) hc
def dueOf (c t l : D) : D := if (badOf c t l).isNon = true then .lst [.str "loom", c, t, l, .str (lettersOf l), usedOf t, .int ((tupL t).length : Nat)] else .lst [.str "bad", badOf c t l, .bl true]
def builtG (FI : FnI) (FL : List D → DkO → Out D) : Ss :=
  (sSeq (sAsg (.tup [(.name 2), (.name 3), (.name 4)]) (sV 0))
  (sSeq (sSet 5 (sC .non))
  (sSeq (sTry takes_BadLoom 8
  (sSeq (sSet 6 (sIf (sTru (sV 1)) (sOfC "Loom" (sC (.cls "Loom")) (sMake "Loom" 3 FI (sOrdK 3 [1, 2, 0] (lCons (sV 4) (lCons (sV 2) (lCons (sV 3) lNil)))))) (sC .non)))
  (sSeq (sSet 7 (sIf (sTru (sV 1)) (sV 6) (sOfC "Loom" (sC (.cls "Loom")) (sMake "Loom" 3 FI (lCons (sV 2) (lCons (sV 3) (lCons (sV 4) lNil)))))))
  (sSet 5 (sLst (lCons (sC (.str "loom")) (lCons (sFld ["Loom"] "shafts" (sV 7)) (lCons (sFld ["Loom"] "threading" (sV 7)) (lCons (sFld ["Loom"] "lifts" (sV 7)) (lCons (sFld ["Loom"] "letters" (sV 7)) (lCons (sFld ["Loom"] "used" (sV 7)) (lCons (sApp FL (lCons (sV 7) lNil)) lNil)))))))))))
  (sSet 5 (sLst (lCons (sC (.str "bad")) (lCons (sXf "BadLoom" "part" 8) (lCons (sXi "BadLoom" true 8) lNil))))))
  (sRet (sV 5)))))
theorem builtG_ok {FI : FnI} {FL : List D → DkO → Out D} {c t l s u : D} {fs : List (Str × D)} {n : Int} {b : Bool} {k : DkO} (e : FI [c, t, l] k = .ok fs k) (e2 : FL [.obj "Loom" fs] k = .ok (.int n) k)
    (h1 : fs.lookup ("shafts" : Str) = some c) (h2 : fs.lookup ("threading" : Str) = some t) (h3 : fs.lookup ("lifts" : Str) = some l) (h4 : fs.lookup ("letters" : Str) = some s) (h5 : fs.lookup ("used" : Str) = some u) :
    endD (builtG FI FL [.d (.tup [c, t, l]), .d (.bl b), .no, .no, .no, .no, .no, .no, .no] k) = .ok (.lst [.str "loom", c, t, l, s, u, .int n]) k := by
  unfold builtG
  cases b with
  | true => simp [ordK, e, h1, h2, h3, h4, h5, e2, truD, Tgt.set, Tgt.setAll]
  | false => simp [ordK, e, h1, h2, h3, h4, h5, e2, truD, Tgt.set, Tgt.setAll]
theorem builtG_bad {FI : FnI} {FL : List D → DkO → Out D} {c t l d : D} {b : Bool} {k : DkO} (e : FI [c, t, l] k = .err "BadLoom" [("part", d)] k) :
    endD (builtG FI FL [.d (.tup [c, t, l]), .d (.bl b), .no, .no, .no, .no, .no, .no, .no] k) = .ok (.lst [.str "bad", d, .bl true]) k := by
  unfold builtG
  cases b with
  | true => simp [ordK, e, truD, takes_BadLoom, noExc, En.isExc, Tgt.set, Tgt.setAll]
  | false => simp [ordK, e, truD, takes_BadLoom, noExc, En.isExc, Tgt.set, Tgt.setAll]
theorem good_tup {c t l : D} (h : (badOf c t l).isNon = true) : ∃ (n : Int) (ts ls : List D), c = .int n ∧ 1 ≤ n ∧ n ≤ 99 ∧ t = .tup ts ∧ l = .tup ls ∧ ts ≠ [] ∧ ts.all (numB 0 (n - 1)) = true ∧ 1 ≤ ls.length ∧ ls.length ≤ 26 ∧ ∀ d ∈ ls, lotB n d = true := by
  unfold badOf at h
  cases hc : numB 1 99 c with
  | false => rw [if_pos hc] at h; cases h
  | true =>
    rw [if_neg (by rw [hc]; simp)] at h
    obtain ⟨ec, c1, c2⟩ := num_int hc
    cases ht : thrB (intV c) t with
    | false => rw [if_pos ht] at h; cases h
    | true =>
      rw [if_neg (by rw [ht]; simp)] at h
      cases t with
      | tup ts =>
        unfold thrB at ht
        rw [Bool.and_eq_true] at ht
        cases l with
        | tup ls =>
          unfold liftsB at h
          simp only at h
          by_cases hz : 1 ≤ ls.length ∧ ls.length ≤ 26
          · rw [if_pos hz, unD_non] at h
            have hf : ls.findIdx? (fun d => !lotB (intV c) d) = none := by simpa using h
            refine ⟨intV c, ts, ls, ec, c1, c2, rfl, rfl, fun z => ?_, ht.2, hz.1, hz.2, fun d hd => ?_⟩
            · rw [z] at ht; simp at ht
            · have := List.findIdx?_eq_none_iff.mp hf d hd
              simpa using this
          · rw [if_neg hz] at h; cases h
        | _ => cases h
      | _ => simp [thrB] at ht
theorem built_run {c t l : D} {b : Bool} {k : DkO} (o : okP c t l) (h64 : (tupL t).length < 64) : n__law_built [.tup [c, t, l], .bl b] k = .ok (dueOf c t l) k := by
  have e1 := init_run (k := k) o h64
  show endD (builtG n_Loom___init__ (orO (pureO lenD) (ownO "Loom" n_Loom___len__ lenC)) [.d (.tup [c, t, l]), .d (.bl b), .no, .no, .no, .no, .no, .no, .no] k) = _
  unfold dueOf
  by_cases hb : (badOf c t l).isNon = true
  · rw [if_pos hb] at e1 ⊢
    obtain ⟨n, ts, ls, rfl, _, _, rfl, rfl, _⟩ := good_tup hb
    exact builtG_ok e1 (own_len lk2 (Nat.lt_trans h64 (by decide))) lk1 lk2 lk3 lk4 lk5
  · rw [if_neg hb] at e1 ⊢
    exact builtG_bad e1
/-! ### bounds -/
theorem gd_okL {n h m : Nat} {d : D} (a : Gd n h m d) (hn : n ≤ 10000000) : okL d := by
  refine ⟨a.plain, fun ds e => ?_⟩
  subst e
  have b := a.ofTup
  have := b.len
  have := sizeLine_eq
  exact ⟨by omega, fun e he => (b.mem he).plain⟩
theorem gd_okP {n h m : Nat} {c t l : D} (a : Gd n h m (.tup [c, t, l])) (hn : n ≤ 10000000) : okP c t l := by
  have b := a.ofTup
  have hc := b.mem (d := c) (by simp)
  have ht := b.mem (d := t) (by simp)
  have hl := b.mem (d := l) (by simp)
  refine ⟨hc.plain, gd_okL ht (by omega), gd_okL hl (by omega), fun ds e d hd => ?_⟩
  subst e
  exact gd_okL (hl.ofTup.mem hd) (by omega)
theorem unD_ok {o : Option Nat} (h : ∀ i, o = some i → i ≤ 1000) : okD (unD o) = true ∧ wt (unD o) ≤ 2000 ∧ ht (unD o) = 0 := by
  cases o with
  | none => exact ⟨rfl, by decide, rfl⟩
  | some i => exact ⟨int_ok (Nat.le_trans (h i rfl) (by decide)), wt_int, rfl⟩
theorem bad_ok {c t l : D} : okD (badOf c t l) = true ∧ wt (badOf c t l) ≤ 2000 ∧ ht (badOf c t l) = 0 := by
  have h1 : okD (.str "shafts") = true ∧ wt (.str "shafts") ≤ 2000 ∧ ht (.str "shafts") = 0 := by decide +kernel
  have h2 : okD (.str "threading") = true ∧ wt (.str "threading") ≤ 2000 ∧ ht (.str "threading") = 0 := by decide +kernel
  have h3 : okD (.str "lifts") = true ∧ wt (.str "lifts") ≤ 2000 ∧ ht (.str "lifts") = 0 := by decide +kernel
  unfold badOf
  split
  · exact h1
  · split
    · exact h2
    · unfold liftsB
      split
      · split
        · rename_i hz
          refine unD_ok fun i hi => ?_
          rw [List.findIdx?_eq_some_iff_getElem] at hi
          have := hi.1
          omega
        · exact h3
      · exact h3
theorem sub_gd {n h m : Nat} {ns : List Int} (hs : ∀ i ∈ ns, 0 ≤ i ∧ i ≤ 98) : GdL (8 * ns.length) 0 m (ns.map D.int) ∨ m < 98 := by
  by_cases hm : m < 98
  · exact .inr hm
  · refine .inl ?_
    induction ns with
    | nil => exact GdL.nil
    | cons i ns ih =>
      have hi := hs i List.mem_cons_self
      have a : Gd 6 0 m (.int i) := Gd.intS (Nat.le_refl _) (by omega) (by omega)
      exact (GdL.cons a (ih fun j hj => hs j (List.mem_cons_of_mem _ hj))).mono (by rw [List.length_cons]; omega) (Nat.le_refl _) (Nat.le_refl _)
theorem insU_len {n : Int} : ∀ ms : List Int, (insU n ms).length ≤ ms.length + 1
  | [] => Nat.le_refl _
  | m :: ms => by
    have := insU_len (n := n) ms
    unfold insU
    split
    · simp only [List.length_cons]; omega
    · split
      · simp only [List.length_cons]; omega
      · simp only [List.length_cons]; omega
theorem sortU_len : ∀ ns : List Int, (sortU ns).length ≤ ns.length
  | [] => Nat.le_refl _
  | n :: ns => by
    have := sortU_len ns
    have h2 := insU_len (n := n) (sortU ns)
    show (insU n (sortU ns)).length ≤ _
    rw [List.length_cons]; omega
theorem let_asc {l : D} : (lettersOf l).length ≤ 26 ∧ SOk (lettersOf l) := by
  have h : SOk LET := ⟨by decide +kernel, by decide +kernel⟩
  refine ⟨Nat.le_trans len_cutS (by decide +kernel), cut_ok h _ _⟩
theorem wt_lst {ds : List D} : wt (.lst ds) = wtAll ds + 10 := by simp only [wt]
theorem wt_tup {ds : List D} : wt (.tup ds) = wtAll ds + 10 := by simp only [wt]
theorem wtAll_cons {d : D} {ds : List D} : wtAll (d :: ds) = wt d + 2 + wtAll ds := by simp only [wtAll]
theorem wtAll_nil : wtAll [] = 0 := by simp only [wtAll]
theorem due_ok {c t l : D} {n h m : Nat} (a : Gd n h m (.tup [c, t, l])) (hn : n ≤ 3000000) (hm : m ≤ 10 ^ 60) (h64 : (tupL t).length < 64) : okD (dueOf c t l) = true ∧ wt (dueOf c t l) ≤ n + 5000 ∧ ht (dueOf c t l) ≤ h + 1 := by
  obtain ⟨b1, b2, b3⟩ := bad_ok (c := c) (t := t) (l := l)
  have b := a.ofTup
  have hc := b.mem (d := c) (by simp)
  have ht' := b.mem (d := t) (by simp)
  have hl := b.mem (d := l) (by simp)
  unfold dueOf
  by_cases hb : (badOf c t l).isNon = true
  · rw [if_pos hb]
    obtain ⟨q, ts, ls, rfl, q1, q2, rfl, rfl, _, hts, _⟩ := good_tup hb
    obtain ⟨en, hr⟩ := nums_all hts
    have hu : Gd (8 * 64 + 10) 1 (10 ^ 60) (usedOf (.tup ts)) := by
      have hlen : (sortU (numsOf ts)).length ≤ 63 := by
        have h1 := sortU_len (numsOf ts)
        have h2 : (numsOf ts).length = ts.length := by rw [← List.length_map (f := D.int), ← en]
        have h3 : ts.length < 64 := h64
        omega
      rcases sub_gd (n := 0) (h := 0) (m := 10 ^ 60) (ns := sortU (numsOf ts)) (fun i hi => by
        have := hr i ((mem_sortU _).mp hi)
        omega) with g | g
      · exact g.tup.mono (by omega) (by omega) (Nat.le_refl _)
      · exact absurd g (by decide +kernel)
    obtain ⟨s1, s2⟩ := let_asc (l := .tup ls)
    have h3 : ts.length < 64 := h64
    have hw := a.w
    have hh := a.h
    refine ⟨okD_list fun d hd => ?_, ?_, ?_⟩
    · simp only [List.mem_cons, List.mem_nil_iff, or_false] at hd
      rcases hd with rfl | rfl | rfl | rfl | rfl | rfl | rfl
      · decide +kernel
      · exact hc.ok (by omega) hm
      · exact ht'.ok (by omega) hm
      · exact hl.ok (by omega) hm
      · simp only [okD, Bool.and_eq_true, decide_eq_true_eq]; exact s2
      · exact hu.ok (by decide) (Nat.le_refl _)
      · exact int_ok (by show ts.length ≤ _; omega)
    · have e : wt (.str "loom") = 50 := by decide +kernel
      have hu2 := hu.w
      have hi := wt_int (i := ((tupL (.tup ts)).length : Nat))
      have hs : wt (.str (lettersOf (.tup ls))) ≤ 270 := by simp only [wt]; omega
      simp only [wt_lst, wt_tup, wtAll_cons, wtAll_nil] at hw hu2 ⊢
      rw [e]
      generalize wt (.int ((tupL (.tup ts)).length : Nat)) = w1 at hi ⊢
      generalize wt (.str (lettersOf (.tup ls))) = w2 at hs ⊢
      omega
    · have hu3 := hu.h
      simp only [ht, htAll, tupL] at hh hu3 ⊢
      omega
  · rw [if_neg hb]
    refine ⟨okD_list fun d hd => ?_, ?_, ?_⟩
    · simp only [List.mem_cons, List.mem_nil_iff, or_false] at hd
      rcases hd with rfl | rfl | rfl
      · decide +kernel
      · exact b1
      · rfl
    · have e : wt (.str "bad") = 40 := by decide +kernel
      simp only [wt, wtAll] at e b2 ⊢
      omega
    · simp only [ht, htAll, b3]; omega
/-! ### the parts are told right -/
theorem right_run {c t l : D} {k : DkO} {n h m : Nat} (a : Gd n h m (.tup [c, t, l])) (hn : n ≤ 3000000) (hh : h ≤ 40) (hm : m ≤ 10 ^ 60) (h64 : (tupL t).length < 64) : n__law_right [.tup [c, t, l]] k = .ok (.bl true) k := by
  have o := gd_okP a (by omega)
  have e1 := fun k => bad_run (k := k) o
  have e2 := fun b k => built_run (b := b) (k := k) o h64
  obtain ⟨d1, d2, d3⟩ := due_ok a hn hm h64
  have sz := sizeLine_eq
  obtain ⟨p, r1, _⟩ := repr_of (a.ok (by omega) hm) (by have := a.w; omega) (by have := a.h; omega)
  obtain ⟨p2, r2, _⟩ := repr_of (d := .lst [dueOf c t l, dueOf c t l]) (okD_list fun d hd => by
    simp only [List.mem_cons, List.mem_nil_iff, or_false] at hd
    rcases hd with rfl | rfl <;> exact d1) (by simp only [wt, wtAll]; omega) (by simp only [ht, htAll]; omega)
  show endD (g__law_right n__law_bad n__law_built [.d (.tup [c, t, l]), .no, .no, .no, .no, .no] k) = _
  generalize n__law_bad = FB at e1 ⊢
  generalize n__law_built = FT at e2 ⊢
  unfold g__law_right
  refine Eq.trans (congrArg endD (seq_nx (par2_run (mD_run (call_run (l1_run (v_run rfl)) rfl (e1 k)) (mD_run (app_run (l1_run (v_run rfl)) (pure_run r1)) rfl))))) ?_
  refine Eq.trans (congrArg endD (seq_nx (set_run (lst_run (l3_run rfl (v_run rfl) rfl) (by show 3 ≤ 1000; omega))))) ?_
  have fin : ∀ e4, endD ((sSeq (sSet 5 (sLst (lCons (sCall 2 FT (lCons (sV 0) (lCons (sC (.bl false)) lNil))) (lCons (sCall 2 FT (lCons (sV 0) (lCons (sC (.bl true)) lNil))) lNil))))
  (sRet (sAnd (sOp eqD (sApp (pureO reprD) (lCons (sV 5) lNil)) (sApp (pureO reprD) (lCons (sLst (lCons (sV 3) (lCons (sV 3) lNil))) lNil))) (sOp eqD (sApp (pureO reprD) (lCons (sV 0) lNil)) (sV 2))))) [.d (.tup [c, t, l]), .d (badOf c t l), .d (.shw p), .d (dueOf c t l), e4, .no] k) = .ok (.bl true) k := by
    intro e4
    refine Eq.trans (congrArg endD (seq_nx (set_run (lst_run (l2_run (call_run (l2_run (v_run rfl) rfl) rfl (e2 false k)) (call_run (l2_run (v_run rfl) rfl) rfl (e2 true k))) (by show 2 ≤ 1000; omega))))) ?_
    refine (congrArg endD (ret_run ((and_t (op_run (app_run (l1_run (v_run rfl)) (pure_run r2)) (app_run (l1_run (lst_run (l2_run (v_run rfl) (v_run rfl)) (by show 2 ≤ 1000; omega))) (pure_run r2)) eq_shw)).trans (op_run (app_run (l1_run (v_run rfl)) (pure_run r1)) (v_run rfl) eq_shw)))).trans rfl
  have e3 : sB (sOp (isD fun b => b) (sV 1) (sC .non)) [.d (.tup [c, t, l]), .d (badOf c t l), .d (.shw p), .d (.lst [.str "bad", badOf c t l, .bl true]), .no, .no] k = .ok (badOf c t l).isNon k := b_run (op_run (v_run rfl) rfl isD_non)
  cases hb : (badOf c t l).isNon with
  | false =>
    rw [hb] at e3
    refine Eq.trans (congrArg endD (seq_nx (if_skip e3))) ?_
    have hd : dueOf c t l = .lst [.str "bad", badOf c t l, .bl true] := by unfold dueOf; rw [if_neg (by rw [hb]; simp)]
    have := fin .no
    rw [hd] at this
    exact this
  | true =>
    rw [hb] at e3
    obtain ⟨q, ts, ls, rfl, q1, q2, rfl, rfl, _, hts, _⟩ := good_tup hb
    obtain ⟨en, hr⟩ := nums_all hts
    have hd : dueOf (.int q) (.tup ts) (.tup ls) = .lst [.str "loom", .int q, .tup ts, .tup ls, .str (lettersOf (.tup ls)), usedOf (.tup ts), .int (ts.length : Nat)] := by unfold dueOf; rw [if_pos hb]; rfl
    have i1 : ixD (.tup [.int q, .tup ts, .tup ls]) (.int 1) = some (.tup ts) := L2.atI_nat (j := 1) rfl
    have i2 : ixD (.tup [.int q, .tup ts, .tup ls]) (.int 2) = some (.tup ls) := L2.atI_nat (j := 2) rfl
    have hs : sortSetD (.tup ts) = some (.lst ((sortU (numsOf ts)).map .int)) := by
      unfold sortSetD
      have e0 : (seqOf (.tup ts)).bind intsOf = some (numsOf ts) := by
        show intsOf ts = _
        rw [en, ints_map, ← en]
      rw [e0]
      refine if_pos ?_
      have : (numsOf ts).length = ts.length := by rw [← List.length_map (f := D.int), ← en]
      rw [this]; exact h64
    have s1 : sSet 4 (sSl (sC (.str "abcdefghijklmnopqrstuvwxyz")) oNone (oSome (sApp (pureO lenD) (lCons (sIx (sV 0) (sC (.int 2))) lNil)))) [.d (.tup [.int q, .tup ts, .tup ls]), .d (badOf (.int q) (.tup ts) (.tup ls)), .d (.shw p), .d (.lst [.str "bad", badOf (.int q) (.tup ts) (.tup ls), .bl true]), .no, .no] k = .nx [.d (.tup [.int q, .tup ts, .tup ls]), .d (badOf (.int q) (.tup ts) (.tup ls)), .d (.shw p), .d (.lst [.str "bad", badOf (.int q) (.tup ts) (.tup ls), .bl true]), .d (.str (lettersOf (.tup ls))), .no] k :=
      set_run (sl_run rfl oNone_run (oSome_run (app_run (l1_run (ix_run (v_run rfl) rfl i2)) rfl)) rfl)
    have s2 : sSortSet (sIx (sV 0) (sC (.int 1))) [.d (.tup [.int q, .tup ts, .tup ls]), .d (badOf (.int q) (.tup ts) (.tup ls)), .d (.shw p), .d (.lst [.str "bad", badOf (.int q) (.tup ts) (.tup ls), .bl true]), .d (.str (lettersOf (.tup ls))), .no] k = .ok (.lst ((sortU (numsOf ts)).map .int)) k := by
      unfold sSortSet
      rw [ix_run (v_run (i := 0) rfl) rfl i1, bind_ok, hs]; rfl
    have s3 : sSet 3 (sOp plusD (sOp plusD (sLst (lCons (sC (.str "loom")) lNil)) (sFrz (iVal (sV 0)))) (sLst (lCons (sV 4) (lCons (sApp (pureO tupleD) (lCons (sSortSet (sIx (sV 0) (sC (.int 1)))) lNil)) (lCons (sApp (pureO lenD) (lCons (sIx (sV 0) (sC (.int 1))) lNil)) lNil))))) [.d (.tup [.int q, .tup ts, .tup ls]), .d (badOf (.int q) (.tup ts) (.tup ls)), .d (.shw p), .d (.lst [.str "bad", badOf (.int q) (.tup ts) (.tup ls), .bl true]), .d (.str (lettersOf (.tup ls))), .no] k = .nx (([.d (.tup [.int q, .tup ts, .tup ls]), .d (badOf (.int q) (.tup ts) (.tup ls)), .d (.shw p), .d (.lst [.str "bad", badOf (.int q) (.tup ts) (.tup ls), .bl true]), .d (.str (lettersOf (.tup ls))), .no] : List En).set 3 (.d (.lst ([.str "loom", .int q, .tup ts, .tup ls] ++ [.str (lettersOf (.tup ls)), usedOf (.tup ts), .int (ts.length : Nat)])))) k :=
      set_run (op_run (op_run (lst_run (l1_run rfl) (by show 1 ≤ 1000; omega)) (frz_run (iVal_run (v_run rfl) rfl)) (plus_lst (by show 1 + 3 ≤ 1000; omega))) (lst_run (l3_run (v_run rfl) (app_run (l1_run s2) rfl) (app_run (l1_run (ix_run (v_run rfl) rfl i1)) rfl)) (by show 3 ≤ 1000; omega)) (plus_lst (by show 4 + 3 ≤ 1000; omega)))
    refine Eq.trans (congrArg endD (seq_nx ((ifs_t e3).trans ((seq_nx s1).trans s3)))) ?_
    have := fin (.d (.str (lettersOf (.tup ls))))
    rw [hd] at this
    exact this
end C01
set_option Elab.async false
set_option linter.all false
set_option maxRecDepth 100000
set_option maxHeartbeats 4000000
namespace C01
open PySem PySem.Spec L2 DL
/-! ### drawn looms -/
structure Lm (n : Nat) (ts : List Int) (ls : List (List Int)) : Prop where
  n1 : 1 ≤ n
  n2 : n ≤ 99
  t1 : 1 ≤ ts.length
  t2 : ts.length ≤ 31
  t3 : ∀ i ∈ ts, 0 ≤ i ∧ i < n
  l1 : 1 ≤ ls.length
  l2 : ls.length ≤ 26
  l3 : ∀ l ∈ ls, LotI n l
abbrev lotsD (ls : List (List Int)) : D := .tup (ls.map rowD)
abbrev wD (n : Nat) (ts : List Int) (ls : List (List Int)) : D := .dct [(.inr "count", .int (n : Nat)), (.inr "thread", rowD ts), (.inr "lots", lotsD ls)]
theorem merge3 {a b c : D} : mergeD [] [(.inr "count", a), (.inr "thread", b), (.inr "lots", c)] = [(.inr "count", a), (.inr "thread", b), (.inr "lots", c)] := by rfl
theorem disp3 {env : List En} {k : DkO} {f g h : Sm D} {a b c : D} (e1 : f env k = .ok a k) (e2 : g env k = .ok b k) (e3 : h env k = .ok c k) : sDisp (kvCons "count" f (kvCons "thread" g (kvCons "lots" h kvNil))) env k = .ok (.dct [(.inr "count", a), (.inr "thread", b), (.inr "lots", c)]) k := by
  unfold sDisp kvCons kvNil
  simp only [e1, e2, e3, bind_ok]
  show (if 3 ≤ 15 then _ else _) = _
  rw [if_pos (by decide), merge3]
def PartOk (F : Fn) : Prop := ∀ (n : Nat) (often : Int) (k : Dk) (N : Nat), n ≤ 1000 → bOk often = true → Bud k (N + n) → ∃ (l : List Int) (k' : Dk), F [.dk, .lst ((ups n).map D.int), .int often] (some k) = .ok (rowD l) (some k') ∧ l.Sublist (ups n) ∧ Bud k' N
theorem part_run {FD : Fn} (hD : DrawOk FD) : PartOk (fnD 4 (g__law_part FD)) := by
  intro n often k N hn hb hk
  have sz := sizeLine_eq
  have hl := len_up n
  obtain ⟨cs, k', e, hs, hb'⟩ := compM_sub (t := .name 3) (p := sB (sOp eqD (sCall 2 FD (lCons (sV 0) (lCons (sV 2) lNil))) (sC (.int 0)))) (f := sV 3) (env0 := wipeE [.d .dk, .d (.lst ((ups n).map D.int)), .d (.int often), .no] [3]) (mk := D.int) (ff := D.int) (c := 1) (ups n) [] k N (by rw [hl]; show 0 + n ≤ _; omega) (by rw [hl]; exact hk.mono (by omega)) fun i hi => by
    refine ⟨[.d .dk, .d (.lst ((ups n).map D.int)), .d (.int often), .d (.int i)], rfl, fun k m hk => ?_, fun k => v_run rfl⟩
    obtain ⟨r, k', e, _, hb'⟩ := draw_e hD (env := [.d .dk, .d (.lst ((ups n).map D.int)), .d (.int often), .d (.int i)]) (f := sV 2) rfl (v_run rfl) hb hk
    exact ⟨_, k', b_run (op_run e rfl eq_int), hb'⟩
  refine ⟨cs, k', ?_, hs, hb'⟩
  show endD (g__law_part FD [.d .dk, .d (.lst ((ups n).map D.int)), .d (.int often), .no] (some k)) = _
  unfold g__law_part
  rw [ret_run (app_run (l1_run (comp_run (iVal_run (v_run rfl) rfl) e)) rfl), List.nil_append]; rfl
def LoomF (F : Fn) : Prop := ∀ (k : Dk) (N : Nat), Bud k (N + 5000) → ∃ (n : Nat) (ts : List Int) (ls : List (List Int)) (k' : Dk), F [.dk] (some k) = .ok (wD n ts ls) (some k') ∧ Lm n ts ls ∧ Bud k' N
section
variable {FP FD FT : Fn}
theorem bOk_of {b : Int} (h0 : 0 < b) (h1 : b < 1000000) : bOk b = true := by
  unfold bOk
  simp only [Bool.and_eq_true, decide_eq_true_eq]
  omega
theorem nat_of {i : Int} {ns : List Int} (h : i ∈ ns) (h0 : ∀ j ∈ ns, (0 : Int) ≤ j) : ∃ n : Nat, i = (n : Int) := Int.eq_ofNat_of_zero_le (h0 i h)
theorem great_run (hP : PickOk FP) (hD : DrawOk FD) (hT : PartOk FT) : LoomF (fnD 5 (g__law_great FP FD FT)) := by
  intro k N hk
  have sz := sizeLine_eq
  have go : Rt (g__law_great FP FD FT [.d .dk, .no, .no, .no, .no] (some k)) fun d k' => ∃ n ts ls, d = wD n ts ls ∧ Lm n ts ls ∧ Bud k' N := by
    unfold g__law_great
    obtain ⟨i, k1, e1, hi, hb1⟩ := pick_ints (n := N + 4990) hP (env := [.d .dk, .no, .no, .no, .no]) (f := sLst (lCons (sC (.int 5)) (lCons (sC (.int 26)) (lCons (sC (.int 98)) (lCons (sC (.int 99)) lNil))))) (ns := [5, 26, 98, 99]) rfl (lst_run (lc_run rfl (l3_run rfl rfl rfl)) (by show 4 ≤ 1000; omega)) (by show 0 < 4; omega) (by show 4 ≤ 1000; omega) (hk.mono (by omega))
    obtain ⟨n, rfl⟩ := nat_of hi (by decide)
    have hn : 1 ≤ n ∧ n ≤ 99 := by
      simp only [List.mem_cons, List.mem_nil_iff, or_false] at hi
      omega
    refine Rt.seq (set_run e1) ?_
    have hbn : bOk (n : Int) = true := bOk_of (by omega) (by omega)
    obtain ⟨m, k2, e2, hm, hb2⟩ := draw_e (n := N + 4980) hD (env := [.d .dk, .d (.int (n : Nat)), .no, .no, .no]) (f := sC (.int 30)) (b := 30) rfl rfl (by decide) (hb1.mono (by omega))
    obtain ⟨ys, k3, e3, hl3, hy3, hb3⟩ := compM_run (t := .name 3) (f := sCall 2 FD (lCons (sV 0) (lCons (sV 1) lNil))) (env0 := wipeE [.d .dk, .d (.int (n : Nat)), .no, .no, .no] [3]) (mk := fun (i : Nat) => .int (i : Nat)) (P := fun _ y => ∃ i : Int, y = .int i ∧ (0 ≤ i ∧ i < n)) (c := 1) (List.range (1 + m)) [] k2 (N + 4000) (by rw [List.length_range]; show 0 + (1 + m) ≤ _; omega) (by rw [List.length_range]; exact hb2.mono (by omega)) fun b _ => ⟨_, rfl, fun k q hb => by
      obtain ⟨r, k', e, hr, hb'⟩ := draw_e hD (env := [.d .dk, .d (.int (n : Nat)), .no, .d (.int (b : Nat)), .no]) (f := sV 1) (b := (n : Nat)) rfl (v_run rfl) hbn hb
      exact ⟨_, k', e, ⟨r, rfl, by omega, hr⟩, hb'⟩⟩
    obtain ⟨ts, rfl, ht, hlt⟩ := ints_of (P := fun i => 0 ≤ i ∧ i < n) fun y hy => (hy3 y hy).elim fun _ z => z.2
    rw [List.length_range] at hl3
    have r1 : iRange1 (sOp plusD (sC (.int 1)) (sCall 2 FD (lCons (sV 0) (lCons (sC (.int 30)) lNil)))) [.d .dk, .d (.int (n : Nat)), .no, .no, .no] (some k1) = .ok ((List.range (1 + m)).map fun (i : Nat) => .int (i : Nat)) (some k2) := range1_run (op_run rfl e2 (by rw [plus_int]; congr 2)) (by omega)
    refine Rt.seq (set_run (app_run (op := pureO tupleD) (l1_run (comp_run r1 e3)) rfl)) ?_
    rw [List.nil_append]
    obtain ⟨c, k4, e4, hc, hb4⟩ := pick_ints (n := N + 3900) hP (env := [.d .dk, .d (.int (n : Nat)), .d (rowD ts), .no, .no]) (f := sLst (lCons (sC (.int 5)) (lCons (sC (.int 25)) (lCons (sC (.int 26)) lNil)))) (ns := [5, 25, 26]) rfl (lst_run (l3_run rfl rfl rfl) (by show 3 ≤ 1000; omega)) (by show 0 < 3; omega) (by show 3 ≤ 1000; omega) (hb3.mono (by omega))
    obtain ⟨c, rfl⟩ := nat_of hc (by decide)
    have hc' : 1 ≤ c ∧ c ≤ 26 := by
      simp only [List.mem_cons, List.mem_nil_iff, or_false] at hc
      omega
    obtain ⟨zs, k5, e5, hl5, hy5, hb5⟩ := compM_run (t := .name 3) (f := sCall 3 FT (lCons (sV 0) (lCons (sFrz (iLR1 (sV 1))) (lCons (sCall 2 FP (lCons (sV 0) (lCons (sLst (lCons (sC (.int 2)) (lCons (sC (.int 9)) lNil))) lNil))) lNil)))) (env0 := wipeE [.d .dk, .d (.int (n : Nat)), .d (rowD ts), .no, .no] [3]) (mk := fun (i : Nat) => .int (i : Nat)) (P := fun _ y => ∃ l, y = rowD l ∧ LotI n l) (c := 100) (List.range c) [] k4 N (by rw [List.length_range]; show 0 + c ≤ _; omega) (by rw [List.length_range]; exact hb4.mono (by omega)) fun b _ => ⟨_, rfl, fun k q hb => by
      obtain ⟨o, k1, e1, ho, hb1⟩ := pick_ints (n := q + 99) hP (env := [.d .dk, .d (.int (n : Nat)), .d (rowD ts), .d (.int (b : Nat)), .no]) (f := sLst (lCons (sC (.int 2)) (lCons (sC (.int 9)) lNil))) (ns := [2, 9]) rfl (lst_run (l2_run rfl rfl) (by show 2 ≤ 1000; omega)) (by show 0 < 2; omega) (by show 2 ≤ 1000; omega) hb
      have ho' : bOk o = true := by
        simp only [List.mem_cons, List.mem_nil_iff, or_false] at ho
        exact bOk_of (by omega) (by omega)
      obtain ⟨l, k2, e2, hs, hb2⟩ := hT n o k1 q (by omega) ho' (hb1.mono (by omega))
      exact ⟨_, k2, call_run (l3_run (v_run rfl) (lr_run (v_run rfl) (by omega)) e1) rfl e2, ⟨l, rfl, lot_sub hs⟩, hb2⟩⟩
    obtain ⟨ls, rfl, hls, hll⟩ := rows_of (P := LotI n) fun y hy => (hy5 y hy).elim fun _ z => z.2
    rw [List.length_range] at hl5
    refine Rt.seq (set_run (comp_run (range1_run e4 (by omega)) e5)) ?_
    rw [List.nil_append]
    refine Rt.ret (disp3 (v_run rfl) (v_run rfl) (app_run (op := pureO tupleD) (l1_run (v_run rfl)) rfl)) ⟨n, ts, ls, rfl, ⟨hn.1, hn.2, by omega, by omega, ht, by omega, by omega, hls⟩, hb5⟩
  obtain ⟨d, k', e, n, ts, ls, rfl, hL, hb⟩ := go
  refine ⟨n, ts, ls, k', ?_, hL, hb⟩
  show endD (g__law_great FP FD FT [.d .dk, .no, .no, .no, .no] (some k)) = _
  rw [e]; rfl
/-- the slots while lifts are drawn -/
abbrev envL (n : Nat) (e2 : En) (top own : List Int) (up flat : Bool) (e7 e9 : En) : List En := [.d .dk, .d (.int (n : Nat)), e2, .d (.lst (top.map D.int)), .d (rowD own), .d (.bl up), .d (.bl flat), e7, .no, e9, .no, .no, .no]
def Bel (n : Nat) (l : List Int) : Prop := (∀ i ∈ l, 0 ≤ i ∧ i < n) ∧ l.length ≤ 4
theorem bel_sub {n : Nat} {l : List Int} (h : l.Sublist (ups n)) (hn : n ≤ 4) : Bel n l := ⟨fun i hi => mem_up.mp (h.subset hi), by have := lot_len h; omega⟩
abbrev stepA (FD FT : Fn) : Ss := (sIfS (sAndB (sB (sOp gtD (sV 7) (sC (.int 0)))) (sB (sOp eqD (sCall 2 FD (lCons (sV 0) (lCons (sC (.int 2)) lNil))) (sC (.int 0)))))
  (sSet 4 (sApp (pureO tupleD) (lCons (sFrz (sComp (.name 8) [8] (sB (sOp notInD (sV 8) (sV 4))) (sV 8) (iRange1 (sV 1)))) lNil)))
  (sIfS (sB (sOp gtD (sV 7) (sC (.int 0))))
  (sPar [4, 5] (mD (sCall 3 FT (lCons (sV 0) (lCons (sFrz (iLR1 (sV 1))) (lCons (sC (.int 2)) lNil)))) (mD (sOp eqD (sCall 2 FD (lCons (sV 0) (lCons (sC (.int 2)) lNil))) (sC (.int 0))) mNil)))
  sSkip))
theorem stepA_run (hD : DrawOk FD) (hT : PartOk FT) {n j : Nat} {e2 e9 : En} {top own : List Int} {up flat : Bool} {k : Dk} {N : Nat} (hn : n ≤ 4) (ho : Bel n own) (hk : Bud k (N + 10)) :
    ∃ own' up' k', stepA FD FT (envL n e2 top own up flat (.d (.int (j : Nat))) e9) (some k) = .nx (envL n e2 top own' up' flat (.d (.int (j : Nat))) e9) (some k') ∧ Bel n own' ∧ Bud k' N := by
  have sz := sizeLine_eq
  have a1 : sB (sOp gtD (sV 7) (sC (.int 0))) (envL n e2 top own up flat (.d (.int (j : Nat))) e9) (some k) = .ok _ (some k) := b_run (op_run (v_run rfl) rfl gt_int)
  unfold stepA
  cases h1 : decide ((0 : Int) < ((j : Nat) : Int)) with
  | false =>
    rw [h1] at a1
    exact ⟨own, up, k, (ifs_f (andB_f a1)).trans (if_skip a1), ho, hk.mono (by omega)⟩
  | true =>
    rw [h1] at a1
    obtain ⟨z, k1, e1, hb1⟩ := draw_is (n := N + 9) hD (env := envL n e2 top own up flat (.d (.int (j : Nat))) e9) (b := 2) rfl (by decide) hk
    cases z with
    | true =>
      have e : compM (.name 8) (sB (sOp notInD (sV 8) (sV 4))) (sV 8) (wipeE (envL n e2 top own up flat (.d (.int (j : Nat))) e9) [8]) ((ups n).map D.int) [] (some k1) = .ok ([] ++ ((ups n).filter fun i => !inV (.int i) (own.map V.int)).map D.int) (some k1) :=
        compM_map (mk := D.int) (pp := fun i => !inV (.int i) (own.map V.int)) (ff := D.int) (ups n) [] (by rw [len_up]; show 0 + n ≤ _; omega) (fun i _ => ⟨_, rfl, fun k => ⟨b_run (op_run (v_run rfl) (v_run rfl) notIn_row), fun _ => v_run rfl⟩⟩) _
      have r1 : iRange1 (sV 1) (envL n e2 top own up flat (.d (.int (j : Nat))) e9) (some k1) = .ok ((ups n).map D.int) (some k1) := by
        rw [range1_run (v_run (i := 1) rfl) (by omega)]; unfold ups; rw [List.map_map]; rfl
      exact ⟨_, up, k1, (ifs_t ((andB_t a1).trans (b_run e1))).trans (set_run (app_run (op := pureO tupleD) (l1_run (comp_run r1 e)) rfl)), bel_sub List.filter_sublist hn, hb1.mono (by omega)⟩
    | false =>
      obtain ⟨l, k2, e3, hs, hb2⟩ := hT n 2 k1 (N + 5) (by omega) (by decide) (hb1.mono (by omega))
      obtain ⟨u, k3, e4, hb3⟩ := draw_is (n := N + 4) hD (env := envL n e2 top own up flat (.d (.int (j : Nat))) e9) (b := 2) rfl (by decide) hb2
      have a2 : sB (sOp gtD (sV 7) (sC (.int 0))) (envL n e2 top own up flat (.d (.int (j : Nat))) e9) (some k1) = .ok true (some k1) := by
        have := b_run (op_run (f := sV 7) (h := sC (.int 0)) (env := envL n e2 top own up flat (.d (.int (j : Nat))) e9) (k := some k1) (v_run rfl) rfl gt_int)
        rw [h1] at this; exact this
      exact ⟨l, u, k3, (ifs_f ((andB_t a1).trans (b_run e1))).trans ((ifs_t a2).trans (par2_run (mD_run (call_run (l3_run (v_run rfl) (lr_run (v_run rfl) (by omega)) rfl) rfl e3) (mD_run e4 rfl)))), bel_sub hs hn, hb3.mono (by omega)⟩
abbrev stepB : Ss := (sIfS (sNotB (sTru (sV 6)))
  (sSet 9 (sIf (sTru (sV 5)) (sFrz (sComp (.name 8) [8] (sB (sOp inD (sV 8) (sV 3))) (sV 8) (iVal (sV 4)))) (sOp plusD (sFrz (iVal (sV 4))) (sV 3))))
  sSkip)
theorem stepB_run {n : Nat} {e2 e7 : En} {top own : List Int} {up flat : Bool} {k : DkO} (ht : Bel n top) (ho : Bel n own) :
    ∃ kept : List Int, stepB (envL n e2 top own up flat e7 (.d (.lst (own.map D.int)))) k = .nx (envL n e2 top own up flat e7 (.d (.lst (kept.map D.int)))) k ∧ (∀ i ∈ kept, 0 ≤ i ∧ i < n) ∧ kept.length ≤ 8 := by
  have sz := sizeLine_eq
  have ho2 := ho.2
  have ht2 := ht.2
  have a6 : sNotB (sTru (sV 6)) (envL n e2 top own up flat e7 (.d (.lst (own.map D.int)))) k = .ok (!flat) k := notB_run (tru_run (v_run rfl) rfl)
  have a5 : sTru (sV 5) (envL n e2 top own up flat e7 (.d (.lst (own.map D.int)))) k = .ok up k := tru_run (v_run rfl) rfl
  have a4 : iVal (sV 4) (envL n e2 top own up flat e7 (.d (.lst (own.map D.int)))) k = .ok (own.map D.int) k := iVal_run (v_run rfl) rfl
  unfold stepB
  cases flat with
  | true => exact ⟨own, if_skip a6, ho.1, by omega⟩
  | false =>
    cases up with
    | true =>
      have e : compM (.name 8) (sB (sOp inD (sV 8) (sV 3))) (sV 8) (wipeE (envL n e2 top own true false e7 (.d (.lst (own.map D.int)))) [8]) (own.map D.int) [] k = .ok ([] ++ (own.filter fun i => inV (.int i) (top.map V.int)).map D.int) k :=
        compM_map (mk := D.int) (pp := fun i => inV (.int i) (top.map V.int)) (ff := D.int) own [] (by show 0 + own.length ≤ _; omega) (fun i _ => ⟨_, rfl, fun k => ⟨b_run (op_run (v_run rfl) (v_run rfl) in_lst), fun _ => v_run rfl⟩⟩) _
      refine ⟨_, (ifs_t a6).trans (set_run ((sif_t a5).trans (comp_run a4 e))), fun i hi => ho.1 i (List.mem_filter.mp hi).1, Nat.le_trans (List.length_filter_le _ _) (by omega)⟩
    | false =>
      refine ⟨own ++ top, (ifs_t a6).trans (set_run ((sif_f a5).trans (op_run (frz_run a4) (v_run (i := 3) rfl) ?_))), fun i hi => (List.mem_append.mp hi).elim (ho.1 i) (ht.1 i), by rw [List.length_append]; omega⟩
      rw [plus_lst (by rw [List.length_map, List.length_map]; omega), List.map_append]

abbrev pick46 (FP : Fn) : Sm D := (sCall 2 FP (lCons (sV 0) (lCons (sLst (lCons (sC (.int 1)) (lCons (sC (.int 2)) (lCons (sC (.int 3)) (lCons (sC (.int 4)) (lCons (sC (.int 4)) (lCons (sC (.int 4)) lNil))))))) lNil)))
theorem pick46_run (hP : PickOk FP) {env : List En} {k : Dk} {N : Nat} (h0 : env[0]? = some (.d .dk)) (hk : Bud k (N + 1)) : ∃ (n : Nat) (k' : Dk), pick46 FP env (some k) = .ok (.int (n : Nat)) (some k') ∧ 1 ≤ n ∧ n ≤ 4 ∧ Bud k' N := by
  obtain ⟨i, k1, e1, hi, hb1⟩ := pick_ints hP (env := env) (f := sLst (lCons (sC (.int 1)) (lCons (sC (.int 2)) (lCons (sC (.int 3)) (lCons (sC (.int 4)) (lCons (sC (.int 4)) (lCons (sC (.int 4)) lNil))))))) (ns := [1, 2, 3, 4, 4, 4]) h0 (lst_run (lc_run rfl (lc_run rfl (lc_run rfl (l3_run rfl rfl rfl)))) (by show 6 ≤ 1000; omega)) (by show 0 < 6; omega) (by show 6 ≤ 1000; omega) hk
  obtain ⟨n, rfl⟩ := nat_of hi (by decide)
  simp only [List.mem_cons, List.mem_nil_iff, or_false] at hi
  exact ⟨n, k1, e1, by omega, by omega, hb1⟩
abbrev stepL (FD FT : Fn) : Ss := (sSeq (stepA FD FT)
  (sSeq (sSet 9 (sFrz (iVal (sV 4))))
  (sSeq stepB
  (sApnd 2 (sApp (pureO tupleD) (lCons (sSortSet (sV 9)) lNil))))))
theorem apnd_is {env : List En} {k k1 : DkO} {i : Nat} {f : Sm D} {d : D} {ds : List D} (h : env[i]? = some (.own ds)) (e : f env k = .ok d k1) (hl : ds.length ≤ 1000) : sApnd i f env k = .nx (env.set i (.own (ds ++ [d]))) k1 := by
  rw [sApnd_eq, h]
  simp only [e, outS_ok]
  rw [if_pos (small1000 hl)]
theorem stepL_run (hD : DrawOk FD) (hT : PartOk FT) {n j : Nat} {ls : List (List Int)} {e9 : En} {top own : List Int} {up flat : Bool} {k : Dk} {N : Nat} (hn : n ≤ 4) (ht : Bel n top) (ho : Bel n own) (hl : ls.length ≤ 1000) (hk : Bud k (N + 10)) :
    ∃ own' up' l k' e9', stepL FD FT (envL n (.own (ls.map rowD)) top own up flat (.d (.int (j : Nat))) e9) (some k) = .nx (envL n (.own ((ls ++ [l]).map rowD)) top own' up' flat (.d (.int (j : Nat))) e9') (some k') ∧ Bel n own' ∧ LotI n l ∧ Bud k' N := by
  obtain ⟨own', up', k1, e1, ho', hb1⟩ := stepA_run (e2 := .own (ls.map rowD)) (top := top) (up := up) (flat := flat) (j := j) (e9 := e9) hD hT hn ho hk
  obtain ⟨kept, e2, hk1, hk2⟩ := stepB_run (e2 := .own (ls.map rowD)) (e7 := .d (.int (j : Nat))) (up := up') (flat := flat) (k := some k1) ht ho'
  refine ⟨own', up', sortU kept, k1, .d (.lst (kept.map D.int)), ?_, ho', lot_sort hk1, hb1⟩
  unfold stepL
  refine (seq_nx e1).trans ((seq_nx (set_run (frz_run (iVal_run (v_run rfl) rfl)))).trans ((seq_nx e2).trans ?_))
  refine (apnd_is (i := 2) (ds := ls.map rowD) rfl (app_run (op := pureO tupleD) (l1_run (sortSet_run (v_run rfl) (sortSet_lst (by omega)))) rfl) (by rw [List.length_map]; exact hl)).trans ?_
  rw [List.map_append]; rfl
theorem lift_len {ls : List (List Int)} : (ls.map rowD).length = ls.length := List.length_map ..
def lots4 : List (List Int) := [[0], [1], [0, 1, 2], [0, 1, 3]]
theorem lots4_ok : ∀ l ∈ lots4, LotI 4 l := by
  intro l hl
  unfold lots4 at hl
  simp only [List.mem_cons, List.mem_nil_iff, or_false] at hl
  rcases hl with rfl | rfl | rfl | rfl <;> exact ⟨by decide, by decide⟩
theorem lots4_run {env : List En} {k : DkO} : sLst (lCons (sTup (lCons (sC (.int 0)) lNil)) (lCons (sTup (lCons (sC (.int 1)) lNil)) (lCons (sTup (lCons (sC (.int 0)) (lCons (sC (.int 1)) (lCons (sC (.int 2)) lNil)))) (lCons (sTup (lCons (sC (.int 0)) (lCons (sC (.int 1)) (lCons (sC (.int 3)) lNil)))) lNil)))) env k = .ok (.lst (lots4.map rowD)) k :=
  lst_run (lc_run (tup_run (l1_run rfl) (by show 1 ≤ 1000; omega)) (l3_run (tup_run (l1_run rfl) (by show 1 ≤ 1000; omega)) (tup_run (l3_run rfl rfl rfl) (by show 3 ≤ 1000; omega)) (tup_run (l3_run rfl rfl rfl) (by show 3 ≤ 1000; omega)))) (by show 4 ≤ 1000; omega)
abbrev tailS (FP FD : Fn) : Ss := (sSeq (sSet 10 (sCall 2 FP (lCons (sV 0) (lCons (sLst (lCons (sC (.int 1)) (lCons (sC (.int 2)) (lCons (sC (.int 3)) (lCons (sC (.int 4)) (lCons (sC (.int 5)) (lCons (sC (.int 6)) (lCons (sC (.int 8)) (lCons (sC (.int 12)) lNil))))))))) lNil))))
  (sSeq (sSet 11 (sOp gtD (sCall 2 FD (lCons (sV 0) (lCons (sC (.int 3)) lNil))) (sC (.int 0))))
  (sSeq (sSet 12 (sApp (pureO tupleD) (lCons (sFrz (sComp (.name 7) [7] sYes (sIf (sAndB (sB (sOp ltD (sV 7) (sV 1))) (sTru (sV 11))) (sV 7) (sCall 2 FD (lCons (sV 0) (lCons (sV 1) lNil)))) (iRange1 (sV 10)))) lNil)))
  (sFrzS 2 (sRet (sDisp (kvCons "count" (sV 1) (kvCons "thread" (sV 12) (kvCons "lots" (sApp (pureO tupleD) (lCons (sV 2) lNil)) kvNil)))))))))
theorem tail_run (hP : PickOk FP) (hD : DrawOk FD) {n : Nat} {ls : List (List Int)} {e2 e3 e4 e5 e6 e7 e8 e9 : En} {k : Dk} {N : Nat} (h2 : frzE e2 = .d (.lst (ls.map rowD))) (n1 : 1 ≤ n) (n4 : n ≤ 4) (l1 : 1 ≤ ls.length) (l2 : ls.length ≤ 26) (hl : ∀ l ∈ ls, LotI n l) (hk : Bud k (N + 100)) :
    Rt (tailS FP FD [.d .dk, .d (.int (n : Nat)), e2, e3, e4, e5, e6, e7, e8, e9, .no, .no, .no] (some k)) fun d k' => ∃ n ts ls, d = wD n ts ls ∧ Lm n ts ls ∧ Bud k' N := by
  have sz := sizeLine_eq
  unfold tailS
  obtain ⟨i, k1, e1, hi, hb1⟩ := pick_ints (n := N + 90) hP (env := [.d .dk, .d (.int (n : Nat)), e2, e3, e4, e5, e6, e7, e8, e9, .no, .no, .no]) (f := sLst (lCons (sC (.int 1)) (lCons (sC (.int 2)) (lCons (sC (.int 3)) (lCons (sC (.int 4)) (lCons (sC (.int 5)) (lCons (sC (.int 6)) (lCons (sC (.int 8)) (lCons (sC (.int 12)) lNil))))))))) (ns := [1, 2, 3, 4, 5, 6, 8, 12]) rfl (lst_run (lc_run rfl (lc_run rfl (lc_run rfl (lc_run rfl (lc_run rfl (l3_run rfl rfl rfl)))))) (by show 8 ≤ 1000; omega)) (by show 0 < 8; omega) (by show 8 ≤ 1000; omega) (hk.mono (by omega))
  obtain ⟨m, rfl⟩ := nat_of hi (by decide)
  have hm : 1 ≤ m ∧ m ≤ 12 := by
    simp only [List.mem_cons, List.mem_nil_iff, or_false] at hi
    omega
  refine Rt.seq (set_run e1) ?_
  obtain ⟨r, k2, e2', _, hb2⟩ := draw_e (n := N + 80) hD (env := [.d .dk, .d (.int (n : Nat)), e2, e3, e4, e5, e6, e7, e8, e9, .d (.int (m : Nat)), .no, .no]) (f := sC (.int 3)) (b := 3) rfl rfl (by decide) (hb1.mono (by omega))
  refine Rt.seq (set_run (op_run e2' rfl gt_int)) ?_
  generalize decide ((0 : Int) < ((r : Nat) : Int)) = u
  obtain ⟨ys, k3, e3', hl3, hy3, hb3⟩ := compM_run (t := .name 7) (f := sIf (sAndB (sB (sOp ltD (sV 7) (sV 1))) (sTru (sV 11))) (sV 7) (sCall 2 FD (lCons (sV 0) (lCons (sV 1) lNil)))) (env0 := wipeE [.d .dk, .d (.int (n : Nat)), e2, e3, e4, e5, e6, e7, e8, e9, .d (.int (m : Nat)), .d (.bl u), .no] [7]) (mk := fun (i : Nat) => .int (i : Nat)) (P := fun _ y => ∃ i : Int, y = .int i ∧ (0 ≤ i ∧ i < n)) (c := 1) (List.range m) [] k2 N (by rw [List.length_range]; show 0 + m ≤ _; omega) (by rw [List.length_range]; exact hb2.mono (by omega)) fun b _ => ⟨_, rfl, fun k q hb => by
    have a1 : sB (sOp ltD (sV 7) (sV 1)) ((wipeE [.d .dk, .d (.int (n : Nat)), e2, e3, e4, e5, e6, e7, e8, e9, .d (.int (m : Nat)), .d (.bl u), .no] [7]).set 7 (.d (.int (b : Nat)))) (some k) = .ok _ (some k) := b_run (op_run (v_run rfl) (v_run rfl) lt_int)
    have no : sAndB (sB (sOp ltD (sV 7) (sV 1))) (sTru (sV 11)) ((wipeE [.d .dk, .d (.int (n : Nat)), e2, e3, e4, e5, e6, e7, e8, e9, .d (.int (m : Nat)), .d (.bl u), .no] [7]).set 7 (.d (.int (b : Nat)))) (some k) = .ok false (some k) → ∃ y k', sIf (sAndB (sB (sOp ltD (sV 7) (sV 1))) (sTru (sV 11))) (sV 7) (sCall 2 FD (lCons (sV 0) (lCons (sV 1) lNil))) ((wipeE [.d .dk, .d (.int (n : Nat)), e2, e3, e4, e5, e6, e7, e8, e9, .d (.int (m : Nat)), .d (.bl u), .no] [7]).set 7 (.d (.int (b : Nat)))) (some k) = .ok y (some k') ∧ (∃ i : Int, y = .int i ∧ (0 ≤ i ∧ i < n)) ∧ Bud k' q := fun e => by
      obtain ⟨r, k', e', hr, hb'⟩ := draw_e hD (env := ((wipeE [.d .dk, .d (.int (n : Nat)), e2, e3, e4, e5, e6, e7, e8, e9, .d (.int (m : Nat)), .d (.bl u), .no] [7]).set 7 (.d (.int (b : Nat))))) (f := sV 1) (b := (n : Nat)) rfl (v_run rfl) (bOk_of (by omega) (by omega)) hb
      exact ⟨_, k', (sif_f e).trans e', ⟨r, rfl, by omega, hr⟩, hb'⟩
    by_cases hbn : ((b : Nat) : Int) < (n : Int)
    · rw [decide_eq_true hbn] at a1
      cases u with
      | true => exact ⟨_, k, (sif_t ((andB_t a1).trans (tru_run (v_run (i := 11) rfl) rfl))).trans (v_run (i := 7) rfl), ⟨b, rfl, by omega, hbn⟩, hb.mono (by omega)⟩
      | false => exact no ((andB_t a1).trans (tru_run (v_run rfl) rfl))
    · rw [decide_eq_false hbn] at a1
      exact no (andB_f a1)⟩
  obtain ⟨ts, rfl, ht, hlt⟩ := ints_of (P := fun i => 0 ≤ i ∧ i < n) fun y hy => (hy3 y hy).elim fun _ z => z.2
  rw [List.length_range] at hl3
  refine Rt.seq (set_run (app_run (op := pureO tupleD) (l1_run (comp_run (range1_run (v_run rfl) (by omega)) e3')) rfl)) ?_
  rw [List.nil_append]
  refine Rt.frz (i := 2) (e := e2) rfl ?_
  rw [h2]
  exact Rt.ret (disp3 (v_run rfl) (v_run rfl) (app_run (op := pureO tupleD) (l1_run (v_run rfl)) rfl)) ⟨n, ts, ls, rfl, ⟨n1, by omega, by omega, by omega, ht, l1, l2, hl⟩, hb3⟩
theorem loom_run (hP : PickOk FP) (hD : DrawOk FD) (hT : PartOk FT) : LoomF (fnD 13 (g__law_loom FP FD FT)) := by
  intro k N hk
  have sz := sizeLine_eq
  have go : Rt (g__law_loom FP FD FT [.d .dk, .no, .no, .no, .no, .no, .no, .no, .no, .no, .no, .no, .no] (some k)) fun d k' => ∃ n ts ls, d = wD n ts ls ∧ Lm n ts ls ∧ Bud k' N := by
    unfold g__law_loom
    obtain ⟨n, k1, e1, n1, n4, hb1⟩ := pick46_run (N := N + 4990) hP (env := [.d .dk, .no, .no, .no, .no, .no, .no, .no, .no, .no, .no, .no, .no]) rfl (hk.mono (by omega))
    refine Rt.seq (par2_run (mD_run e1 (mN_run (new_run (l := lNil) rfl (by decide)) rfl))) ?_
    have htop : ∃ (top : List Int) (k2 : Dk), sIf (sB (sOp eqD (sCall 2 FD (lCons (sV 0) (lCons (sC (.int 3)) lNil))) (sC (.int 0)))) (sFrz (iLR1 (sCall 2 FD (lCons (sV 0) (lCons (sOp plusD (sV 1) (sC (.int 1))) lNil))))) (sLst lNil) [.d .dk, .d (.int (n : Nat)), .own [], .no, .no, .no, .no, .no, .no, .no, .no, .no, .no] (some k1) = .ok (.lst (top.map D.int)) (some k2) ∧ Bel n top ∧ Bud k2 (N + 4000) := by
      obtain ⟨z, k2, e2, hb2⟩ := draw_is (n := N + 4500) hD (env := [.d .dk, .d (.int (n : Nat)), .own [], .no, .no, .no, .no, .no, .no, .no, .no, .no, .no]) (b := 3) rfl (by decide) (hb1.mono (by omega))
      cases z with
      | false => exact ⟨[], k2, (sif_f (b_run e2)).trans (lst_run (l := lNil) rfl (by decide)), ⟨fun _ z => (nomatch z), Nat.zero_le _⟩, hb2.mono (by omega)⟩
      | true =>
        obtain ⟨r, k3, e3, hr, hb3⟩ := draw_e (n := N + 4000) hD (env := [.d .dk, .d (.int (n : Nat)), .own [], .no, .no, .no, .no, .no, .no, .no, .no, .no, .no]) (f := sOp plusD (sV 1) (sC (.int 1))) (b := (n : Nat) + 1) rfl (op_run (v_run rfl) rfl plus_int) (bOk_of (by omega) (by omega)) (hb2.mono (by omega))
        refine ⟨ups r, k3, (sif_t (b_run e2)).trans (lr_run e3 (by omega)), ⟨fun i hi => ?_, by rw [len_up]; omega⟩, hb3⟩
        have := mem_up.mp hi
        omega
    obtain ⟨top, k2, e2, htop, hb2⟩ := htop
    refine Rt.seq (set_run e2) ?_
    obtain ⟨own, k3, e3, hs3, hb3⟩ := hT n 2 k2 (N + 3000) (by omega) (by decide) (hb2.mono (by omega))
    have hfl : sOp eqN (sV 3) (sLst lNil) [.d .dk, .d (.int (n : Nat)), .own [], .d (.lst (top.map D.int)), .no, .no, .no, .no, .no, .no, .no, .no, .no] (some k3) = .ok (.bl (top.map D.int).isEmpty) (some k3) := op_run (v_run rfl) (lst_run (l := lNil) rfl (by decide)) eq_nilL
    refine Rt.seq (sPar_run3 (mD_run (call_run (l3_run (v_run rfl) (lr_run (v_run rfl) (by omega)) rfl) rfl e3) (mD_run rfl (mD_run hfl rfl)))) ?_
    generalize (top.map D.int).isEmpty = flat
    obtain ⟨c, k4, e4, c1, c4, hb4⟩ := pick46_run (N := N + 2900) hP (env := envL n (.own []) top own true flat .no .no) rfl (hb3.mono (by omega))
    obtain ⟨env', k5, e5, ⟨ls, own', up', e7', e9', rfl, hln, hls, _⟩, hb5⟩ := forM_run (t := .name 7) (s := stepL FD FT) (mk := fun (i : Nat) => .int (i : Nat)) (I := fun j env => ∃ (ls : List (List Int)) (own : List Int) (up : Bool) (e7 e9 : En), env = envL n (.own (ls.map rowD)) top own up flat e7 e9 ∧ ls.length = j ∧ (∀ l ∈ ls, LotI n l) ∧ Bel n own) (c := 10) (List.range c) 0 (envL n (.own []) top own true flat .no .no) k4 (N + 2000) ⟨[], own, true, .no, .no, rfl, rfl, fun _ z => (nomatch z), bel_sub hs3 n4⟩ (by rw [List.length_range]; exact hb4.mono (by omega)) fun j b env k q hj hb hI hq => by
      obtain ⟨ls, own, up, e7, e9, rfl, h1, h2, h3⟩ := hI
      rw [List.length_range] at hj
      obtain ⟨own', up', l, k', e9', e, ho', hl', hb'⟩ := stepL_run (j := b) (ls := ls) (e9 := e9) (up := up) (flat := flat) hD hT n4 htop h3 (by omega) hq
      exact ⟨_, _, k', rfl, e, ⟨ls ++ [l], own', up', _, e9', rfl, by rw [List.length_append, List.length_singleton, h1], fun x hx => (List.mem_append.mp hx).elim (h2 x) fun z => by rw [List.mem_singleton.mp z]; exact hl', ho'⟩, hb'⟩
    rw [List.length_range, Nat.zero_add] at hln
    refine Rt.seq ((for_run (range1_run e4 (by omega))).trans e5) ?_
    have eqn : sB (sOp eqD (sV 1) (sC (.int 4))) (envL n (.own (ls.map rowD)) top own' up' flat e7' e9') (some k5) = .ok _ (some k5) := b_run (op_run (v_run rfl) rfl eq_int)
    cases h4 : (((n : Nat) : Int) == 4) with
    | false =>
      rw [h4] at eqn
      exact Rt.seq (if_skip (andB_f eqn)) (tail_run (N := N) hP hD (ls := ls) rfl n1 n4 (by omega) (by omega) hls (hb5.mono (by omega)))
    | true =>
      rw [h4] at eqn
      have hn4 : n = 4 := by have := eq_of_beq h4; omega
      obtain ⟨z, k6, e6, hb6⟩ := draw_is (n := N + 1900) hD (env := envL n (.own (ls.map rowD)) top own' up' flat e7' e9') (b := 8) rfl (by decide) (hb5.mono (by omega))
      cases z with
      | false => exact Rt.seq (if_skip ((andB_t eqn).trans (b_run e6))) (tail_run (N := N) hP hD (ls := ls) rfl n1 n4 (by omega) (by omega) hls (hb6.mono (by omega)))
      | true =>
        obtain ⟨r, k7, e7, hr, hb7⟩ := draw_e (n := N + 1800) hD (env := envL n (.own (ls.map rowD)) top own' up' flat e7' e9') (f := sC (.int 2)) (b := 2) rfl rfl (by decide) (hb6.mono (by omega))
        have hc : cutL (lots4.map rowD) (some (r : Int)) none = (lots4.drop r).map rowD := by
          have : r = 0 ∨ r = 1 := by omega
          rcases this with rfl | rfl <;> rfl
        have hlen : (lots4.drop r).length = 4 - r := by rw [List.length_drop]; rfl
        refine Rt.seq ((ifs_t ((andB_t eqn).trans (b_run e6))).trans (set_run (d := .lst ((lots4.drop r).map rowD)) (sl_run lots4_run (oSome_run e7) oNone_run (by show some (D.lst (cutL _ _ _)) = _; rw [hc])))) ?_
        exact tail_run (N := N) hP hD (ls := lots4.drop r) rfl n1 n4 (by omega) (by omega) (fun l hl => by rw [hn4]; exact lots4_ok l (List.mem_of_mem_drop hl)) (hb7.mono (by omega))
  obtain ⟨d, k', e, n, ts, ls, rfl, hL, hb⟩ := go
  refine ⟨n, ts, ls, k', ?_, hL, hb⟩
  show endD (g__law_loom FP FD FT [.d .dk, .no, .no, .no, .no, .no, .no, .no, .no, .no, .no, .no, .no] (some k)) = _
  rw [e]; rfl
end
end C01
set_option Elab.async false
set_option linter.all false
set_option maxRecDepth 100000
set_option maxHeartbeats 4000000
namespace C01
open PySem PySem.Spec L2 DL
/-! ### something else for a value, and within one: how long a row is then -/
abbrev tl (d : D) : Nat := (tupL d).length
def OddX (it d : D) : Prop := tl d ≤ max (tl it + 1) 2 ∧ ∀ ds es, it = .tup ds → ds.length = 3 → d = .tup es → es.length = 3 → es[1]? = ds[1]?
theorem oddX_no {it d : D} (h : tupL d = []) : OddX it d := ⟨by show (tupL d).length ≤ _; rw [h]; exact Nat.zero_le _, fun ds es _ _ e hl => by subst e; have : es = [] := h; subst this; cases hl⟩
theorem oddX_few {it d : D} (h : tl d ≤ 2) : OddX it d := ⟨by omega, fun ds es _ _ e hl => by subst e; have : es.length ≤ 2 := h; omega⟩
theorem few_all : (oddA ++ oddB).all (fun d => decide ((tupL d).length ≤ 2)) = true := by decide +kernel
theorem odd_tupX {n h m : Nat} {ds : List D} (a : Gd n h m (.tup ds)) (hn : 1400 ≤ n) (hn2 : n ≤ 400000) :
    ∃ es, (∀ xs k, (lCons (sFrz (iVal (sV 1))) (lCons (sSl (sV 1) (oSome (sC (.int 1))) oNone) (lCons (sSl (sV 1) oNone (oSome (sNeg (sC (.int 1))))) (lCons (sOp plusD (sV 1) (sSl (sV 1) (oSome (sNeg (sC (.int 1)))) oNone)) (lCons (sRev (sV 1)) (lCons (sTup (lCons (sV 1) lNil)) lNil)))))) (envO (.tup ds) xs) k = .ok es k) ∧ es.length ≤ 10 ∧ ∀ e ∈ es, Gd (3 * n) (h + 2) (m + 1) e ∧ OddX (.tup ds) e := by
  have b := a.ofTup
  have hl := b.len
  have hh : 1 ≤ h := by have := a.h; simp only [ht] at this; omega
  have cl : ∀ lo hi, (cutL ds lo hi).length ≤ ds.length := fun lo hi => by unfold cutL; rw [List.length_take, List.length_drop]; omega
  have c1 : (cutL ds (some 1) none).length = ds.length - 1 := by rw [cut_tail, List.length_drop]
  have c2 : (cutL ds none (some (-1))).length = ds.length - 1 := by
    unfold cutL
    rw [HT.sIx_none, List.drop_zero, List.length_take, Nat.sub_zero]
    show min (HT.sIx ds.length ds.length (some (-1))) _ = _
    cases ds with
    | nil => rfl
    | cons d ds =>
      have : HT.sIx (d :: ds).length (d :: ds).length (some (-1)) = ds.length := by
        unfold HT.sIx
        simp
        omega
      rw [this]
      simp
  have c3 : (cutL ds (some (-1)) none).length = min ds.length 1 := by
    unfold cutL
    rw [HT.sIx_none, List.length_take, List.length_drop]
    cases ds with
    | nil => rfl
    | cons d ds =>
      have : HT.sIx (d :: ds).length 0 (some (-1)) = ds.length := by
        unfold HT.sIx
        simp
        omega
      rw [this]
      simp
  refine ⟨[.lst ds, .tup (cutL ds (some 1) none), .tup (cutL ds none (some (-1))), .tup (ds ++ cutL ds (some (-1)) none), .tup ds.reverse, .tup [.tup ds]], fun xs k => ?_, by show 6 ≤ 10; omega, fun e he => ?_⟩
  · refine lc_run (frz_run (iVal_run (v_run rfl) rfl)) (lc_run (sl_run (v_run rfl) (oSome_run rfl) oNone_run rfl) (lc_run (sl_run (v_run rfl) oNone_run (oSome_run rfl) rfl) (lc_run (op_run (v_run rfl) (sl_run (v_run rfl) (oSome_run rfl) oNone_run rfl) (plus_tup ?_)) (l2_run (rev_run (v_run rfl) rfl) (tup_run (l1_run (v_run rfl)) (by show 1 ≤ 1000; omega))))))
    have := cl (some (-1)) none
    omega
  · have short : ∀ xs : List D, xs.length ≤ ds.length + 1 → (ds.length = 3 → xs.length = 3 → xs[1]? = ds[1]?) → OddX (.tup ds) (.tup xs) := fun xs h1 h2 => ⟨by show xs.length ≤ max (ds.length + 1) 2; omega, fun ds' es e hl e2 hl2 => by cases e; cases e2; exact h2 hl hl2⟩
    simp only [List.mem_cons, List.mem_nil_iff, or_false] at he
    rcases he with rfl | rfl | rfl | rfl | rfl | rfl
    · exact ⟨b.lst.mono (by omega) (by omega) (by omega), oddX_no rfl⟩
    · exact ⟨(b.cut _ _).tup.mono (by omega) (by omega) (by omega), short _ (by omega) fun h1 h2 => by omega⟩
    · exact ⟨(b.cut _ _).tup.mono (by omega) (by omega) (by omega), short _ (by omega) fun h1 h2 => by omega⟩
    · exact ⟨(b.app (b.cut _ _)).tup.mono (by omega) (by omega) (by omega), short _ (by rw [List.length_append]; omega) fun h1 h2 => by rw [List.length_append] at h2; omega⟩
    · refine ⟨b.rev.tup.mono (by omega) (by omega) (by omega), short _ (by rw [List.length_reverse]; omega) fun h1 _ => ?_⟩
      match ds, h1 with
      | [x, y, z], _ => rfl
    · exact ⟨(GdL.cons a GdL.nil (n' := 0)).tup.mono (by omega) (by omega) (by omega), short _ (by show 1 ≤ _; omega) fun h1 h2 => by cases h2⟩
def OddOk (F : Fn) : Prop := ∀ (it : D) (n h m N : Nat) (k : Dk), Gd n h m it → 1400 ≤ n → n ≤ 400000 → 10 ^ 39 ≤ m → m + 1 ≤ 10 ^ 60 → Bud k (N + 1) → ∃ d k', F [.dk, it] (some k) = .ok d (some k') ∧ Gd (3 * n) (h + 2) (m + 1) d ∧ OddX it d ∧ Bud k' N
theorem odd_run {FP : Fn} (hP : PickOk FP) : OddOk (fnD 3 (g__law_odd FP)) := by
  intro it n h m N k a hn hn2 hm hm2 hb
  have h1 : ∀ d ∈ oddA ++ oddB, Gd (3 * n) (h + 2) (m + 1) d ∧ OddX it d := fun d hd => by
    refine ⟨?_, oddX_few (of_decide_eq_true (List.all_eq_true.mp few_all d hd))⟩
    rcases List.mem_append.mp hd with z | z
    · exact okC_gd (List.all_eq_true.mp oddA_ok d z) (by omega) (by omega) (by omega)
    · exact okC_gd (List.all_eq_true.mp oddB_ok d z) (by omega) (by omega) (by omega)
  have hm3 : 2 ≤ m := Nat.le_trans (by decide +kernel) hm
  obtain ⟨ds1, e1, l1, p1, g1⟩ := ifO (T := "tuple") (c := 2) (k := some k) a.plain (by omega) (by show 27 ≤ 200; omega) (by show 0 < 27; omega) h1 (L := (lCons (sFrz (iVal (sV 1))) (lCons (sSl (sV 1) (oSome (sC (.int 1))) oNone) (lCons (sSl (sV 1) oNone (oSome (sNeg (sC (.int 1))))) (lCons (sOp plusD (sV 1) (sSl (sV 1) (oSome (sNeg (sC (.int 1)))) oNone)) (lCons (sRev (sV 1)) (lCons (sTup (lCons (sV 1) lNil)) lNil))))))) fun ht => by
    cases it with
    | tup ds => exact odd_tupX a hn hn2
    | _ => simp [isTy, isTyN, tyN] at ht
  have l1' : ds1.length ≤ 27 + 30 := l1
  obtain ⟨ds2, e2, l2, p2, g2⟩ := ifO (T := "int") (c := 3) (k := some k) a.plain (by omega) (by omega) p1 g1 (L := intS) fun ht => by
    cases it with
    | int i => obtain ⟨es, q1, q2, q3⟩ := odd_int a hn hm2; exact ⟨es, q1, q2, fun e he => ⟨(q3 e he).1, oddX_no (q3 e he).2⟩⟩
    | bl b => obtain ⟨es, q1, q2, q3⟩ := odd_bl (n := n) (h := h) (m := m) (b := b) hn hm3; exact ⟨es, q1, q2, fun e he => ⟨(q3 e he).1, oddX_no (q3 e he).2⟩⟩
    | _ => simp [isTy, isTyN, tyN] at ht
  obtain ⟨ds3, e3, l3, p3, g3⟩ := ifO (T := "str") (c := 2) (k := some k) a.plain (by omega) (by omega) p2 g2 (L := (lCons (sOp plusD (sV 1) (sC (.str "x"))) (lCons (sSl (sV 1) (oSome (sC (.int 1))) oNone) (lCons (sRev (sV 1)) (lCons (sM0 upperD (sV 1)) (lCons (sFrz (iVal (sV 1))) (lCons (sOp plusD (sV 1) (sC (.str " "))) lNil))))))) fun ht => by
    cases it with
    | str x => obtain ⟨es, q1, q2, q3⟩ := odd_str a hn hn2; exact ⟨es, q1, q2, fun e he => ⟨(q3 e he).1, oddX_no (q3 e he).2⟩⟩
    | shw _ => cases a.plain
    | _ => simp [isTy, isTyN, tyN] at ht
  obtain ⟨d, k', e4, hm4, hb'⟩ := pick_of hP (env := envO it ds3) (h := sV 2) (xs := ds3) rfl (v_run rfl) p3 (by omega) hb
  refine ⟨d, k', ?_, (g3 d hm4).1, (g3 d hm4).2, hb'⟩
  have e : g__law_odd FP [.d .dk, .d it, .no] (some k) = .rt d (some k') := by
    unfold g__law_odd
    rw [seq_nx (set_run oddA_run)]
    refine (seq_nx (set_run (op_run (v_run rfl) oddB_run (plus_lst (by show 20 + 7 ≤ 1000; omega))))).trans ?_
    refine (seq_nx e1).trans ((seq_nx e2).trans ((seq_nx e3).trans (ret_run e4)))
  show endD (g__law_odd FP [.d .dk, .d it, .no] (some k)) = _
  rw [e]; rfl
def BentX (it d : D) : Prop := tl d ≤ max (tl it + 1) 2 ∧ ∀ ds es, it = .tup ds → ds.length = 3 → d = .tup es → es.length = 3 → ∃ x y, ds[1]? = some x ∧ es[1]? = some y ∧ tl y ≤ max (tl x + 1) 2
theorem oddX_bent {it d : D} (h : OddX it d) : BentX it d := ⟨h.1, fun ds es e hl e2 hl2 => by
  have := h.2 ds es e hl e2 hl2
  have hx : ds[1]? = some ds[1] := List.getElem?_eq_getElem (by omega)
  exact ⟨ds[1], ds[1], hx, by rw [this, hx], by omega⟩⟩
def BentOk (F : Fn) (deep : Nat) : Prop := ∀ (it : D) (n h m N : Nat) (k : Dk), Gd n h m it → 1400 ≤ n → n ≤ 400000 → 10 ^ 39 ≤ m → m + 1 ≤ 10 ^ 60 → Bud k (N + 2 + 2 * deep) → ∃ d k', F [.dk, it, .int (deep : Nat)] (some k) = .ok d (some k') ∧ Gd (3 * n + 2 * n * deep) (h + 2) (m + 1) d ∧ BentX it d ∧ Bud k' N
theorem bent_run {FD FO FR : Fn} (hD : DrawOk FD) (hO : OddOk FO) {deep : Nat} (hR : 0 < deep → BentOk FR (deep - 1)) : BentOk (fnD 4 (g__law_bent FD FO FR)) deep := by
  intro it n h m N k a hn hn2 hm hm2 hb
  have e : ∃ d k', g__law_bent FD FO FR (envB it deep) (some k) = .rt d (some k') ∧ Gd (3 * n + 2 * n * deep) (h + 2) (m + 1) d ∧ BentX it d ∧ Bud k' N := by
    obtain ⟨z, k1, e1, hb1, hz⟩ := condB_run (N := N + 1 + 2 * deep) (deep := deep) hD a.plain (hb.mono (by omega))
    unfold g__law_bent
    cases z with
    | true =>
      obtain ⟨d, k2, e2, g2, x2, hb2⟩ := hO it n h m N k1 a hn hn2 hm hm2 (hb1.mono (by omega))
      exact ⟨d, k2, seq_rt ((ifs_t e1).trans (ret_run (call_run (l2_run (v_run rfl) (v_run rfl)) rfl e2))), g2.mono (by omega) (Nat.le_refl _) (Nat.le_refl _), oddX_bent x2, hb2⟩
    | false =>
      obtain ⟨h0, ds, rfl, hl⟩ := hz rfl
      have b := a.ofTup
      have bl := b.len
      have hh : 1 ≤ h := by have := a.h; simp only [ht] at this; omega
      obtain ⟨r, k2, e2, r0, r1, hb2⟩ := hD (ds.length : Nat) k1 (N + 2 * deep) (bOk_nat hl (by omega)) (hb1.mono (by omega))
      obtain ⟨i, rfl⟩ := Int.eq_ofNat_of_zero_le r0
      have hi : i < ds.length := by omega
      obtain ⟨d0, hd0, hm0, hi0⟩ := atI_get_ok (xs := ds) r0 r1
      obtain ⟨d, k3, e3, g3, x3, hb3⟩ := hR h0 d0 n (h - 1) m N k2 ((b.mem hm0).mono (by omega) (Nat.le_refl _) (Nat.le_refl _)) hn hn2 hm hm2 (hb2.mono (by omega))
      have hdeep : (((deep : Nat) : Int) - 1) = ((deep - 1 : Nat) : Int) := by omega
      have cl : ∀ lo hi, (cutL ds lo hi).length ≤ ds.length := fun lo hi => by unfold cutL; rw [List.length_take, List.length_drop]; omega
      have c1 := cl none (some (i : Int))
      have c2 := cl (some ((i : Int) + 1)) none
      refine ⟨.tup ((cutL ds none (some (i : Int)) ++ [d]) ++ cutL ds (some ((i : Int) + 1)) none), k3, ?_, ?_, ?_, hb3⟩
      · refine (seq_nx (ifs_f e1)).trans ?_
        refine (seq_nx (set_run (call_run (l2_run (v_run rfl) (lenT_run (l1_run (v_run rfl)))) rfl e2))).trans ?_
        refine ret_run (op_run (op_run (sl_run (v_run rfl) oNone_run (oSome_run (v_run rfl)) rfl) (tup_run (l1_run (call_run (l3_run (v_run rfl) (ix_run (v_run rfl) (v_run rfl) hd0) (op_run (v_run rfl) rfl minus_int)) rfl ?_)) (by show 1 ≤ 1000; omega)) (plus_tup ?_)) (sl_run (v_run rfl) (oSome_run (op_run (v_run rfl) rfl plus_int)) oNone_run rfl) (plus_tup ?_))
        · rw [hdeep]; exact e3
        · rw [List.length_singleton]; omega
        · rw [List.length_append, List.length_singleton]; omega
      · have hw : 2 * n * deep = 2 * n * (deep - 1) + 2 * n := by
          obtain ⟨j, rfl⟩ : ∃ j, deep = j + 1 := ⟨deep - 1, by omega⟩
          rw [Nat.add_sub_cancel, Nat.mul_succ]
        have g3' := g3.mono (n' := 3 * n + 2 * n * (deep - 1)) (h' := h + 1) (m' := m + 1) (Nat.le_refl _) (by omega) (Nat.le_refl _)
        have q1 := (b.cut none (some (i : Int))).mono (n' := n - 10) (h' := h + 1) (m' := m + 1) (Nat.le_refl _) (by omega) (by omega)
        have q2 := (b.cut (some ((i : Int) + 1)) none).mono (n' := n - 10) (h' := h + 1) (m' := m + 1) (Nat.le_refl _) (by omega) (by omega)
        exact ((q1.app (GdL.cons g3' GdL.nil (n' := 0))).app q2).tup.mono (by omega) (by omega) (Nat.le_refl _)
      · rw [cut_put hi]
        refine ⟨by show (ds.set i d).length ≤ max (ds.length + 1) 2; rw [List.length_set]; omega, fun ds' es e hl3 e2 _ => ?_⟩
        cases e
        cases e2
        have hx : ds[1]? = some ds[1] := List.getElem?_eq_getElem (by omega)
        by_cases h1 : i = 1
        · subst h1
          rw [Int.toNat_natCast] at hi0
          refine ⟨d0, d, hi0, by rw [List.getElem?_set_self (by omega)], x3.1⟩
        · exact ⟨ds[1], ds[1], hx, by rw [List.getElem?_set_ne h1, hx], by omega⟩
  obtain ⟨d, k', e, hq⟩ := e
  refine ⟨d, k', ?_, hq⟩
  show endD (g__law_bent FD FO FR (envB it deep) (some k)) = _
  rw [e]; rfl
/-! ### what a drawn loom weighs -/
theorem row_gd {ns : List Int} {n : Nat} (h : ∀ i ∈ ns, 0 ≤ i ∧ i < n) (hn : n ≤ 99) : Gd (8 * ns.length + 10) 1 98 (rowD ns) := by
  rcases sub_gd (n := 0) (h := 0) (m := 98) (ns := ns) (fun i hi => by have := h i hi; omega) with g | g
  · exact g.tup
  · exact absurd g (by omega)
theorem lots_gd {n : Nat} : ∀ {ls : List (List Int)}, (∀ l ∈ ls, LotI n l) → n ≤ 99 → GdL (804 * ls.length) 1 98 (ls.map rowD)
  | [], _, _ => GdL.nil
  | l :: ls, h, hn => by
    have hl := h l List.mem_cons_self
    have hs : l.length ≤ 99 := by
      have : l.Sublist (ups n) ∨ True := .inr trivial
      -- ascending numbers below n are at most n
      have key : ∀ (xs : List Int) (a b : Int), xs.Pairwise (· < ·) → (∀ i ∈ xs, a ≤ i ∧ i < b) → (xs.length : Int) ≤ max (b - a) 0 := by
        intro xs
        induction xs with
        | nil => intro a b _ _; show (0 : Int) ≤ _; omega
        | cons x xs ih =>
          intro a b hp hb
          have hp' := List.pairwise_cons.mp hp
          have hx := hb x List.mem_cons_self
          have := ih (x + 1) b hp'.2 fun i hi => ⟨by have := hp'.1 i hi; omega, (hb i (List.mem_cons_of_mem _ hi)).2⟩
          rw [List.length_cons]
          omega
      have := key l 0 n hl.1 hl.2
      omega
    have a := (row_gd hl.2 hn).mono (n' := 802) (h' := 1) (m' := 98) (by omega) (Nat.le_refl _) (Nat.le_refl _)
    have b := lots_gd (ls := ls) (fun x hx => h x (List.mem_cons_of_mem _ hx)) hn
    exact (GdL.cons a b).mono (by rw [List.length_cons]; omega) (Nat.le_refl _) (Nat.le_refl _)
theorem lm_gd {n : Nat} {ts : List Int} {ls : List (List Int)} (h : Lm n ts ls) : Gd 22000 3 (10 ^ 39) (.tup [.int (n : Nat), rowD ts, lotsD ls]) := by
  have h1 := h.n1
  have h2 := h.n2
  have h3 := h.t2
  have h4 := h.l2
  have a : Gd 6 2 98 (.int (n : Nat)) ∨ 98 < n := by
    by_cases hn : n ≤ 98
    · exact .inl (Gd.intS (Nat.le_refl _) (by omega) (by omega))
    · exact .inr (by omega)
  have a : Gd 6 2 99 (.int (n : Nat)) := Gd.intS (Nat.le_refl _) (by omega) (by omega)
  have b := (row_gd h.t3 h2).mono (n' := 260) (h' := 2) (m' := 99) (by omega) (by omega) (by omega)
  have c := (lots_gd h.l3 h2).tup.mono (n' := 20914) (h' := 2) (m' := 99) (by omega) (by omega) (by omega)
  exact (GdL.cons a (GdL.cons b (GdL.cons c GdL.nil (n' := 0)))).tup.mono (by omega) (by omega) (by decide +kernel)
end C01
set_option Elab.async false
set_option linter.all false
set_option maxRecDepth 100000
set_option maxHeartbeats 4000000
namespace C01
open PySem PySem.Spec L2 DL
/-! ### rows compared -/
def intsP (ns : List Int) : PyData := .tuple (ns.map .int)
theorem py_row (ns : List Int) : D.py (rowD ns) = some (intsP ns) := by
  have e := py_ints (f := fun i : Int => i) ns
  show (D.pyAll (ns.map D.int)).map PyData.tuple = _
  rw [e]; rfl
theorem eqvAll_ints : ∀ xs ys : List Int, PyData.eqvAll (xs.map .int) (ys.map .int) = (xs == ys)
  | [], [] => rfl
  | [], _ :: _ => rfl
  | _ :: _, [] => rfl
  | x :: xs, y :: ys => by
    show (PyData.eqv (.int x) (.int y) && PyData.eqvAll (xs.map .int) (ys.map .int)) = _
    rw [eqvAll_ints xs ys, List.cons_beq_cons]
    rfl
theorem eqv_row (xs ys : List Int) : PyData.eqv (intsP xs) (intsP ys) = (xs == ys) := by
  show PyData.eqv (.tuple _) (.tuple _) = _
  rw [← eqvAll_ints]
  simp [PyData.eqv]
theorem flat_row (ns : List Int) : PyData.hasDict (intsP ns) = false ∧ PyData.depth (intsP ns) ≤ 1 := by
  obtain ⟨h1, h2⟩ := flat_ints (f := fun i : Int => i) ns
  exact ⟨by simpa [intsP, PyData.hasDict] using h1, by simp only [intsP, PyData.depth]; have : PyData.depthAll (ns.map .int) = 0 := h2; omega⟩
def rowsP (ls : List (List Int)) : PyData := .tuple (ls.map intsP)
theorem py_rows : ∀ ls : List (List Int), D.pyAll (ls.map rowD) = some (ls.map intsP)
  | [] => rfl
  | l :: ls => by rw [List.map_cons]; simp only [D.pyAll, py_row, py_rows ls]; rfl
theorem py_lots (ls : List (List Int)) : D.py (lotsD ls) = some (rowsP ls) := by
  show (D.pyAll (ls.map rowD)).map PyData.tuple = _
  rw [py_rows]; rfl
theorem eqvAll_rows : ∀ xs ys : List (List Int), PyData.eqvAll (xs.map intsP) (ys.map intsP) = (xs == ys)
  | [], [] => rfl
  | [], _ :: _ => rfl
  | _ :: _, [] => rfl
  | x :: xs, y :: ys => by
    show (PyData.eqv (intsP x) (intsP y) && PyData.eqvAll (xs.map intsP) (ys.map intsP)) = _
    rw [eqvAll_rows xs ys, eqv_row, List.cons_beq_cons]
theorem eqv_lots (xs ys : List (List Int)) : PyData.eqv (rowsP xs) (rowsP ys) = (xs == ys) := by
  show PyData.eqv (.tuple _) (.tuple _) = _
  rw [← eqvAll_rows]
  simp [PyData.eqv]
theorem flat_rows : ∀ ls : List (List Int), PyData.hasDictAll (ls.map intsP) = false ∧ PyData.depthAll (ls.map intsP) ≤ 1
  | [] => ⟨rfl, Nat.zero_le _⟩
  | l :: ls => by
    obtain ⟨a, b⟩ := flat_row l
    obtain ⟨c, d⟩ := flat_rows ls
    simp only [List.map_cons, PyData.hasDictAll, PyData.depthAll]
    exact ⟨by simp [a, c], by omega⟩
theorem flatR (ns : List Int) : flatPy (intsP ns) = true := by
  obtain ⟨a, b⟩ := flat_row ns
  unfold flatPy
  rw [Bool.and_eq_true]
  exact ⟨by simp [a], decide_eq_true (by omega)⟩
theorem flatL (ls : List (List Int)) : flatPy (rowsP ls) = true := by
  obtain ⟨a, b⟩ := flat_rows ls
  unfold flatPy
  rw [Bool.and_eq_true]
  exact ⟨by simp [rowsP, PyData.hasDict, a], decide_eq_true (by simp only [rowsP, PyData.depth]; omega)⟩
theorem flatI (i : Int) : flatPy (.int i) = true := rfl
theorem eqv_of {f : Bool → Bool} {a b : D} {p q : PyData} (h1 : a.py = some p) (h2 : b.py = some q) (f1 : flatPy p = true) (f2 : flatPy q = true) : eqvD f a b = some (.bl (f (PyData.eqv p q))) := by
  unfold eqvD; simp only [h1, h2, f1, f2, Bool.and_self, if_true]
theorem eq_row (xs ys : List Int) : eqD (rowD xs) (rowD ys) = some (.bl (xs == ys)) := by
  unfold eqD
  refine orD_some ?_
  cases ys with
  | nil => refine orD_some ?_; cases xs <;> rfl
  | cons y ys => refine (orD_none rfl).trans ((eqv_of (py_row xs) (py_row (y :: ys)) (flatR _) (flatR _)).trans ?_); rw [eqv_row]
theorem eq_lots (xs ys : List (List Int)) : eqD (lotsD xs) (lotsD ys) = some (.bl (xs == ys)) := by
  unfold eqD
  refine orD_some ?_
  cases ys with
  | nil => refine orD_some ?_; cases xs <;> rfl
  | cons y ys => refine (orD_none rfl).trans ((eqv_of (py_lots xs) (py_lots (y :: ys)) (flatL _) (flatL _)).trans ?_); rw [eqv_lots]
theorem ne_row (xs ys : List Int) : neD (rowD xs) (rowD ys) = some (.bl (!(xs == ys))) := by
  unfold neD
  refine orD_some ((eqv_of (py_row xs) (py_row ys) (flatR _) (flatR _)).trans ?_)
  rw [eqv_row]
theorem ne_shw {p : PyData} : neD (.shw p) (.shw p) = some (.bl false) := by
  unfold neD orD eqvD eqShw
  simp [D.py]
/-! ### dicts of looms compared -/
theorem fi1 {a b c : D} : findD (.inr "count") [(.inr "count", a), (.inr "thread", b), (.inr "lots", c)] = some a := by rfl
theorem fi2 {a b c : D} : findD (.inr "thread") [(.inr "count", a), (.inr "thread", b), (.inr "lots", c)] = some b := by rfl
theorem fi3 {a b c : D} : findD (.inr "lots") [(.inr "count", a), (.inr "thread", b), (.inr "lots", c)] = some c := by rfl
def sameW (n m : Nat) (ts us : List Int) (ls ms : List (List Int)) : Bool := (((n : Nat) : Int) == ((m : Nat) : Int)) && (ts == us && (ls == ms))
theorem hits3 {n m : Nat} {ts us : List Int} {ls ms : List (List Int)} : hitsD [(.inr "count", .int (m : Nat)), (.inr "thread", rowD us), (.inr "lots", lotsD ms)] [(.inr "count", .int (n : Nat)), (.inr "thread", rowD ts), (.inr "lots", lotsD ls)] = some (sameW n m ts us ls ms) := by
  have e3 : hitsD [(.inr "count", .int (m : Nat)), (.inr "thread", rowD us), (.inr "lots", lotsD ms)] [] = some true := rfl
  have e2 : hitsD [(.inr "count", .int (m : Nat)), (.inr "thread", rowD us), (.inr "lots", lotsD ms)] [(.inr "lots", lotsD ls)] = some (ls == ms) := by
    simp only [hitsD, fi3, e3, py_lots, flatL, Bool.and_self, if_true, eqv_lots, Bool.and_true]
  have e1 : hitsD [(.inr "count", .int (m : Nat)), (.inr "thread", rowD us), (.inr "lots", lotsD ms)] [(.inr "thread", rowD ts), (.inr "lots", lotsD ls)] = some (ts == us && (ls == ms)) := by
    unfold hitsD
    simp only [fi2, e2, py_row, flatR, Bool.and_self, if_true, eqv_row]
  unfold hitsD
  have pi : ∀ i : Int, D.py (.int i) = some (.int i) := fun _ => rfl
  simp only [fi1, e1, pi, flatI, Bool.and_self, if_true]
  rfl
theorem eq_w {n m : Nat} {ts us : List Int} {ls ms : List (List Int)} : eqD2 (wD n ts ls) (wD m us ms) = some (.bl (sameW n m ts us ls ms)) := by
  unfold eqD2
  have e : eqD (wD n ts ls) (wD m us ms) = none := by
    unfold eqD
    refine (orD_none ((orD_none rfl).trans ?_)).trans rfl
    unfold eqvD
    simp [D.py]
  refine (orD_none e).trans ?_
  unfold eqDct
  show (if 3 = 3 then (hitsD _ _).map _ else none) = _
  rw [if_pos rfl, hits3]; rfl
theorem ne_w {n m : Nat} {ts us : List Int} {ls ms : List (List Int)} : neD2 (wD n ts ls) (wD m us ms) = some (.bl (!sameW n m ts us ls ms)) := by
  unfold neD2
  have e : neD (wD n ts ls) (wD m us ms) = none := by
    unfold neD
    refine (orD_none ?_).trans rfl
    unfold eqvD
    simp [D.py]
  refine (orD_none e).trans ?_
  unfold eqDct
  show (if 3 = 3 then (hitsD _ _).map _ else none) = _
  rw [if_pos rfl, hits3]; rfl
/-! ### looms of drawn parts -/
theorem all_row {n : Nat} {ns : List Int} (h : ∀ i ∈ ns, 0 ≤ i ∧ i < n) : (ns.map D.int).all (numB 0 ((n : Int) - 1)) = true := by
  rw [List.all_eq_true]
  intro d hd
  obtain ⟨i, hi, rfl⟩ := List.mem_map.mp hd
  have := h i hi
  simp only [numB, Bool.and_eq_true, decide_eq_true_eq]
  omega
theorem asc_pair : ∀ {ns : List Int}, ns.Pairwise (· < ·) → ascB ns = true
  | [], _ => rfl
  | [_], _ => rfl
  | x :: y :: ns, h => by
    have h' := List.pairwise_cons.mp h
    have ih := asc_pair h'.2
    unfold ascB at ih ⊢
    show (decide (x < y) && ((y :: ns).zip ((y :: ns).drop 1)).all _) = true
    rw [ih, Bool.and_true]
    exact decide_eq_true (h'.1 y List.mem_cons_self)
theorem lot_good {n : Nat} {l : List Int} (h : LotI n l) : lotB (n : Int) (rowD l) = true := by
  show ((l.map D.int).all (numB 0 ((n : Int) - 1)) && ascB (numsOf (l.map D.int))) = true
  rw [all_row h.2, nums_map, asc_pair h.1]; rfl
theorem lm_good {n : Nat} {ts : List Int} {ls : List (List Int)} (h : Lm n ts ls) : badOf (.int (n : Nat)) (rowD ts) (lotsD ls) = .non := by
  have h1 := h.n1
  have h2 := h.n2
  have c : numB 1 99 (.int (n : Nat)) = true := by simp only [numB, Bool.and_eq_true, decide_eq_true_eq]; omega
  have t : thrB (n : Int) (rowD ts) = true := by
    show (!(ts.map D.int).isEmpty && (ts.map D.int).all (numB 0 ((n : Int) - 1))) = true
    rw [all_row h.t3, List.isEmpty_map]
    have := h.t1
    cases ts with
    | nil => cases this
    | cons _ _ => rfl
  unfold badOf
  rw [if_neg (by rw [c]; simp)]
  show (if thrB (n : Int) (rowD ts) = false then _ else liftsB (n : Int) (lotsD ls)) = _
  rw [if_neg (by rw [t]; simp)]
  unfold liftsB
  have hl : (ls.map rowD).length = ls.length := List.length_map ..
  simp only
  rw [if_pos ⟨by rw [hl]; exact h.l1, by rw [hl]; exact h.l2⟩]
  have : (ls.map rowD).findIdx? (fun d => !lotB (n : Int) d) = none := by
    rw [List.findIdx?_eq_none_iff]
    intro d hd
    obtain ⟨l, hl, rfl⟩ := List.mem_map.mp hd
    rw [lot_good (h.l3 l hl)]; rfl
  rw [this]; rfl
abbrev oD (n : Nat) (ts : List Int) (ls : List (List Int)) : D := loomO (.int (n : Nat)) (rowD ts) (lotsD ls)
/-- the class makes the loom -/
def MakeOk (FI : FnI) : Prop := ∀ n ts ls k, Lm n ts ls → FI [.int (n : Nat), rowD ts, lotsD ls] k = .ok (F5 (.int (n : Nat)) (rowD ts) (lotsD ls) (.str (lettersOf (lotsD ls))) (usedOf (rowD ts))) k
theorem make_ok : MakeOk n_Loom___init__ := fun n ts ls k h => by
  have o := gd_okP (lm_gd h) (by decide)
  have e := init_run (k := k) o (by show (ts.map D.int).length < 64; rw [List.length_map]; have := h.t2; omega)
  rw [lm_good h] at e
  exact e
section
variable {env : List En} {k k1 k2 k3 : DkO} {f fo : Sm D} {l : Sm (List D)} {d : D} {ds : List D}
theorem key_run {kvs : List (Key × D)} {x : Str} (e : f env k = .ok (.dct kvs) k1) (h : findD (.inr x) kvs = some d) : sKey f (sC (.str x)) env k = .ok d k1 := by
  unfold sKey
  exact op_run e rfl h
theorem meth_run {m : Str} {n : Nat} {fn : Fn} {fs : List (Str × D)} (e : fo env k = .ok (.obj "Loom" fs) k1) (h : fs.lookup m = none) (e2 : l env k1 = .ok ds k2) (hn : ds.length + 1 = n) (e3 : fn (.obj "Loom" fs :: ds) k2 = .ok d k3) : sMeth "Loom" m n fn fo l env k = .ok d k3 := by
  rw [sMeth_eq, e, bind_ok]
  show (if "Loom" = "Loom" ∧ fs.lookup m = none then _ else _) = _
  rw [if_pos ⟨rfl, h⟩, e2, bind_ok, if_pos hn, e3]
theorem ordk_run {j : Nat} {ix : List Nat} (e : l env k = .ok ds k1) (h : ds.length = j) : sOrdK j ix l env k = .ok (ordK j ix ds) k1 := by rw [sOrdK_eq, e, bind_ok, if_pos h]
theorem star_run {xs : List D} (e : f env k = .ok (.tup xs) k1) (e2 : l env k1 = .ok ds k2) : lStar f l env k = .ok (xs ++ ds) k2 := by
  rw [lStar_eq, e, bind_ok]
  show (l env k1).bind _ = _
  rw [e2, bind_ok]
end
theorem mk_run {FI : FnI} (M : MakeOk FI) {env : List En} {k k1 : DkO} {l : Sm (List D)} {n : Nat} {ts : List Int} {ls : List (List Int)} (h : Lm n ts ls) (e : l env k = .ok [.int (n : Nat), rowD ts, lotsD ls] k1) : sOfC "Loom" (sC (.cls "Loom")) (sMake "Loom" 3 FI l) env k = .ok (oD n ts ls) k1 :=
  make_run e rfl (M n ts ls k1 h)
theorem let_is : ∀ c : Fin 27, L2.cutS LET none (some ((c.val : Nat) : Int)) = ⟨((List.range c.val).map (97 + ·)).toArray⟩ := by decide +kernel
theorem place_is : ∀ c : Fin 26, Builtin.Str.occurrences LET ⟨#[97 + c.val]⟩ 0 LET.length 1 = [c.val] := by decide +kernel
theorem index_is (c : Fin 26) : indexD LET [.str ⟨#[97 + c.val]⟩] = some (.int ((c.val : Nat) : Int)) := by
  unfold indexD
  simp only [place_is c]
theorem letters_cp {ls : List (List Int)} (h : ls.length ≤ 26) : cp (lettersOf (lotsD ls)) = (List.range ls.length).map (97 + ·) := by
  have e := let_is ⟨ls.length, by omega⟩
  unfold lettersOf
  show cp (L2.cutS LET none (some (((ls.map rowD).length : Nat) : Int))) = _
  rw [List.length_map, e]
theorem letters_len {ls : List (List Int)} (h : ls.length ≤ 26) : (lettersOf (lotsD ls)).length = ls.length := by rw [len_list]; show (cp _).length = _; rw [letters_cp h, List.length_map, List.length_range]
structure Ways (FC FS FG FE FW FR : Fn) : Prop where
  code : ∀ n ts ls k, Lm n ts ls → FC [wD n ts ls] k = .ok (oD n ts ls) k
  signs : ∀ n ts ls k, FS [wD n ts ls] k = .ok (.str (lettersOf (lotsD ls))) k
  lift : ∀ n ts ls i k, i < ls.length → ls.length ≤ 26 → FG [oD n ts ls, .str ⟨#[97 + i]⟩] k = .ok (rowD (ls.getD i [])) k
  eq : ∀ n ts ls m us ms k, FE [oD n ts ls, oD m us ms] k = .ok (.bl (sameW n m ts us ls ms)) k
  other : ∀ n ts ls d k, plain d = true → d.isObj = false → FE [oD n ts ls, d] k = .ok (.bl false) k
  put : ∀ n ts ls i l k, Lm n ts (ls.set i l) → i < ls.length → ls.length ≤ 26 → FW [oD n ts ls, .str ⟨#[97 + i]⟩, rowD l] k = .ok (oD n ts (ls.set i l)) k
  thr : ∀ n ts ls us k, Lm n us ls → FR [oD n ts ls, rowD us] k = .ok (oD n us ls) k
theorem lotsD_ix {ls : List (List Int)} {i : Nat} (h : i < ls.length) : ixD (lotsD ls) (.int (i : Nat)) = some (rowD (ls.getD i [])) := by
  refine L2.atI_nat ?_
  rw [List.getElem?_map, List.getD_eq_getElem?_getD, List.getElem?_eq_getElem h]; rfl
theorem lots_set {ls : List (List Int)} {i : Nat} {l : List Int} (h : i < ls.length) : cutL (ls.map rowD) none (some (i : Int)) ++ (rowD l :: (cutL (ls.map rowD) (some ((i : Int) + 1)) none ++ [])) = (ls.set i l).map rowD := by
  have := cut_put (xs := ls.map rowD) (y := rowD l) (i := i) (by rw [List.length_map]; exact h)
  rw [List.append_nil]
  rw [List.append_assoc] at this
  rw [show rowD l :: cutL (ls.map rowD) (some ((i : Int) + 1)) none = [rowD l] ++ cutL (ls.map rowD) (some ((i : Int) + 1)) none from rfl, this, List.map_set]
theorem ways : Ways n__law_code n__law_signs n_Loom_lift_of n_Loom___eq__ n_Loom_with_lift n_Loom_threaded where
  code n ts ls k h := by
    show endD (g__law_code n_Loom___init__ [.d (wD n ts ls)] k) = _
    have M := make_ok
    generalize n_Loom___init__ = FI at M ⊢
    unfold g__law_code
    rw [ret_run (mk_run M h (l3_run (key_run (v_run rfl) fi1) (key_run (v_run rfl) fi2) (key_run (v_run rfl) fi3)))]; rfl
  signs n ts ls k := by
    show endD (g__law_signs [.d (wD n ts ls)] k) = _
    unfold g__law_signs
    rw [ret_run (sl_run rfl oNone_run (oSome_run (app_run (l1_run (key_run (v_run rfl) fi3)) rfl)) rfl)]; rfl
  lift n ts ls i k hi hl := by
    show endD (g_Loom_lift_of [.d (oD n ts ls), .d (.str ⟨#[97 + i]⟩)] k) = _
    unfold g_Loom_lift_of
    have e : sM1 indexD (sC (.str "abcdefghijklmnopqrstuvwxyz")) (sV 1) [.d (oD n ts ls), .d (.str ⟨#[97 + i]⟩)] k = .ok (.int (i : Nat)) k := m1_run rfl (v_run rfl) (index_is ⟨i, by omega⟩)
    rw [ret_run (ix_run (fld_run (v_run rfl) lk3) e (lotsD_ix hi))]; rfl
  eq n ts ls m us ms k := by
    show endD (g_Loom___eq__ [.d (oD n ts ls), .d (oD m us ms)] k) = _
    unfold g_Loom___eq__
    have e0 : sIsC "Loom" (sV 1) [.d (oD n ts ls), .d (oD m us ms)] k = .ok (.bl true) k := rfl
    have e1 := op_run (k := k) (fld_run (f := sV 0) (env := [.d (oD n ts ls), .d (oD m us ms)]) (v_run rfl) lk1) (fld_run (f := sV 1) (v_run rfl) lk1) eq_int
    have e2 := op_run (k := k) (fld_run (f := sV 0) (env := [.d (oD n ts ls), .d (oD m us ms)]) (v_run rfl) lk2) (fld_run (f := sV 1) (v_run rfl) lk2) (eq_row ts us)
    have e3 := op_run (k := k) (fld_run (f := sV 0) (env := [.d (oD n ts ls), .d (oD m us ms)]) (v_run rfl) lk3) (fld_run (f := sV 1) (v_run rfl) lk3) (eq_lots ls ms)
    refine Eq.trans (congrArg endD (ret_run (d := .bl (sameW n m ts us ls ms)) (k1 := k) ((and_t e0).trans ?_))) rfl
    unfold sameW
    cases h1 : (((n : Nat) : Int) == ((m : Nat) : Int)) with
    | false => rw [h1] at e1; exact and_f e1
    | true =>
      rw [h1] at e1
      refine (and_t e1).trans ?_
      cases h2 : (ts == us) with
      | false => rw [h2] at e2; exact and_f e2
      | true => rw [h2] at e2; exact (and_t e2).trans e3
  other n ts ls d k hp ho := by
    show endD (g_Loom___eq__ [.d (oD n ts ls), .d d] k) = _
    unfold g_Loom___eq__
    have e0 : sIsC "Loom" (sV 1) [.d (oD n ts ls), .d d] k = .ok (.bl false) k := by
      rw [sIsC_eq, v_run (i := 1) rfl, bind_ok]
      cases d <;> first | rfl | (cases hp; done) | (cases ho; done)
    rw [ret_run (and_f e0)]; rfl
  put n ts ls i l k hL hi hl := by
    show endD (g_Loom_with_lift n_Loom___init__ [.d (oD n ts ls), .d (.str ⟨#[97 + i]⟩), .d (rowD l), .no] k) = _
    have M := make_ok
    generalize n_Loom___init__ = FI at M ⊢
    unfold g_Loom_with_lift
    have e : sM1 indexD (sC (.str "abcdefghijklmnopqrstuvwxyz")) (sV 1) [.d (oD n ts ls), .d (.str ⟨#[97 + i]⟩), .d (rowD l), .no] k = .ok (.int (i : Nat)) k := m1_run rfl (v_run rfl) (index_is ⟨i, by omega⟩)
    rw [seq_nx (set_run e)]
    have e2 : sTup (lStar (sSl (sFld ["Loom"] "lifts" (sV 0)) oNone (oSome (sV 3))) (lCons (sV 2) (lStar (sSl (sFld ["Loom"] "lifts" (sV 0)) (oSome (sOp plusD (sV 3) (sC (.int 1)))) oNone) lNil))) [.d (oD n ts ls), .d (.str ⟨#[97 + i]⟩), .d (rowD l), .d (.int (i : Nat))] k = .ok (lotsD (ls.set i l)) k := by
      have a := star_run (k := k) (f := sSl (sFld ["Loom"] "lifts" (sV 0)) oNone (oSome (sV 3))) (env := [.d (oD n ts ls), .d (.str ⟨#[97 + i]⟩), .d (rowD l), .d (.int (i : Nat))]) (l := lCons (sV 2) (lStar (sSl (sFld ["Loom"] "lifts" (sV 0)) (oSome (sOp plusD (sV 3) (sC (.int 1)))) oNone) lNil)) (sl_run (fld_run (v_run rfl) lk3) oNone_run (oSome_run (v_run rfl)) rfl) (lc_run (v_run rfl) (star_run (sl_run (fld_run (v_run rfl) lk3) (oSome_run (op_run (v_run rfl) rfl plus_int)) oNone_run rfl) (l := lNil) rfl))
      rw [lots_set hi] at a
      exact tup_run a (by rw [List.length_map, List.length_set]; omega)
    exact (congrArg endD (ret_run (mk_run M hL (l3_run (fld_run (v_run rfl) lk1) (fld_run (v_run rfl) lk2) e2)))).trans rfl
  thr n ts ls us k hL := by
    show endD (g_Loom_threaded n_Loom___init__ [.d (oD n ts ls), .d (rowD us)] k) = _
    have M := make_ok
    generalize n_Loom___init__ = FI at M ⊢
    unfold g_Loom_threaded
    rw [ret_run (mk_run M hL (l3_run (fld_run (v_run rfl) lk1) (v_run rfl) (fld_run (v_run rfl) lk3)))]; rfl
end C01
set_option Elab.async false
set_option linter.all false
set_option maxRecDepth 100000
set_option maxHeartbeats 4000000
namespace C01
open PySem PySem.Spec L2 DL
/-! ### treadlings -/
theorem over_run {d : D} {sg : Str} (h : okS d) {k : DkO} : n_is_string_over [d, .str sg] k = .ok (.bl (isOver d sg)) k := by
  obtain ⟨hd, hs⟩ := h
  show endD (g_is_string_over [.d d, .d (.str sg), .no] k) = _
  unfold g_is_string_over
  have e1 := isi_run (T := "str") (f := sV 0) (env := [.d d, .d (.str sg), .no]) (k := k) (v_run rfl) hd
  cases d with
  | str z =>
    have hz := hs z rfl
    have hl : (cp z).length ≤ sizeLine := by rw [← len_list]; exact hz.1
    have e : compM (.name 2) sYes (sOp inD (sV 2) (sV 1)) (wipeE [.d (.str z), .d (.str sg), .no] [2]) (signsD z) [] k = .ok ([] ++ ((cp z).filter fun _ => true).map fun c => .bl (memS c sg)) k :=
      compM_map (mk := fun c => .str ⟨#[c]⟩) (pp := fun _ => true) (ff := fun c => .bl (memS c sg)) (cp z) [] (by simpa using hl) (fun c hc => ⟨_, rfl, fun k => ⟨rfl, fun _ => op_run (v_run rfl) (v_run rfl) in_sign⟩⟩) k
    rw [ret_run ((and_t e1).trans (app_run (l1_run (comp_run (iVal_run (v_run rfl) rfl) e)) (pure_run (by rw [List.nil_append, filter_yes]; exact all_map))))]
    rfl
  | _ => first | (cases hd; done) | (rw [ret_run (and_f e1)]; rfl)
def TreadOk (F : Fn) : Prop := ∀ n ts ls d k, okS d → F [oD n ts ls, d] k = .ok (.bl (isOver d (lettersOf (lotsD ls)))) k
theorem tread_ok : TreadOk n_is_treadling := fun n ts ls d k h => by
  show endD (g_is_treadling n_is_string_over [.d (oD n ts ls), .d d] k) = _
  have e := fun (k : DkO) => over_run (sg := lettersOf (lotsD ls)) (k := k) h
  generalize n_is_string_over = FO at e ⊢
  unfold g_is_treadling
  exact (congrArg endD (ret_run (call_run (l2_run (v_run rfl) (fld_run (v_run rfl) lk4)) rfl (e k)))).trans rfl
section
variable {FC FS FG FD FT FW FE FR FK : Fn}
abbrev eqC (FE : Fn) := orOp (pureOp eqD) (ownEq "Loom" FE (fun b => b))
abbrev neC (FE : Fn) := orOp (pureOp neD) (ownEq "Loom" FE (fun b => !b))
theorem eqC_run (W : Ways FC FS FG FE FW FR) {n m : Nat} {ts us : List Int} {ls ms : List (List Int)} {k : DkO} : eqC FE (oD n ts ls) (oD m us ms) k = .ok (.bl (sameW n m ts us ls ms)) k := by
  rw [eqC, orOp_bad (by rw [pureOp_eq, eq_obj]; rfl)]
  exact ownEq_ok (W.eq n ts ls m us ms k) rfl rfl
theorem neC_run (W : Ways FC FS FG FE FW FR) {n m : Nat} {ts us : List Int} {ls ms : List (List Int)} {k : DkO} : neC FE (oD n ts ls) (oD m us ms) k = .ok (.bl (!sameW n m ts us ls ms)) k := by
  rw [neC, orOp_bad (by rw [pureOp_eq, ne_obj]; rfl)]
  exact ownEq_ok (W.eq n ts ls m us ms k) rfl rfl
theorem eqC_other (W : Ways FC FS FG FE FW FR) {n : Nat} {ts : List Int} {ls : List (List Int)} {d : D} {k : DkO} (h : plain d = true) (ho : d.isObj = false) : eqC FE (oD n ts ls) d k = .ok (.bl false) k := by
  rw [eqC, orOp_bad (by rw [pureOp_eq, eq_obj]; rfl)]
  exact ownEq_ok (W.other n ts ls d k h ho) (by cases d <;> first | rfl | cases h) (by cases d <;> first | rfl | cases h)
theorem same_refl {n : Nat} {ts : List Int} {ls : List (List Int)} : sameW n n ts ts ls ls = true := by unfold sameW; simp
theorem same_comm {n m : Nat} {ts us : List Int} {ls ms : List (List Int)} : sameW n m ts us ls ms = sameW m n us ts ms ls := by
  unfold sameW
  rw [Bool.eq_iff_iff]
  simp only [Bool.and_eq_true, beq_iff_eq]
  constructor
  · rintro ⟨h1, h2, h3⟩; exact ⟨h1.symm, h2.symm, h3.symm⟩
  · rintro ⟨h1, h2, h3⟩; exact ⟨h1.symm, h2.symm, h3.symm⟩
theorem range_getD {α : Type} {d : α} : ∀ xs : List α, (List.range xs.length).map (fun i => xs.getD i d) = xs := by
  intro xs
  refine List.ext_getElem? fun i => ?_
  rw [List.getElem?_map]
  by_cases h : i < xs.length
  · rw [List.getElem?_range h, Option.map_some, List.getD_eq_getElem?_getD, List.getElem?_eq_getElem h]; rfl
  · rw [List.getElem?_eq_none (by rw [List.length_range]; omega), List.getElem?_eq_none (by omega)]; rfl
theorem Lm.put {n : Nat} {ts : List Int} {ls : List (List Int)} {i : Nat} {l : List Int} (h : Lm n ts ls) (hl : LotI n l) : Lm n ts (ls.set i l) :=
  ⟨h.n1, h.n2, h.t1, h.t2, h.t3, by rw [List.length_set]; exact h.l1, by rw [List.length_set]; exact h.l2, fun x hx => (List.mem_or_eq_of_mem_set hx).elim (h.l3 x) fun e => by rw [e]; exact hl⟩
theorem items_w {n : Nat} {ts : List Int} {ls : List (List Int)} : itemsD (wD n ts ls) = some [.tup [.str "count", .int (n : Nat)], .tup [.str "thread", rowD ts], .tup [.str "lots", lotsD ls]] := by
  unfold itemsD
  simp only
  have h : (keyFit (.inr "count") && (keyFit (.inr "thread") && (keyFit (.inr "lots") && true))) = true := by decide +kernel
  exact if_pos h
theorem dict_lots {a b c x : D} : dictD [.lst ([.tup [.str "count", a], .tup [.str "thread", b], .tup [.str "lots", c]] ++ [.tup [.str "lots", x]])] = some (.dct [(.inr "count", a), (.inr "thread", b), (.inr "lots", x)]) := by rfl
theorem dict_thr {a b c x : D} : dictD [.lst ([.tup [.str "count", a], .tup [.str "thread", b], .tup [.str "lots", c]] ++ [.tup [.str "thread", x]])] = some (.dct [(.inr "count", a), (.inr "thread", x), (.inr "lots", c)]) := by rfl
theorem items_run {env : List En} {k : DkO} {f : Sm D} {n : Nat} {ts : List Int} {ls : List (List Int)} (e : f env k = .ok (wD n ts ls) k) : sFrz (DL.iItems f) env k = .ok (.lst [.tup [.str "count", .int (n : Nat)], .tup [.str "thread", rowD ts], .tup [.str "lots", lotsD ls]]) k := by
  refine frz_run ?_
  unfold DL.iItems
  rw [e, bind_ok, items_w]; rfl
theorem two_no {env : List En} {k : DkO} {p : Sm Bool} {i : Nat} {a : D} {its : Sm D} (e : iVal its env k = .ok [a, a] k) (h : ∀ k, p ((wipeE env [i]).set i (.d a)) k = .ok false k) : sB (sOp neN (sFrz (sComp (.name i) [i] p (sV i) (iVal its))) (sLst lNil)) env k = .ok false k := by
  have eC : ∀ k, compM (.name i) p (sV i) (wipeE env [i]) [a, a] [] k = .ok ([] ++ (([a, a] : List D).filter fun _ => false).map fun d => d) k :=
    compM_eq (pp := fun _ => false) (ff := fun d => d) _ [] (Nat.le_of_lt (small1000 (by show 0 + 2 ≤ 1000; omega))) fun d hd => ⟨_, rfl, fun k => ⟨by
      have : d = a := by simpa using hd
      rw [this]; exact h k, fun z => nomatch z⟩⟩
  exact b_run (op_run (comp_run e (eC k)) (lst_run (l := lNil) rfl (by decide)) ne_nilL)
/-! what is asked of treadlings -/
def some1 (S : Str) (c : Nat) (o : D) : List D := [.non, .int 0, .str "", .str S, .str (mulS (revS S) 3), .str (S ++ "A"), .str "a ", .str "{", .tup [.str "a"], .lst [.str "a"], .str (mulS ⟨#[97 + (c - 1)]⟩ 60), .bl true, o]
def some2 (c : Nat) : List D := [.str ⟨#[97 + c]⟩, .str "a\n"]

theorem okS_of {z : Str} (h : SOk z) : okS (.str z) := ⟨rfl, fun y e => by cases e; exact h⟩
theorem okS_no {d : D} (h : plain d = true) (h2 : ∀ z, d ≠ .str z) : okS d := ⟨h, fun z e => absurd e (h2 z)⟩
theorem last_is : ∀ c : Fin 26, atI ((List.range (c.val + 1)).map (97 + ·)) (-1) = some (97 + (c.val + 1 - 1)) := by decide +kernel
theorem more_is : ∀ c : Fin 27, atI (cp ("abcdefghijklmnopqrstuvwxyz{" : Str)) ((c.val : Nat) : Int) = some (97 + c.val) := by decide +kernel
theorem one_ok {c : Nat} (h : c < 1000) : SOk ⟨#[c]⟩ := by
  refine ⟨by show 1 ≤ sizeLine; decide, ?_⟩
  unfold PyData.strOk
  rw [Array.all_eq_true']
  intro d hd
  have e : d = c := by simpa using hd
  subst e
  exact decide_eq_true (by omega)
theorem app_ok {x y : Str} (h : SOk x) (h2 : SOk y) (hl : x.length + y.length ≤ 1000) : SOk (x ++ y) := by
  refine ⟨?_, strOk_app h.2 h2.2⟩
  rw [Str.length_append]
  have := sizeLine_eq
  omega
theorem some1_ok {ls : List (List Int)} {n : Nat} {ts : List Int} (h1 : 1 ≤ ls.length) (h : ls.length ≤ 26) : ∀ d ∈ some1 (lettersOf (lotsD ls)) ls.length (oD n ts ls), okS d := by
  obtain ⟨l1, l2⟩ := let_asc (l := lotsD ls)
  have sz := sizeLine_eq
  have hr := rev_ok l2
  have hrl : (revS (lettersOf (lotsD ls))).length = (lettersOf (lotsD ls)).length := by
    have : (revS (lettersOf (lotsD ls))).length = (cp (lettersOf (lotsD ls))).reverse.length := by rw [len_list]; rfl
    rw [this, List.length_reverse, ← len_list]
  intro d hd
  unfold some1 at hd
  simp only [List.mem_cons, List.mem_nil_iff, or_false] at hd
  rcases hd with rfl | rfl | rfl | rfl | rfl | rfl | rfl | rfl | rfl | rfl | rfl | rfl | rfl
  · exact okS_no rfl fun _ z => nomatch z
  · exact okS_no rfl fun _ z => nomatch z
  · exact okS_of ⟨by decide +kernel, by decide +kernel⟩
  · exact okS_of l2
  · exact okS_of (mulS_ok hr (by rw [hrl]; omega))
  · exact okS_of (app_ok l2 ⟨by decide +kernel, by decide +kernel⟩ (by have : ("A" : Str).length = 1 := rfl; omega))
  · exact okS_of ⟨by decide +kernel, by decide +kernel⟩
  · exact okS_of ⟨by decide +kernel, by decide +kernel⟩
  · exact okS_no rfl fun _ z => nomatch z
  · exact okS_no rfl fun _ z => nomatch z
  · exact okS_of (mulS_ok (one_ok (by omega)) (by show 60 * 1 ≤ _; omega))
  · exact okS_no rfl fun _ z => nomatch z
  · exact okS_no rfl fun _ z => nomatch z
theorem some2_ok {c : Nat} (h : c ≤ 26) : ∀ d ∈ some2 c, okS d := by
  intro d hd
  unfold some2 at hd
  simp only [List.mem_cons, List.mem_nil_iff, or_false] at hd
  rcases hd with rfl | rfl
  · exact okS_of (one_ok (by omega))
  · exact okS_of ⟨by decide +kernel, by decide +kernel⟩
abbrev dueS : Sm D := (sAnd (sIsi "str" (sV 12)) (sOp eqN (sFrz (sComp (.name 15) [15] (sB (sOp notInD (sV 15) (sV 3))) (sV 15) (iVal (sV 12)))) (sLst lNil)))
theorem due_run {d : D} {S : Str} {k : DkO} {e0 e1 e2 e4 e5 e6 e7 e8 e9 e10 e11 e13 e14 e15 : En} (h : okS d) : dueS [e0, e1, e2, .d (.str S), e4, e5, e6, e7, e8, e9, e10, e11, .d d, e13, e14, e15] k = .ok (.bl (isOver d S)) k := by
  obtain ⟨hd, hs⟩ := h
  have a := isi_run (T := "str") (f := sV 12) (env := [e0, e1, e2, .d (.str S), e4, e5, e6, e7, e8, e9, e10, e11, .d d, e13, e14, e15]) (k := k) (v_run rfl) hd
  cases d with
  | str z =>
    have hz := hs z rfl
    have hl : (cp z).length ≤ sizeLine := by rw [← len_list]; exact hz.1
    have e : compM (.name 15) (sB (sOp notInD (sV 15) (sV 3))) (sV 15) (wipeE [e0, e1, e2, .d (.str S), e4, e5, e6, e7, e8, e9, e10, e11, .d (.str z), e13, e14, e15] [15]) (signsD z) [] k = .ok ([] ++ ((cp z).filter fun c => !memS c S).map fun c => .str ⟨#[c]⟩) k :=
      compM_map (mk := fun c => .str ⟨#[c]⟩) (pp := fun c => !memS c S) (ff := fun c => .str ⟨#[c]⟩) (cp z) [] (by simpa using hl) (fun c hc => ⟨_, rfl, fun k => ⟨b_run (op_run (v_run rfl) (v_run rfl) notIn_sign), fun _ => v_run rfl⟩⟩) k
    refine (and_t a).trans ((op_run (comp_run (iVal_run (v_run rfl) rfl) e) (lst_run (l := lNil) rfl (by decide)) eq_nilL).trans ?_)
    rw [List.nil_append, List.isEmpty_map, filt_empty]; rfl
  | _ => first | (cases hd; done) | (exact and_f a)
theorem bls_gd (xs : List Bool) : GdL (12 * xs.length) 0 0 (xs.map D.bl) := by
  induction xs with
  | nil => exact GdL.nil
  | cons x xs ih => exact (GdL.cons (Gd.bl (n := 10) (h := 0) (m := 0) (b := x) (Nat.le_refl _)) ih).mono (by rw [List.length_cons]; omega) (Nat.le_refl _) (Nat.le_refl _)
theorem S_ix {ls : List (List Int)} {i : Nat} (h : ls.length ≤ 26) (hi : i < ls.length) : ixD (.str (lettersOf (lotsD ls))) (.int (i : Nat)) = some (.str ⟨#[97 + i]⟩) := by
  show (atI (cp (lettersOf (lotsD ls))) (i : Int)).map _ = _
  rw [letters_cp h, L2.atI_nat (j := i) (v := 97 + i) (by rw [List.getElem?_map, List.getElem?_range hi]; rfl)]; rfl
theorem S_last {ls : List (List Int)} (h1 : 1 ≤ ls.length) (h : ls.length ≤ 26) : ixD (.str (lettersOf (lotsD ls))) (.int (-1)) = some (.str ⟨#[97 + (ls.length - 1)]⟩) := by
  show (atI (cp (lettersOf (lotsD ls))) (-1)).map _ = _
  have e := last_is ⟨ls.length - 1, by omega⟩
  have e2 : ls.length - 1 + 1 = ls.length := by omega
  simp only [e2] at e
  rw [letters_cp h, e]; rfl
abbrev envW (n : Nat) (ts : List Int) (ls : List (List Int)) (e5 e6 e7 e9 e10 e11 e13 e14 : En) : List En := [.d .dk, .d (wD n ts ls), .d (oD n ts ls), .d (.str (lettersOf (lotsD ls))), .no, e5, e6, e7, .no, e9, e10, e11, .no, e13, e14, .no]
theorem some1_run {n : Nat} {ts : List Int} {ls : List (List Int)} {e5 e6 e7 e9 e10 e11 e13 e14 : En} {k : DkO} (h1 : 1 ≤ ls.length) (h : ls.length ≤ 26) :
    sLst (lCons (sC .non) (lCons (sC (.int 0)) (lCons (sC (.str "")) (lCons (sV 3) (lCons (sOp timesD (sRev (sV 3)) (sC (.int 3))) (lCons (sOp plusD (sV 3) (sC (.str "A"))) (lCons (sC (.str "a ")) (lCons (sC (.str "{")) (lCons (sTup (lCons (sC (.str "a")) lNil)) (lCons (sLst (lCons (sC (.str "a")) lNil)) (lCons (sOp timesD (sIx (sV 3) (sNeg (sC (.int 1)))) (sC (.int 60))) (lCons (sC (.bl true)) (lCons (sV 2) lNil))))))))))))) (envW n ts ls e5 e6 e7 e9 e10 e11 e13 e14) k = .ok (.lst (some1 (lettersOf (lotsD ls)) ls.length (oD n ts ls))) k := by
  obtain ⟨l1, l2⟩ := let_asc (l := lotsD ls)
  have hrl : (revS (lettersOf (lotsD ls))).length = (lettersOf (lotsD ls)).length := by
    have : (revS (lettersOf (lotsD ls))).length = (cp (lettersOf (lotsD ls))).reverse.length := by rw [len_list]; rfl
    rw [this, List.length_reverse, ← len_list]
  have hA : ("A" : Str).length = 1 := rfl
  have t3 := times_str (x := revS (lettersOf (lotsD ls))) (n := 3) (by omega) (by omega)
  have t60 := times_str (x := ⟨#[97 + (ls.length - 1)]⟩) (n := 60) (by show 1 ≤ 1000; omega) (by omega)
  exact lst_run (lc_run rfl (lc_run rfl (lc_run rfl (lc_run (v_run rfl) (lc_run (op_run (rev_run (v_run rfl) rfl) rfl t3) (lc_run (op_run (v_run rfl) rfl (plus_str (by omega))) (lc_run rfl (lc_run rfl (lc_run (tup_run (l1_run rfl) (by show 1 ≤ 1000; omega)) (lc_run (lst_run (l1_run rfl) (by show 1 ≤ 1000; omega)) (l3_run (op_run (ix_run (v_run rfl) rfl (S_last h1 h)) rfl t60) rfl (v_run rfl)))))))))))) (by show 13 ≤ 1000; omega)
theorem eq5 {W0 : Ways FC FS FG FE FW FR} {n : Nat} {ts : List Int} {ls : List (List Int)} {e5 e6 e7 e9 e10 e11 e13 e14 : En} {k : DkO} :
    sOp eqN (sFrz (sComp (.name 12) [12] (sB (sOpO (eqC FE) (sV 2) (sV 12))) (sV 12) (iVal (sLst (lCons (sC .non) (lCons (sC (.int 0)) (lCons (sKey (sV 1) (sC (.str "lots"))) (lCons (sTup (lCons (sKey (sV 1) (sC (.str "count"))) (lCons (sKey (sV 1) (sC (.str "thread"))) (lCons (sKey (sV 1) (sC (.str "lots"))) lNil)))) (lCons (sLst (lCons (sV 2) lNil)) lNil))))))))) (sLst lNil) (envW n ts ls e5 e6 e7 e9 e10 e11 e13 e14) k = .ok (.bl true) k := by
  have e1 : sLst (lCons (sC .non) (lCons (sC (.int 0)) (lCons (sKey (sV 1) (sC (.str "lots"))) (lCons (sTup (lCons (sKey (sV 1) (sC (.str "count"))) (lCons (sKey (sV 1) (sC (.str "thread"))) (lCons (sKey (sV 1) (sC (.str "lots"))) lNil)))) (lCons (sLst (lCons (sV 2) lNil)) lNil))))) (envW n ts ls e5 e6 e7 e9 e10 e11 e13 e14) k = .ok (.lst [.non, .int 0, lotsD ls, .tup [.int (n : Nat), rowD ts, lotsD ls], .lst [oD n ts ls]]) k :=
    lst_run (lc_run rfl (lc_run rfl (l3_run (key_run (v_run rfl) fi3) (tup_run (l3_run (key_run (v_run rfl) fi1) (key_run (v_run rfl) fi2) (key_run (v_run rfl) fi3)) (by show 3 ≤ 1000; omega)) (lst_run (l1_run (v_run rfl)) (by show 1 ≤ 1000; omega))))) (by show 5 ≤ 1000; omega)
  have eC : ∀ k, compM (.name 12) (sB (sOpO (eqC FE) (sV 2) (sV 12))) (sV 12) (wipeE (envW n ts ls e5 e6 e7 e9 e10 e11 e13 e14) [12]) [.non, .int 0, lotsD ls, .tup [.int (n : Nat), rowD ts, lotsD ls], .lst [oD n ts ls]] [] k = .ok ([] ++ (([.non, .int 0, lotsD ls, .tup [.int (n : Nat), rowD ts, lotsD ls], .lst [oD n ts ls]] : List D).filter fun _ => false).map fun d => d) k :=
    compM_eq (pp := fun _ => false) (ff := fun d => d) _ [] (Nat.le_of_lt (small1000 (by show 0 + 5 ≤ 1000; omega))) fun d hd => ⟨_, rfl, fun k => ⟨b_run (opO_run (v_run rfl) (v_run rfl) (by
      simp only [List.mem_cons, List.mem_nil_iff, or_false] at hd
      rcases hd with rfl | rfl | rfl | rfl | rfl <;> exact eqC_other W0 rfl rfl)), fun z => nomatch z⟩⟩
  exact op_run (comp_run (iVal_run e1 rfl) (eC k)) (lst_run (l := lNil) rfl (by decide)) eq_nilL
end
end C01
set_option Elab.async false
set_option linter.all false
set_option maxRecDepth 100000
set_option maxHeartbeats 4000000
namespace C01
open PySem PySem.Spec L2 DL
section
variable {FC FS FG FD FT FW FE FR FK : Fn}
theorem repr_gd {d : D} {n h m : Nat} (a : Gd n h m d) (hn : n ≤ 10000000) (hh : h ≤ 60) (hm : m ≤ 10 ^ 60) : ∃ p, reprD [d] = some (.shw p) := by
  obtain ⟨p, e, _⟩ := repr_of (a.ok hn hm) (by have := a.w; have := sizeLine_eq; omega) (Nat.le_trans a.h hh)
  exact ⟨p, e⟩
theorem rep_ne {env : List En} {k : DkO} {f h : Sm D} {d : D} {p : PyData} (e1 : f env k = .ok d k) (e2 : h env k = .ok d k) (e : reprD [d] = some (.shw p)) : sB (sOp neD (sApp (pureO reprD) (lCons f lNil)) (sApp (pureO reprD) (lCons h lNil))) env k = .ok false k :=
  b_run (op_run (app_run (l1_run e1) (pure_run e)) (app_run (l1_run e2) (pure_run e)) ne_shw)
theorem bl_ne {env : List En} {k : DkO} {f h : Sm D} {a b : Bool} (e1 : f env k = .ok (.bl a) k) (e2 : h env k = .ok (.bl b) k) (e : a = b) : sB (sOp neD f h) env k = .ok false k := by
  subst e
  refine (b_run (op_run e1 e2 ne_bl)).trans ?_
  simp
theorem others_run (W : Ways FC FS FG FE FW FR) (hK : TreadOk FK) (hD : DrawOk FD) (hT : PartOk FT) {n : Nat} {ts : List Int} {ls : List (List Int)} {k : Dk} {N : Nat} (h : Lm n ts ls) (hb : Bud k (N + 1000)) :
    ∃ d k', fnD 16 (g__law_others_right FC FS FG FD FT FW FE FR FK) [.dk, wD n ts ls] (some k) = .ok d (some k') ∧ d = .bl true ∧ Bud k' N := by
  refine Rt.fn (Q := fun d k' => d = .bl true ∧ Bud k' N) ?_
  show Rt (g__law_others_right FC FS FG FD FT FW FE FR FK [.d .dk, .d (wD n ts ls), .no, .no, .no, .no, .no, .no, .no, .no, .no, .no, .no, .no, .no, .no] (some k)) _
  have sz := sizeLine_eq
  have h1 := h.l1
  have h2 := h.l2
  have n1 := h.n1
  have n2 := h.n2
  obtain ⟨s1, s2⟩ := let_asc (l := lotsD ls)
  have sl := letters_len (ls := ls) h2
  unfold g__law_others_right
  refine Rt.seq (par2_run (mD_run (call_run (l1_run (v_run rfl)) rfl (W.code n ts ls _ h)) (mD_run (call_run (l1_run (v_run rfl)) rfl (W.signs n ts ls _)) rfl))) ?_
  -- the lifts of the letters
  have gl := lots_gd h.l3 n2
  obtain ⟨p, hp⟩ := repr_gd gl.lst (by omega) (by omega) (by decide +kernel)
  have eL : ∀ k, sFrz (sComp (.name 4) [4] sYes (sMeth "Loom" "lift_of" 2 FG (sV 2) (lCons (sV 4) lNil)) (iVal (sV 3))) (envW n ts ls .no .no .no .no .no .no .no .no) k = .ok (.lst (ls.map rowD)) k := fun k => by
    have e : compM (.name 4) sYes (sMeth "Loom" "lift_of" 2 FG (sV 2) (lCons (sV 4) lNil)) (wipeE (envW n ts ls .no .no .no .no .no .no .no .no) [4]) ((List.range ls.length).map fun i => .str ⟨#[97 + i]⟩) [] k = .ok ([] ++ ((List.range ls.length).filter fun _ => true).map fun i => rowD (ls.getD i [])) k :=
      compM_map (mk := fun i => .str ⟨#[97 + i]⟩) (pp := fun _ => true) (ff := fun i => rowD (ls.getD i [])) (List.range ls.length) [] (by rw [List.length_range]; show 0 + ls.length ≤ _; omega) (fun i hi => ⟨_, rfl, fun k => ⟨rfl, fun _ => meth_run (v_run rfl) rfl (l1_run (v_run (x := .str ⟨#[97 + i]⟩) rfl)) rfl (W.lift n ts ls i k (List.mem_range.mp hi) h2)⟩⟩) k
    have e2 : iVal (sV 3) (envW n ts ls .no .no .no .no .no .no .no .no) k = .ok ((List.range ls.length).map fun i => .str ⟨#[97 + i]⟩) k := by
      refine iVal_run (v_run rfl) ?_
      show some (signsD _) = _
      show some ((cp (lettersOf (lotsD ls))).map fun c => D.str ⟨#[c]⟩) = _
      rw [letters_cp h2, List.map_map]; rfl
    rw [comp_run e2 e, List.nil_append, filter_yes]
    have : (List.range ls.length).map (fun i => rowD (ls.getD i [])) = ls.map rowD := by
      have e3 : ((List.range ls.length).map fun i => ls.getD i []).map rowD = ls.map rowD := by rw [range_getD]
      rw [List.map_map] at e3
      exact e3
    rw [this]
  refine Rt.seq (if_skip (rep_ne (eL _) (frz_run (iVal_run (key_run (v_run rfl) fi3) rfl)) hp)) ?_
  -- the first one, by name
  have eA : sMeth "Loom" "lift_of" 2 FG (sV 2) (sOrdK 1 [0] (lCons (sC (.str "a")) lNil)) (envW n ts ls .no .no .no .no .no .no .no .no) (some k) = .ok (rowD (ls.getD 0 [])) (some k) :=
    meth_run (v_run rfl) rfl (ordk_run (l1_run rfl) rfl) rfl (W.lift n ts ls 0 _ h1 h2)
  have eA2 := b_run (op_run eA (ix_run (f := sKey (sV 1) (sC (.str "lots"))) (h := sC (.int 0)) (key_run (v_run rfl) fi3) rfl (lotsD_ix (i := 0) h1)) (ne_row (ls.getD 0 []) (ls.getD 0 [])))
  rw [beq_self_eq_true] at eA2
  refine Rt.seq (if_skip eA2) ?_
  -- a lift, a threading
  obtain ⟨at_, k1, e1, ha, hb1⟩ := draw_e (n := N + 900) hD (env := envW n ts ls .no .no .no .no .no .no .no .no) (f := sApp (pureO lenD) (lCons (sV 3) lNil)) (b := (ls.length : Nat)) rfl (app_run (l1_run (v_run rfl)) (pure_run (by show some (D.int ((lettersOf (lotsD ls)).length : Nat)) = _; rw [sl]))) (bOk_of (by omega) (by omega)) (hb.mono (by omega))
  have ha' : at_ < ls.length := by omega
  obtain ⟨lot, k2, e2, hs2, hb2⟩ := hT n 2 k1 (N + 800) (by omega) (by decide) (hb1.mono (by omega))
  have hlot := lot_sub hs2
  refine Rt.seq (par2_run (mD_run e1 (mD_run (call_run (l3_run (v_run rfl) (lr_run (key_run (v_run rfl) fi1) (by omega)) rfl) rfl e2) rfl))) ?_
  obtain ⟨m, k3, e3, hm, hb3⟩ := draw_e (n := N + 700) hD (env := envW n ts ls (.d (.int (at_ : Nat))) (.d (rowD lot)) .no .no .no .no .no .no) (f := sC (.int 9)) (b := 9) rfl rfl (by decide) (hb2.mono (by omega))
  obtain ⟨ys, k4, e4, hl4, hy4, hb4⟩ := compM_run (t := .name 8) (f := sCall 2 FD (lCons (sV 0) (lCons (sKey (sV 1) (sC (.str "count"))) lNil))) (env0 := wipeE (envW n ts ls (.d (.int (at_ : Nat))) (.d (rowD lot)) .no .no .no .no .no .no) [8]) (mk := fun (i : Nat) => .int (i : Nat)) (P := fun _ y => ∃ i : Int, y = .int i ∧ (0 ≤ i ∧ i < n)) (c := 1) (List.range (1 + m)) [] k3 N (by rw [List.length_range]; show 0 + (1 + m) ≤ _; omega) (by rw [List.length_range]; exact hb3.mono (by omega)) fun b _ => ⟨_, rfl, fun k q hb => by
    obtain ⟨r, k', e, hr, hb'⟩ := draw_e hD (env := (wipeE (envW n ts ls (.d (.int (at_ : Nat))) (.d (rowD lot)) .no .no .no .no .no .no) [8]).set 8 (.d (.int (b : Nat)))) (f := sKey (sV 1) (sC (.str "count"))) (b := (n : Nat)) rfl (key_run (v_run rfl) fi1) (bOk_of (by omega) (by omega)) hb
    exact ⟨_, k', e, ⟨r, rfl, by omega, hr⟩, hb'⟩⟩
  obtain ⟨us, rfl, hu, hlu⟩ := ints_of (P := fun i => 0 ≤ i ∧ i < n) fun y hy => (hy4 y hy).elim fun _ z => z.2
  rw [List.length_range] at hl4
  have r4 : iRange1 (sOp plusD (sC (.int 1)) (sCall 2 FD (lCons (sV 0) (lCons (sC (.int 9)) lNil)))) (envW n ts ls (.d (.int (at_ : Nat))) (.d (rowD lot)) .no .no .no .no .no .no) (some k2) = .ok ((List.range (1 + m)).map fun (i : Nat) => .int (i : Nat)) (some k3) := range1_run (op_run rfl e3 (by rw [plus_int]; congr 2)) (by omega)
  refine Rt.seq (set_run (app_run (op := pureO tupleD) (l1_run (comp_run r4 e4)) rfl)) ?_
  rw [List.nil_append]
  have hput := h.put (i := at_) hlot
  have hthr : Lm n us ls := ⟨n1, n2, by omega, by omega, hu, h1, h2, h.l3⟩
  generalize hκ : some k4 = κ
  -- the parts put otherwise
  have eX : sOp plusD (sOp plusD (sSl (sKey (sV 1) (sC (.str "lots"))) oNone (oSome (sV 5))) (sTup (lCons (sV 6) lNil))) (sSl (sKey (sV 1) (sC (.str "lots"))) (oSome (sOp plusD (sV 5) (sC (.int 1)))) oNone) (envW n ts ls (.d (.int (at_ : Nat))) (.d (rowD lot)) (.d (rowD us)) .no .no .no .no .no) κ = .ok (lotsD (ls.set at_ lot)) κ := by
    have cl : ∀ lo hi, (cutL (ls.map rowD) lo hi).length ≤ 26 := fun lo hi => by unfold cutL; rw [List.length_take, List.length_drop, List.length_map]; omega
    have c1 := cl none (some (at_ : Int))
    have c2 := cl (some ((at_ : Int) + 1)) none
    refine op_run (op_run (sl_run (key_run (v_run rfl) fi3) oNone_run (oSome_run (v_run rfl)) rfl) (tup_run (l1_run (v_run rfl)) (by show 1 ≤ 1000; omega)) (plus_tup (by rw [List.length_singleton]; omega))) (sl_run (key_run (v_run rfl) fi3) (oSome_run (op_run (v_run rfl) rfl plus_int)) oNone_run rfl) ?_
    rw [plus_tup (by rw [List.length_append, List.length_singleton]; omega), cut_put (by rw [List.length_map]; exact ha'), ← List.map_set]
  refine Rt.seq (set_run (app_run (l1_run (op_run (items_run (v_run rfl)) (lst_run (l1_run (tup_run (l2_run rfl eX) (by show 2 ≤ 1000; omega))) (by show 1 ≤ 1000; omega)) (plus_lst (by show 3 + 1 ≤ 1000; omega)))) (pure_run dict_lots))) ?_
  refine Rt.seq (set_run (app_run (l1_run (op_run (items_run (v_run rfl)) (lst_run (l1_run (tup_run (l2_run rfl (v_run rfl)) (by show 2 ≤ 1000; omega))) (by show 1 ≤ 1000; omega)) (plus_lst (by show 3 + 1 ≤ 1000; omega)))) (pure_run dict_thr))) ?_
  -- another lift
  have eW1 := W.put n ts ls at_ lot κ hput ha' h2
  have ix := S_ix h2 ha'
  refine Rt.seq (set_run (lst_run (l2_run (meth_run (v_run rfl) rfl (l2_run (ix_run (v_run rfl) (v_run rfl) ix) (v_run rfl)) rfl eW1) (meth_run (v_run rfl) rfl (ordk_run (l2_run (v_run rfl) (ix_run (v_run rfl) (v_run rfl) ix)) rfl) rfl eW1)) (by show 2 ≤ 1000; omega))) ?_
  have q1 : ∀ e13 e14 k, sOrB (sB (sOp neN (sFrz (sComp (.name 12) [12] (sNotB (sB (sOpO (eqC FE) (sV 12) (sCall 1 FC (lCons (sV 9) lNil))))) (sV 12) (iVal (sV 11)))) (sLst lNil))) (sB (sOp neD (sOpO (eqC FE) (sV 2) (sIx (sV 11) (sC (.int 0)))) (sOp eqD2 (sV 9) (sV 1)))) (envW n ts ls (.d (.int (at_ : Nat))) (.d (rowD lot)) (.d (rowD us)) (.d (wD n ts (ls.set at_ lot))) (.d (wD n us ls)) (.d (.lst [oD n ts (ls.set at_ lot), oD n ts (ls.set at_ lot)])) e13 e14) k = .ok false k := fun e13 e14 k =>
    (orB_f (two_no (iVal_run (v_run rfl) rfl) fun k => (notB_run (b_run (opO_run (v_run rfl) (call_run (l1_run (v_run rfl)) rfl (W.code n ts _ k hput)) (eqC_run W)))).trans (by rw [same_refl]; rfl))).trans
    (bl_ne (opO_run (v_run rfl) (ix_run (v_run rfl) rfl (L2.atI_nat (j := 0) rfl)) (eqC_run W)) (op_run (v_run rfl) (v_run rfl) eq_w) same_comm)
  refine Rt.seq (if_skip (q1 _ _ _)) ?_
  -- another threading
  have eR1 := W.thr n ts ls us κ hthr
  refine Rt.seq (set_run (lst_run (l2_run (meth_run (v_run rfl) rfl (l1_run (v_run rfl)) rfl eR1) (meth_run (v_run rfl) rfl (ordk_run (l1_run (v_run rfl)) rfl) rfl eR1)) (by show 2 ≤ 1000; omega))) ?_
  have q2 : ∀ e13 e14 k, sOrB (sB (sOp neN (sFrz (sComp (.name 12) [12] (sNotB (sB (sOpO (eqC FE) (sV 12) (sCall 1 FC (lCons (sV 10) lNil))))) (sV 12) (iVal (sV 11)))) (sLst lNil))) (sB (sOp neD (sOpO (neC FE) (sV 2) (sIx (sV 11) (sC (.int 0)))) (sOp neD2 (sV 10) (sV 1)))) (envW n ts ls (.d (.int (at_ : Nat))) (.d (rowD lot)) (.d (rowD us)) (.d (wD n ts (ls.set at_ lot))) (.d (wD n us ls)) (.d (.lst [oD n us ls, oD n us ls])) e13 e14) k = .ok false k := fun e13 e14 k =>
    (orB_f (two_no (iVal_run (v_run rfl) rfl) fun k => (notB_run (b_run (opO_run (v_run rfl) (call_run (l1_run (v_run rfl)) rfl (W.code n us ls k hthr)) (eqC_run W)))).trans (by rw [same_refl]; rfl))).trans
    (bl_ne (opO_run (v_run rfl) (ix_run (v_run rfl) rfl (L2.atI_nat (j := 0) rfl)) (neC_run W)) (op_run (v_run rfl) (v_run rfl) ne_w) (by rw [same_comm]))
  refine Rt.seq (if_skip (q2 _ _ _)) ?_
  -- treadlings
  refine Rt.seq (set_run (some1_run h1 h2)) ?_
  have e26 : ixD (.str "abcdefghijklmnopqrstuvwxyz{") (.int (ls.length : Nat)) = some (.str ⟨#[97 + ls.length]⟩) := by
    show (atI (cp ("abcdefghijklmnopqrstuvwxyz{" : Str)) ((ls.length : Nat) : Int)).map _ = _
    rw [more_is ⟨ls.length, by omega⟩]; rfl
  refine Rt.seq (set_run (op_run (v_run rfl) (lst_run (l2_run (ix_run rfl (app_run (l1_run (v_run rfl)) (pure_run (by show some (D.int ((lettersOf (lotsD ls)).length : Nat)) = _; rw [sl]))) e26) rfl) (by show 2 ≤ 1000; omega)) (plus_lst (by show 13 + 2 ≤ 1000; omega)))) ?_
  have all : ∀ d ∈ some1 (lettersOf (lotsD ls)) ls.length (oD n ts ls) ++ some2 ls.length, okS d := fun d hd => (List.mem_append.mp hd).elim (some1_ok h1 h2 d) (some2_ok h2 d)
  have len : (some1 (lettersOf (lotsD ls)) ls.length (oD n ts ls) ++ some2 ls.length).length = 15 := rfl
  generalize hS : some1 (lettersOf (lotsD ls)) ls.length (oD n ts ls) ++ some2 ls.length = S at all len
  have hS2 : some1 (lettersOf (lotsD ls)) ls.length (oD n ts ls) ++ [.str ⟨#[97 + ls.length]⟩, .str "a\n"] = S := hS
  rw [hS2]
  have eD : ∀ e11 e14 k, compM (.name 12) sYes dueS (wipeE (envW n ts ls (.d (.int (at_ : Nat))) (.d (rowD lot)) (.d (rowD us)) (.d (wD n ts (ls.set at_ lot))) (.d (wD n us ls)) e11 (.d (.lst S)) e14) [12]) S [] k = .ok ([] ++ (S.filter fun _ => true).map fun d => .bl (isOver d (lettersOf (lotsD ls)))) k := fun e11 e14 k =>
    compM_eq (pp := fun _ => true) (ff := fun d => .bl (isOver d (lettersOf (lotsD ls)))) S [] (by rw [len]; show 0 + 15 ≤ _; omega) (fun d hd => ⟨_, rfl, fun k => ⟨rfl, fun _ => due_run (all d hd)⟩⟩) k
  refine Rt.seq (set_run (comp_run (iVal_run (v_run rfl) rfl) (eD _ _ _))) ?_
  rw [List.nil_append, filter_yes]
  have eK : ∀ e11 e14 k, compM (.name 12) sYes (sCall 2 FK (lCons (sV 2) (lCons (sV 12) lNil))) (wipeE (envW n ts ls (.d (.int (at_ : Nat))) (.d (rowD lot)) (.d (rowD us)) (.d (wD n ts (ls.set at_ lot))) (.d (wD n us ls)) e11 (.d (.lst S)) e14) [12]) S [] k = .ok ([] ++ (S.filter fun _ => true).map fun d => .bl (isOver d (lettersOf (lotsD ls)))) k := fun e11 e14 k =>
    compM_eq (pp := fun _ => true) (ff := fun d => .bl (isOver d (lettersOf (lotsD ls)))) S [] (by rw [len]; show 0 + 15 ≤ _; omega) (fun d hd => ⟨_, rfl, fun k => ⟨rfl, fun _ => call_run (l2_run (v_run rfl) (v_run (x := d) rfl)) rfl (hK n ts ls d k (all d hd))⟩⟩) k
  have gb := bls_gd (S.map fun d => isOver d (lettersOf (lotsD ls)))
  rw [List.map_map, List.length_map, len] at gb
  obtain ⟨p2, hp2⟩ := repr_gd gb.lst (by decide) (by decide) (Nat.zero_le _)
  have eK2 : ∀ e11 e14 k, sFrz (sComp (.name 12) [12] sYes (sCall 2 FK (lCons (sV 2) (lCons (sV 12) lNil))) (iVal (sV 13))) (envW n ts ls (.d (.int (at_ : Nat))) (.d (rowD lot)) (.d (rowD us)) (.d (wD n ts (ls.set at_ lot))) (.d (wD n us ls)) e11 (.d (.lst S)) e14) k = .ok (.lst (S.map fun d => .bl (isOver d (lettersOf (lotsD ls))))) k := fun e11 e14 k => by
    rw [comp_run (iVal_run (v_run (i := 13) rfl) rfl) (eK e11 e14 k), List.nil_append, filter_yes]
  have ea : okS (.str "a") := okS_of ⟨by decide +kernel, by decide +kernel⟩
  have oa : isOver (.str "a") (lettersOf (lotsD ls)) = true := by
    have e0 : cp ("a" : Str) = [97] := by decide +kernel
    have e1 : isOver (.str ("a" : Str)) (lettersOf (lotsD ls)) = (cp ("a" : Str)).all fun c => memS c (lettersOf (lotsD ls)) := rfl
    rw [e1, e0, List.all_cons, List.all_nil, Bool.and_true]
    have e2 : 97 ∈ cp (lettersOf (lotsD ls)) := by
      rw [letters_cp h2]
      exact List.mem_map.mpr ⟨0, List.mem_range.mpr (by omega), rfl⟩
    exact decide_eq_true e2
  have eT : ∀ e11 e13 e14 k, sCallK 2 0 2 [1, 0] FK lNil (lCons (sC (.str "a")) (lCons (sV 2) lNil)) (envW n ts ls (.d (.int (at_ : Nat))) (.d (rowD lot)) (.d (rowD us)) (.d (wD n ts (ls.set at_ lot))) (.d (wD n us ls)) e11 e13 e14) k = .ok (.bl true) k := fun e11 e13 e14 k => by
    have a : lCons (sC (.str "a")) (lCons (sV 2) lNil) (envW n ts ls (.d (.int (at_ : Nat))) (.d (rowD lot)) (.d (rowD us)) (.d (wD n ts (ls.set at_ lot))) (.d (wD n us ls)) e11 e13 e14) k = .ok [.str "a", oD n ts ls] k := l2_run rfl (v_run rfl)
    rw [sCallK_eq, lNil_eq, bind_ok, a, bind_ok]
    have b := hK n ts ls (.str "a") k ea
    rw [oa] at b
    exact b
  refine Rt.seq (if_skip ((orB_f (rep_ne (eK2 _ _ _) (v_run rfl) hp2)).trans (b_run (op_run (eT _ _ _ _) rfl (by rfl))))) ?_
  subst hκ
  exact Rt.ret (eq5 (W0 := W)) ⟨rfl, hb4⟩
end
end C01
set_option Elab.async false
set_option linter.all false
set_option maxRecDepth 100000
set_option maxHeartbeats 4000000
namespace C01
open PySem PySem.Spec L2 DL
open PySem.W (Frag)

def g_law (p__law_draw : Fn) (p__law_great : Fn) (p__law_loom : Fn) (p__law_right : Fn) (p__law_others_right : Fn) (p__law_bent : Fn) : Ss :=
  (sSeq (sFor (.name 2) (iRange1 (sC (.int 2)))
  (sSeq (sSet 3 (sIf (sB (sOp eqD (sCall 2 p__law_draw (lCons (sV 1) (lCons (sC (.int 4)) lNil))) (sC (.int 0)))) (sCall 1 p__law_great (lCons (sV 1) lNil)) (sCall 1 p__law_loom (lCons (sV 1) lNil))))
  (sSeq (sSet 4 (sTup (lCons (sKey (sV 3) (sC (.str "count"))) (lCons (sKey (sV 3) (sC (.str "thread"))) (lCons (sKey (sV 3) (sC (.str "lots"))) lNil)))))
  (sSeq (sIfS (sOrB (sNotB (sTru (sCall 1 p__law_right (lCons (sV 4) lNil)))) (sNotB (sTru (sCall 2 p__law_others_right (lCons (sV 1) (lCons (sV 3) lNil))))))
  (sRet (sC (.bl false)))
  sSkip)
  (sFor (.name 5) (iRange1 (sC (.int 9)))
  (sSeq (sSet 6 (sCall 3 p__law_bent (lCons (sV 1) (lCons (sV 4) (lCons (sC (.int 4)) lNil)))))
  (sSeq (sSet 6 (sIf (sAndB (sTru (sIsi "tuple" (sV 6))) (sB (sOp eqD (sApp (pureO lenD) (lCons (sV 6) lNil)) (sC (.int 3))))) (sV 6) (sV 4)))
  (sSeq (sSet 7 (sCall 3 p__law_bent (lCons (sV 1) (lCons (sV 6) (lCons (sC (.int 4)) lNil)))))
  (sIfS (sOrB (sNotB (sTru (sCall 1 p__law_right (lCons (sV 6) lNil)))) (sAndB (sTru (sIsi "tuple" (sV 7))) (sAndB (sB (sOp eqD (sApp (pureO lenD) (lCons (sV 7) lNil)) (sC (.int 3)))) (sNotB (sTru (sCall 1 p__law_right (lCons (sV 7) lNil)))))))
  (sRet (sC (.bl false)))
  sSkip)))))))))
  (sSeq (sSet 8 (sLst (lCons (sTup (lCons (sC (.int 1)) (lCons (sTup (lCons (sC (.int 0)) lNil)) (lCons (sOp timesD (sTup (lCons (sTup lNil) lNil)) (sC (.int 27))) lNil)))) (lCons (sTup (lCons (sC (.int 100)) (lCons (sTup (lCons (sC (.int 0)) lNil)) (lCons (sTup (lCons (sTup lNil) lNil)) lNil)))) (lCons (sTup (lCons (sC (.int 99)) (lCons (sTup (lCons (sC (.int 98)) lNil)) (lCons (sOp timesD (sTup (lCons (sTup (lCons (sC (.int 98)) lNil)) lNil)) (sC (.int 26))) lNil)))) lNil)))))
  (sSeq (sSet 8 (sOp plusD (sV 8) (sLst (lCons (sTup (lCons (sC (.int 1)) (lCons (sTup (lCons (sC (.int 0)) lNil)) (lCons (sTup lNil) lNil)))) (lCons (sTup (lCons (sC (.int 0)) (lCons (sTup (lCons (sC (.int 0)) lNil)) (lCons (sTup (lCons (sTup lNil) lNil)) lNil)))) lNil)))))
  (sRet (sOp eqN (sFrz (sComp (.name 9) [9] (sNotB (sTru (sCall 1 p__law_right (lCons (sV 9) lNil)))) (sV 9) (iVal (sV 8)))) (sLst lNil))))))
def s_law : Ss := g_law n__law_draw n__law_great n__law_loom n__law_right n__law_others_right (n__law_bent 5)
section
variable {P : Program} {w : World} {K : Frag} {cl : String → Addr} {mg : Str → Option Value} {base : Heap} {A : Adr}
theorem ok_law (T : Txt K cl mg A) (hlaw : ∀ k : Dk, k.t = 0 → ∃ k', s_law (.no :: .d .dk :: List.replicate 8 .no) (some k) = .rt (.bl true) k') : FnG P w K mg base 10 A.f_law A.fd_law ["_law_script"] (spLaw K) := by
    have G__law_bent := fun dk : Addr => ok__law_bent (P := P) (w := w) (base := base) (dk := dk) T 5
    have G__law_draw := fun dk : Addr => ok__law_draw (P := P) (w := w) (base := base) (dk := dk) T
    have G__law_great := fun dk : Addr => ok__law_great (P := P) (w := w) (base := base) (dk := dk) T
    have G__law_loom := fun dk : Addr => ok__law_loom (P := P) (w := w) (base := base) (dk := dk) T
    have G__law_others_right := fun dk : Addr => ok__law_others_right (P := P) (w := w) (base := base) (dk := dk) T
    have G__law_right := fun dk : Addr => ok__law_right (P := P) (w := w) (base := base) (dk := dk) T
    have Gd := ok__law_deck (P := P) (w := w) (base := base) T
    refine T.F_law.okXG sc_law (fun vs H Q E h => by obtain ⟨a, ns, rfl, _⟩ := h; rfl) (fun cdv A0 outer sh H vs Q E hr hgd h => ?_)
    refine ⟨_, pss_cons (ps_set (i := 1) sc_law.nd rfl (Or.inl rfl) (pe_callG (E := fun _ => E0) Gd (hr.mono (by first | decide | omega)) hgd rfl T.m__law_deck T.F__law_deck.kp T.b__law_deck .nil noX (by exact (pa_cons (pv 0) pa_nil)))) (pss_ex fun dk : Addr => (show PDSs _ (gg K cl dk) .none (fun c d _ H => E c d H) _ s_law from by
      unfold s_law g_law
      exact (pds_cons (pds_for (tt := (.name 2)) (passes_of rfl) rfl (pdi_range1 (by rfl) T.n_range pd_int) (pdg_name (i := 2) sc_law.nd rfl (Or.inl rfl))
  (pds_cons (pds_set (i := 3) sc_law.nd rfl (Or.inl rfl) (pd_if (pdt_cmp (opd_eq rfl hr.units) (pd_call (G__law_draw dk) (hr.mono (by first | decide | omega)) hgd rfl T.m__law_draw T.F__law_draw.kp T.b__law_draw (takes_of rfl rfl rfl rfl) (by exact (pda_cons (pd_var (pv 1)) (pda_cons pd_int pda_nil)))) pd_int (nomark _)) (pd_call (G__law_great dk) (hr.mono (by first | decide | omega)) hgd rfl T.m__law_great T.F__law_great.kp T.b__law_great (takes_of rfl rfl rfl rfl) (by exact (pda_cons (pd_var (pv 1)) pda_nil))) (pd_call (G__law_loom dk) (hr.mono (by first | decide | omega)) hgd rfl T.m__law_loom T.F__law_loom.kp T.b__law_loom (takes_of rfl rfl rfl rfl) (by exact (pda_cons (pd_var (pv 1)) pda_nil)))))
  (pds_cons (pds_set (i := 4) sc_law.nd rfl (Or.inl rfl) (pd_tup (pda_cons (pd_key hr.units (pd_var (pv 3)) pd_str) (pda_cons (pd_key hr.units (pd_var (pv 3)) pd_str) (pda_cons (pd_key hr.units (pd_var (pv 3)) pd_str) pda_nil)))))
  (pds_cons (pds_if (PDW.pt (pdw_or (pdt_not (pdt_truth rfl (pd_call (G__law_right dk) (hr.mono (by first | decide | omega)) hgd rfl T.m__law_right T.F__law_right.kp T.b__law_right (takes_of rfl rfl rfl rfl) (by exact (pda_cons (pd_var (pv 4)) pda_nil))) (by intro _; rfl))) (pdw_or1 (pdt_not (pdt_truth rfl (pd_call (G__law_others_right dk) (hr.mono (by first | decide | omega)) hgd rfl T.m__law_others_right T.F__law_others_right.kp T.b__law_others_right (takes_of rfl rfl rfl rfl) (by exact (pda_cons (pd_var (pv 1)) (pda_cons (pd_var (pv 3)) pda_nil)))) (by intro _; rfl))))))
  (pds_one (pds_ret pd_bl))
  pds_nil)
  (pds_one (pds_for (tt := (.name 5)) (passes_of rfl) rfl (pdi_range1 (by rfl) T.n_range pd_int) (pdg_name (i := 5) sc_law.nd rfl (Or.inl rfl))
  (pds_cons (pds_set (i := 6) sc_law.nd rfl (Or.inl rfl) (pd_call (G__law_bent dk) (hr.mono (by first | decide | omega)) hgd rfl T.m__law_bent T.F__law_bent.kp T.b__law_bent (takes_of rfl rfl rfl rfl) (by exact (pda_cons (pd_var (pv 1)) (pda_cons (pd_var (pv 4)) (pda_cons pd_int pda_nil))))))
  (pds_cons (pds_set (i := 6) sc_law.nd rfl (Or.inl rfl) (pd_if (PDW.pt (pdw_and (pdt_truth rfl (pd_isi (T := "tuple") rfl T.own (by decide) (pe_bltn (v := .ty "tuple") (u := .type "tuple") (by rfl) T.n_tuple (by decide +kernel) rfl) (by rfl) T.n_isinstance (pd_var (pv 6))) (by intro _; rfl)) (pdw_and1 (pdt_cmp (opd_eq rfl hr.units) (pd_callB (callo_len rfl) (by rfl) T.n_len (by decide +kernel) (by exact (pda_cons (pd_var (pv 6)) pda_nil))) pd_int (nomark _))))) (pd_var (pv 6)) (pd_var (pv 4))))
  (pds_cons (pds_set (i := 7) sc_law.nd rfl (Or.inl rfl) (pd_call (G__law_bent dk) (hr.mono (by first | decide | omega)) hgd rfl T.m__law_bent T.F__law_bent.kp T.b__law_bent (takes_of rfl rfl rfl rfl) (by exact (pda_cons (pd_var (pv 1)) (pda_cons (pd_var (pv 6)) (pda_cons pd_int pda_nil))))))
  (pds_one (pds_if (PDW.pt (pdw_or (pdt_not (pdt_truth rfl (pd_call (G__law_right dk) (hr.mono (by first | decide | omega)) hgd rfl T.m__law_right T.F__law_right.kp T.b__law_right (takes_of rfl rfl rfl rfl) (by exact (pda_cons (pd_var (pv 6)) pda_nil))) (by intro _; rfl))) (pdw_or1 (PDW.pt (pdw_and (pdt_truth rfl (pd_isi (T := "tuple") rfl T.own (by decide) (pe_bltn (v := .ty "tuple") (u := .type "tuple") (by rfl) T.n_tuple (by decide +kernel) rfl) (by rfl) T.n_isinstance (pd_var (pv 7))) (by intro _; rfl)) (pdw_and (pdt_cmp (opd_eq rfl hr.units) (pd_callB (callo_len rfl) (by rfl) T.n_len (by decide +kernel) (by exact (pda_cons (pd_var (pv 7)) pda_nil))) pd_int (nomark _)) (pdw_and1 (pdt_not (pdt_truth rfl (pd_call (G__law_right dk) (hr.mono (by first | decide | omega)) hgd rfl T.m__law_right T.F__law_right.kp T.b__law_right (takes_of rfl rfl rfl rfl) (by exact (pda_cons (pd_var (pv 7)) pda_nil))) (by intro _; rfl))))))))))
  (pds_one (pds_ret pd_bl))
  pds_nil)))))))))))
  (pds_cons (pds_set (i := 8) sc_law.nd rfl (Or.inl rfl) (pd_lst (pda_cons (pd_tup (pda_cons pd_int (pda_cons (pd_tup (pda_cons pd_int pda_nil)) (pda_cons (pd_op (opd_times rfl) (pd_tup (pda_cons (pd_tup pda_nil) pda_nil)) pd_int) pda_nil)))) (pda_cons (pd_tup (pda_cons pd_int (pda_cons (pd_tup (pda_cons pd_int pda_nil)) (pda_cons (pd_tup (pda_cons (pd_tup pda_nil) pda_nil)) pda_nil)))) (pda_cons (pd_tup (pda_cons pd_int (pda_cons (pd_tup (pda_cons pd_int pda_nil)) (pda_cons (pd_op (opd_times rfl) (pd_tup (pda_cons (pd_tup (pda_cons pd_int pda_nil)) pda_nil)) pd_int) pda_nil)))) pda_nil)))))
  (pds_cons (pds_set (i := 8) sc_law.nd rfl (Or.inl rfl) (pd_op (opd_plus rfl) (pd_var (pv 8)) (pd_lst (pda_cons (pd_tup (pda_cons pd_int (pda_cons (pd_tup (pda_cons pd_int pda_nil)) (pda_cons (pd_tup pda_nil) pda_nil)))) (pda_cons (pd_tup (pda_cons pd_int (pda_cons (pd_tup (pda_cons pd_int pda_nil)) (pda_cons (pd_tup (pda_cons (pd_tup pda_nil) pda_nil)) pda_nil)))) pda_nil)))))
  (pds_one (pds_ret (pd_cmp (opd_eqN rfl hr.units) (pd_ofN (pdn_lc (own := [("_law_it", 9)]) (t := (.name 9)) rfl sc_law.nd (pdi_val rfl (pd_var (pv 8))) (blkOk_by (own := [("_law_it", 9)]) (N := ["_law_script", "_law_deck_here", "_law_go", "_law_w", "_law_parts_now", "_law_turn", "_law_bent_here", "_law_more", "_law_some", "_law_it"]) (sc := defScope st_law) (by decide +kernel)) (by decide) (fun _ _ _ _ _ => (pdg_name (i := 9) sc_law.nd rfl (Or.inl rfl))) (fun _ _ _ _ _ => (pdts_one (pdt_not (pdt_truth rfl (pd_call (G__law_right dk) (hr.mono (by first | decide | omega)) hgd rfl T.m__law_right T.F__law_right.kp T.b__law_right takes0 (by exact (pda_cons (pd_var (pv 9)) pda_nil))) (by intro _; rfl))))) (fun _ _ _ _ _ => (pd_var (pv 9))))) (pd_lst pda_nil) (nomark _))))))))), ?_⟩
    obtain ⟨a, ns, rfl, ha, hq⟩ := h
    refine ⟨_, rfl, ?_⟩
    refine ⟨a, ns, rfl, ha, fun d k H' ht hne h1 h2 => ⟨d, ?_⟩⟩
    exact law_rest hne h1 h2 (hlaw k ht) hq
end
end C01
set_option Elab.async false
set_option linter.all false
set_option maxRecDepth 100000
set_option maxHeartbeats 4000000
namespace C01
open PySem PySem.Spec L2 DL
def RightOk (F : Fn) : Prop := ∀ c t l k n h m, Gd n h m (.tup [c, t, l]) → n ≤ 3000000 → h ≤ 40 → m ≤ 10 ^ 60 → tl t < 64 → F [.tup [c, t, l]] k = .ok (.bl true) k
def OthersOk (F : Fn) : Prop := ∀ n ts ls (k : Dk) N, Lm n ts ls → Bud k (N + 1000) → ∃ d k', F [.dk, wD n ts ls] (some k) = .ok d (some k') ∧ d = .bl true ∧ Bud k' N
theorem three {ds : List D} (h : ds.length = 3) : ∃ a b c, ds = [a, b, c] := match ds, h with | [a, b, c], _ => ⟨a, b, c, rfl⟩
/-- three in a row -/
theorem cond3 {env : List En} {i : Nat} {d : D} {k : DkO} {q : Sm Bool} (hd : env[i]? = some (.d d)) (hp : plain d = true) :
    sAndB (sTru (sIsi "tuple" (sV i))) (sAndB (sB (sOp eqD (sApp (pureO lenD) (lCons (sV i) lNil)) (sC (.int 3)))) q) env k = .ok false k ∨ (∃ a b c, d = .tup [a, b, c]) ∧ sAndB (sTru (sIsi "tuple" (sV i))) (sAndB (sB (sOp eqD (sApp (pureO lenD) (lCons (sV i) lNil)) (sC (.int 3)))) q) env k = q env k := by
  have a := tru_run (isi_run (T := "tuple") (f := sV i) (k := k) (v_run hd) hp) (b := isTy "tuple" d) rfl
  cases h : isTy "tuple" d with
  | false => rw [h] at a; exact .inl (andB_f a)
  | true =>
    rw [h] at a
    obtain ⟨ds, rfl⟩ := isTup h
    have b := b_run (op_run (app_run (op := pureO lenD) (l1_run (v_run (k := k) hd)) rfl) (rfl : sC (.int 3) env k = .ok (.int 3) k) eq_int)
    cases h3 : (((ds.length : Nat) : Int) == 3) with
    | false => rw [h3] at b; exact .inl ((andB_t a).trans (andB_f b))
    | true =>
      rw [h3] at b
      have hl : ds.length = 3 := by have := eq_of_beq h3; omega
      obtain ⟨x, y, z, rfl⟩ := three hl
      exact .inr ⟨⟨x, y, z, rfl⟩, (andB_t a).trans (andB_t b)⟩
theorem cond3' {env : List En} {i : Nat} {d : D} {k : DkO} (hd : env[i]? = some (.d d)) (hp : plain d = true) :
    ∃ z, sAndB (sTru (sIsi "tuple" (sV i))) (sB (sOp eqD (sApp (pureO lenD) (lCons (sV i) lNil)) (sC (.int 3)))) env k = .ok z k ∧ (z = true → ∃ a b c, d = .tup [a, b, c]) := by
  have a := tru_run (isi_run (T := "tuple") (f := sV i) (k := k) (v_run hd) hp) (b := isTy "tuple" d) rfl
  cases h : isTy "tuple" d with
  | false => rw [h] at a; exact ⟨false, andB_f a, fun z => nomatch z⟩
  | true =>
    rw [h] at a
    obtain ⟨ds, rfl⟩ := isTup h
    have b := b_run (op_run (app_run (op := pureO lenD) (l1_run (v_run (k := k) hd)) rfl) (rfl : sC (.int 3) env k = .ok (.int 3) k) eq_int)
    refine ⟨_, (andB_t a).trans b, fun z => ?_⟩
    have hl : ds.length = 3 := by have := eq_of_beq z; omega
    obtain ⟨x, y, w, rfl⟩ := three hl
    exact ⟨x, y, w, rfl⟩
theorem bentX3 {a b c x y z : D} (h : BentX (.tup [a, b, c]) (.tup [x, y, z])) : tl y ≤ max (tl b + 1) 2 := by
  obtain ⟨p, q, h1, h2, h3⟩ := h.2 _ _ rfl rfl rfl rfl
  cases h1
  cases h2
  exact h3
def lawA : List D := [.tup [.int 1, .tup [.int 0], .tup (List.replicate 27 [D.tup []]).flatten], .tup [.int 100, .tup [.int 0], .tup [.tup []]], .tup [.int 99, .tup [.int 98], .tup (List.replicate 26 [D.tup [.int 98]]).flatten]]
def lawB : List D := [.tup [.int 1, .tup [.int 0], .tup []], .tup [.int 0, .tup [.int 0], .tup [.tup []]]]
def okT (d : D) : Bool := gdD d && decide (wt d ≤ 3000000) && decide (ht d ≤ 40) && decide (mg d ≤ 10 ^ 39) && (match d with | .tup [_, t, _] => decide ((tupL t).length < 64) | _ => false)
theorem lawA_ok : lawA.all okT = true := by decide +kernel
theorem lawB_ok : lawB.all okT = true := by decide +kernel
theorem okT_gd {d : D} (h0 : okT d = true) : ∃ c t l, d = .tup [c, t, l] ∧ Gd 3000000 40 (10 ^ 39) d ∧ tl t < 64 := by
  unfold okT at h0
  simp only [Bool.and_eq_true, decide_eq_true_eq] at h0
  obtain ⟨⟨⟨⟨a1, a2⟩, a3⟩, a4⟩, a5⟩ := h0
  split at a5
  · rename_i c t l
    exact ⟨c, t, l, rfl, ⟨a1, a2, a3, a4⟩, of_decide_eq_true a5⟩
  · cases a5
theorem times_tup {xs : List D} {n : Nat} (h2 : 2 ≤ n) (hn : n ≤ 1000) (hl : xs.length ≤ 1000) (h0 : xs.isEmpty = false) : timesD (.tup xs) (.int (n : Nat)) = some (.tup (List.replicate n xs).flatten) := by
  unfold timesD
  refine (orD_none ((orD_none rfl).trans rfl)).trans ((orD_none rfl).trans ?_)
  show (if (decide (2 ≤ (n : Int)) && decide ((n : Int) ≤ 1000) && decide (xs.length ≤ 1000) && !xs.isEmpty) = true then _ else _) = _
  rw [if_pos (by rw [h0]; simp only [Bool.and_eq_true, decide_eq_true_eq, Bool.not_false, and_true]; omega)]
  rfl
section
variable {FD FGr FLo FR FOt FB : Fn}
abbrev env10 (e2 e3 e4 e5 e6 e7 e8 : En) : List En := [.no, .d .dk, e2, e3, e4, e5, e6, e7, e8, .no]
abbrev bodyT (FR FB : Fn) : Ss := (sSeq (sSet 6 (sCall 3 FB (lCons (sV 1) (lCons (sV 4) (lCons (sC (.int 4)) lNil)))))
  (sSeq (sSet 6 (sIf (sAndB (sTru (sIsi "tuple" (sV 6))) (sB (sOp eqD (sApp (pureO lenD) (lCons (sV 6) lNil)) (sC (.int 3))))) (sV 6) (sV 4)))
  (sSeq (sSet 7 (sCall 3 FB (lCons (sV 1) (lCons (sV 6) (lCons (sC (.int 4)) lNil)))))
  (sIfS (sOrB (sNotB (sTru (sCall 1 FR (lCons (sV 6) lNil)))) (sAndB (sTru (sIsi "tuple" (sV 7))) (sAndB (sB (sOp eqD (sApp (pureO lenD) (lCons (sV 7) lNil)) (sC (.int 3)))) (sNotB (sTru (sCall 1 FR (lCons (sV 7) lNil)))))))
  (sRet (sC (.bl false)))
  sSkip))))
theorem bodyT_run (hR : RightOk FR) (hB : BentOk FB 4) {n : Nat} {ts : List Int} {ls : List (List Int)} {e2 e3 e5 e6 e7 e8 : En} {k : Dk} {N : Nat} (h : Lm n ts ls) (hb : Bud k (N + 30)) :
    ∃ e6' e7' k', bodyT FR FB (env10 e2 e3 (.d (.tup [.int (n : Nat), rowD ts, lotsD ls])) e5 e6 e7 e8) (some k) = .nx (env10 e2 e3 (.d (.tup [.int (n : Nat), rowD ts, lotsD ls])) e5 e6' e7' e8) (some k') ∧ Bud k' N := by
  have g0 := lm_gd h
  have ht0 : tl (rowD ts) ≤ 31 := by show (ts.map D.int).length ≤ 31; rw [List.length_map]; exact h.t2
  have m0 : (10 : Nat) ^ 39 + 2 ≤ 10 ^ 60 := by decide +kernel
  unfold bodyT
  obtain ⟨d, k1, e1, g1, x1, hb1⟩ := hB _ 22000 3 (10 ^ 39) (N + 15) k g0 (by omega) (by omega) (Nat.le_refl _) (by omega) (hb.mono (by omega))
  -- what is kept is three in a row
  have kept : ∃ c t l, sSet 6 (sIf (sAndB (sTru (sIsi "tuple" (sV 6))) (sB (sOp eqD (sApp (pureO lenD) (lCons (sV 6) lNil)) (sC (.int 3))))) (sV 6) (sV 4)) (env10 e2 e3 (.d (.tup [.int (n : Nat), rowD ts, lotsD ls])) e5 (.d d) e7 e8) (some k1) = .nx (env10 e2 e3 (.d (.tup [.int (n : Nat), rowD ts, lotsD ls])) e5 (.d (.tup [c, t, l])) e7 e8) (some k1) ∧ Gd 242000 5 (10 ^ 39 + 1) (.tup [c, t, l]) ∧ tl t ≤ 32 := by
    obtain ⟨z, e, hz⟩ := cond3' (env := env10 e2 e3 (.d (.tup [.int (n : Nat), rowD ts, lotsD ls])) e5 (.d d) e7 e8) (i := 6) (k := some k1) rfl g1.plain
    cases z with
    | true =>
      obtain ⟨c, t, l, rfl⟩ := hz rfl
      refine ⟨c, t, l, set_run ((sif_t e).trans (v_run rfl)), g1.mono (by omega) (by omega) (Nat.le_refl _), ?_⟩
      have := bentX3 x1
      omega
    | false => exact ⟨_, _, _, set_run ((sif_f e).trans (v_run rfl)), g0.mono (by omega) (by omega) (by omega), by omega⟩
  obtain ⟨c, t, l, e2', g2, ht2⟩ := kept
  obtain ⟨d3, k3, e3', g3, x3, hb3⟩ := hB _ 242000 5 (10 ^ 39 + 1) N k1 g2 (by omega) (by omega) (by omega) (by omega) (hb1.mono (by omega))
  refine ⟨.d (.tup [c, t, l]), .d d3, k3, ?_, hb3⟩
  refine (seq_nx (set_run (call_run (l3_run (v_run rfl) (v_run rfl) rfl) rfl e1))).trans ((seq_nx e2').trans ((seq_nx (set_run (call_run (l3_run (v_run rfl) (v_run rfl) rfl) rfl e3'))).trans (if_skip ?_)))
  have r1 : sNotB (sTru (sCall 1 FR (lCons (sV 6) lNil))) (env10 e2 e3 (.d (.tup [.int (n : Nat), rowD ts, lotsD ls])) e5 (.d (.tup [c, t, l])) (.d d3) e8) (some k3) = .ok false (some k3) := notB_run (tru_run (call_run (l1_run (v_run rfl)) rfl (hR c t l _ _ _ _ g2 (by omega) (by omega) (by omega) (by omega))) rfl)
  refine (orB_f r1).trans ?_
  rcases cond3 (env := env10 e2 e3 (.d (.tup [.int (n : Nat), rowD ts, lotsD ls])) e5 (.d (.tup [c, t, l])) (.d d3) e8) (i := 7) (k := some k3) (q := sNotB (sTru (sCall 1 FR (lCons (sV 7) lNil)))) rfl g3.plain with e | ⟨⟨c', t', l', rfl⟩, e⟩
  · exact e
  · refine e.trans (notB_run (tru_run (call_run (l1_run (v_run rfl)) rfl (hR c' t' l' _ _ _ _ g3 (by omega) (by omega) (by omega) ?_)) rfl))
    have := bentX3 x3
    omega
abbrev bodyG (FD FGr FLo FR FOt FB : Fn) : Ss := (sSeq (sSet 3 (sIf (sB (sOp eqD (sCall 2 FD (lCons (sV 1) (lCons (sC (.int 4)) lNil))) (sC (.int 0)))) (sCall 1 FGr (lCons (sV 1) lNil)) (sCall 1 FLo (lCons (sV 1) lNil))))
  (sSeq (sSet 4 (sTup (lCons (sKey (sV 3) (sC (.str "count"))) (lCons (sKey (sV 3) (sC (.str "thread"))) (lCons (sKey (sV 3) (sC (.str "lots"))) lNil)))))
  (sSeq (sIfS (sOrB (sNotB (sTru (sCall 1 FR (lCons (sV 4) lNil)))) (sNotB (sTru (sCall 2 FOt (lCons (sV 1) (lCons (sV 3) lNil))))))
  (sRet (sC (.bl false)))
  sSkip)
  (sFor (.name 5) (iRange1 (sC (.int 9))) (bodyT FR FB)))))
theorem bodyG_run (hD : DrawOk FD) (hGr : LoomF FGr) (hLo : LoomF FLo) (hR : RightOk FR) (hO : OthersOk FOt) (hB : BentOk FB 4) {e2 e3 e4 e5 e6 e7 e8 : En} {k : Dk} {N : Nat} (hb : Bud k (N + 10000)) :
    ∃ e3' e4' e5' e6' e7' k', bodyG FD FGr FLo FR FOt FB (env10 e2 e3 e4 e5 e6 e7 e8) (some k) = .nx (env10 e2 e3' e4' e5' e6' e7' e8) (some k') ∧ Bud k' N := by
  unfold bodyG
  have draw : ∃ n ts ls k1, sIf (sB (sOp eqD (sCall 2 FD (lCons (sV 1) (lCons (sC (.int 4)) lNil))) (sC (.int 0)))) (sCall 1 FGr (lCons (sV 1) lNil)) (sCall 1 FLo (lCons (sV 1) lNil)) (env10 e2 e3 e4 e5 e6 e7 e8) (some k) = .ok (wD n ts ls) (some k1) ∧ Lm n ts ls ∧ Bud k1 (N + 2000) := by
    obtain ⟨r, k0, e0, _, _, hb0⟩ := hD 4 k (N + 9000) (by decide) (hb.mono (by omega))
    have a : sB (sOp eqD (sCall 2 FD (lCons (sV 1) (lCons (sC (.int 4)) lNil))) (sC (.int 0))) (env10 e2 e3 e4 e5 e6 e7 e8) (some k) = .ok (r == 0) (some k0) := b_run (op_run (call_run (l2_run (v_run rfl) rfl) rfl e0) rfl eq_int)
    cases hz : (r == 0) with
    | true =>
      rw [hz] at a
      obtain ⟨n, ts, ls, k1, e1, hL, hb1⟩ := hGr k0 (N + 2000) (hb0.mono (by omega))
      exact ⟨n, ts, ls, k1, (sif_t a).trans (call_run (l1_run (v_run rfl)) rfl e1), hL, hb1⟩
    | false =>
      rw [hz] at a
      obtain ⟨n, ts, ls, k1, e1, hL, hb1⟩ := hLo k0 (N + 2000) (hb0.mono (by omega))
      exact ⟨n, ts, ls, k1, (sif_f a).trans (call_run (l1_run (v_run rfl)) rfl e1), hL, hb1⟩
  obtain ⟨n, ts, ls, k1, e1, hL, hb1⟩ := draw
  have g0 := lm_gd hL
  have ht0 : tl (rowD ts) < 64 := by show (ts.map D.int).length < 64; rw [List.length_map]; have := hL.t2; omega
  have m0 : (10 : Nat) ^ 39 ≤ 10 ^ 60 := by decide +kernel
  obtain ⟨d2, k2, e2', rfl, hb2⟩ := hO n ts ls k1 (N + 500) hL (hb1.mono (by omega))
  have eP : sTup (lCons (sKey (sV 3) (sC (.str "count"))) (lCons (sKey (sV 3) (sC (.str "thread"))) (lCons (sKey (sV 3) (sC (.str "lots"))) lNil))) (env10 e2 (.d (wD n ts ls)) e4 e5 e6 e7 e8) (some k1) = .ok (.tup [.int (n : Nat), rowD ts, lotsD ls]) (some k1) := tup_run (l3_run (key_run (v_run rfl) fi1) (key_run (v_run rfl) fi2) (key_run (v_run rfl) fi3)) (by show 3 ≤ 1000; omega)
  have eC : sOrB (sNotB (sTru (sCall 1 FR (lCons (sV 4) lNil)))) (sNotB (sTru (sCall 2 FOt (lCons (sV 1) (lCons (sV 3) lNil))))) (env10 e2 (.d (wD n ts ls)) (.d (.tup [.int (n : Nat), rowD ts, lotsD ls])) e5 e6 e7 e8) (some k1) = .ok false (some k2) :=
    (orB_f (notB_run (tru_run (call_run (l1_run (v_run rfl)) rfl (hR _ _ _ _ _ _ _ g0 (by omega) (by omega) m0 ht0)) rfl))).trans (notB_run (tru_run (call_run (l2_run (v_run rfl) (v_run rfl)) rfl e2') rfl))
  obtain ⟨env', k3, e3', ⟨f5, f6, f7, rfl⟩, hb3⟩ := forM_run (t := .name 5) (s := bodyT FR FB) (mk := fun (i : Nat) => .int (i : Nat)) (I := fun _ env => ∃ f5 f6 f7, env = env10 e2 (.d (wD n ts ls)) (.d (.tup [.int (n : Nat), rowD ts, lotsD ls])) f5 f6 f7 e8) (c := 30) (List.range 9) 0 (env10 e2 (.d (wD n ts ls)) (.d (.tup [.int (n : Nat), rowD ts, lotsD ls])) e5 e6 e7 e8) k2 N ⟨e5, e6, e7, rfl⟩ (by rw [List.length_range]; exact hb2.mono (by omega)) fun j b env k q hj hb hI hq => by
    obtain ⟨f5, f6, f7, rfl⟩ := hI
    obtain ⟨g6, g7, k', e, hb'⟩ := bodyT_run (e2 := e2) (e3 := .d (wD n ts ls)) (e5 := .d (.int (b : Nat))) (e6 := f6) (e7 := f7) (e8 := e8) hR hB hL hq
    exact ⟨_, _, k', rfl, e, ⟨_, _, _, rfl⟩, hb'⟩
  exact ⟨_, _, f5, f6, f7, k3, (seq_nx (set_run e1)).trans ((seq_nx (set_run eP)).trans ((seq_nx (if_skip eC)).trans ((for_run (range1_run (w := 9) rfl (by omega))).trans e3'))), hb3⟩
theorem law_run (hD : DrawOk FD) (hGr : LoomF FGr) (hLo : LoomF FLo) (hR : RightOk FR) (hO : OthersOk FOt) (hB : BentOk FB 4) {k : Dk} (hb : Bud k 30000) :
    Rt (g_law FD FGr FLo FR FOt FB (env10 .no .no .no .no .no .no .no) (some k)) fun d _ => d = .bl true := by
  unfold g_law
  obtain ⟨env', k3, e3, ⟨f2, f3, f4, f5, f6, f7, rfl⟩, hb3⟩ := forM_run (t := .name 2) (s := bodyG FD FGr FLo FR FOt FB) (mk := fun (i : Nat) => .int (i : Nat)) (I := fun _ env => ∃ f2 f3 f4 f5 f6 f7, env = env10 f2 f3 f4 f5 f6 f7 .no) (c := 10000) (List.range 2) 0 (env10 .no .no .no .no .no .no .no) k 1000 ⟨_, _, _, _, _, _, rfl⟩ (by rw [List.length_range]; exact hb.mono (by omega)) fun j b env k q hj hb hI hq => by
    obtain ⟨f2, f3, f4, f5, f6, f7, rfl⟩ := hI
    obtain ⟨g3, g4, g5, g6, g7, k', e, hb'⟩ := bodyG_run (e2 := .d (.int (b : Nat))) (e3 := f3) (e4 := f4) (e5 := f5) (e6 := f6) (e7 := f7) (e8 := .no) hD hGr hLo hR hO hB hq
    exact ⟨_, _, k', rfl, e, ⟨_, _, _, _, _, _, rfl⟩, hb'⟩
  refine Rt.seq ((for_run (range1_run (w := 2) rfl (by omega))).trans e3) ?_
  refine Rt.seq (set_run (lst_run (l3_run (tup_run (l3_run rfl (tup_run (l1_run rfl) (by show 1 ≤ 1000; omega)) (op_run (tup_run (l1_run (tup_run (l := lNil) rfl (by decide))) (by show 1 ≤ 1000; omega)) rfl (times_tup (n := 27) (by omega) (by omega) (by show 1 ≤ 1000; omega) rfl))) (by show 3 ≤ 1000; omega)) (tup_run (l3_run rfl (tup_run (l1_run rfl) (by show 1 ≤ 1000; omega)) (tup_run (l1_run (tup_run (l := lNil) rfl (by decide))) (by show 1 ≤ 1000; omega))) (by show 3 ≤ 1000; omega)) (tup_run (l3_run rfl (tup_run (l1_run rfl) (by show 1 ≤ 1000; omega)) (op_run (tup_run (l1_run (tup_run (l1_run rfl) (by show 1 ≤ 1000; omega))) (by show 1 ≤ 1000; omega)) rfl (times_tup (n := 26) (by omega) (by omega) (by show 1 ≤ 1000; omega) rfl))) (by show 3 ≤ 1000; omega))) (by show 3 ≤ 1000; omega))) ?_
  refine Rt.seq (set_run (op_run (v_run rfl) (lst_run (l2_run (tup_run (l3_run rfl (tup_run (l1_run rfl) (by show 1 ≤ 1000; omega)) (tup_run (l := lNil) rfl (by decide))) (by show 3 ≤ 1000; omega)) (tup_run (l3_run rfl (tup_run (l1_run rfl) (by show 1 ≤ 1000; omega)) (tup_run (l1_run (tup_run (l := lNil) rfl (by decide))) (by show 1 ≤ 1000; omega))) (by show 3 ≤ 1000; omega))) (by show 2 ≤ 1000; omega)) (plus_lst (by show 3 + 2 ≤ 1000; omega)))) ?_
  have eC : ∀ k, compM (.name 9) (sNotB (sTru (sCall 1 FR (lCons (sV 9) lNil)))) (sV 9) (wipeE (env10 f2 f3 f4 f5 f6 f7 (.d (.lst (lawA ++ lawB)))) [9]) (lawA ++ lawB) [] k = .ok ([] ++ ((lawA ++ lawB).filter fun _ => false).map fun d => d) k :=
    compM_eq (pp := fun _ => false) (ff := fun d => d) _ [] (Nat.le_of_lt (small1000 (by show 0 + 5 ≤ 1000; omega))) fun d hd => ⟨_, rfl, fun k => ⟨by
      have ho : okT d = true := by
        rcases List.mem_append.mp hd with z | z
        · exact List.all_eq_true.mp lawA_ok d z
        · exact List.all_eq_true.mp lawB_ok d z
      obtain ⟨c, t, l, rfl, g, h64⟩ := okT_gd ho
      exact notB_run (tru_run (call_run (l1_run (v_run rfl)) rfl (hR c t l k _ _ _ g (by omega) (by omega) (by decide +kernel) h64)) rfl), fun z => nomatch z⟩⟩
  have ef : (lawA ++ lawB).filter (fun _ => false) = [] := List.filter_eq_nil_iff.mpr fun _ _ z => nomatch z
  rw [ef] at eC
  exact Rt.ret (op_run (comp_run (iVal_run (v_run rfl) rfl) (eC _)) (lst_run (l := lNil) rfl (by decide)) eq_nilL) rfl
end
theorem law_true (k : Dk) (h : k.t = 0) : ∃ k', s_law (.no :: .d .dk :: List.replicate 8 .no) (some k) = .rt (.bl true) k' := by
  have hD : DrawOk n__law_draw := drawOk_F _
  have hP : PickOk n__law_pick := pickOk_F _
  have hT : PartOk n__law_part := part_run hD
  have hO : OddOk n__law_odd := odd_run hP
  have b0 : BentOk (n__law_bent 1) 0 := bent_run hD hO fun z => absurd z (Nat.lt_irrefl 0)
  have b1 : BentOk (n__law_bent 2) 1 := bent_run hD hO fun _ => b0
  have b2 : BentOk (n__law_bent 3) 2 := bent_run hD hO fun _ => b1
  have b3 : BentOk (n__law_bent 4) 3 := bent_run hD hO fun _ => b2
  have b4 : BentOk (n__law_bent 5) 4 := bent_run hD hO fun _ => b3
  obtain ⟨d, k', e, rfl⟩ := law_run (FD := n__law_draw) (FGr := n__law_great) (FLo := n__law_loom) (FR := n__law_right) (FOt := n__law_others_right) (FB := n__law_bent 5) hD (great_run hP hD hT) (loom_run hP hD hT)
    (fun c t l k n h m a hn hh hm h64 => right_run a hn hh hm h64) (fun n ts ls k N hL hb => others_run ways tread_ok hD hT hL hb) b4 (k := k) ⟨by omega, by omega⟩
  exact ⟨some k', e⟩
end C01
set_option Elab.async false
set_option linter.all false
set_option maxRecDepth 100000
set_option maxHeartbeats 4000000
namespace C01
open PySem PySem.Spec L2 DL
open PySem.W (Frag)
theorem all_mk {l : PySem.W.OpenLaw} {w : World} {K : Frag} {h : Heap} {mg : Str → Option Value} {fa f_is_int f_is_number_below f_is_ascending f_is_tuple_below f_is_string_over f_is_shaft_count f_is_threading f_is_treadling f__law_deck f__law_draw f__law_pick f__law_part f__law_loom f__law_signs f__law_odd f__law_bent f__law_is_whole f__law_is_lot f__law_great f__law_bad f__law_built f__law_right f__law_code f__law_others_right f_law f_Loom___init__ f_Loom___len__ f_Loom___eq__ f_Loom_lift_of f_Loom_with_lift f_Loom_threaded c_LoomError c_BadLoom c_BadText c_Loom i_BadLoom i_BadText : Addr} (X : K.In h) (G : h.Ns mainGlobals mg) (hfa : mg "law" = some (.ref fa))
    {t_LETTERS : Tok}
    {t_MOST_SHAFTS : Tok}
    {od_is_int an_is_int : Option Addr} {sl_is_int : Array (Option Value)} {oc_is_int kV_is_int dc_is_int pm_is_int cd_is_int ct_is_int : Value}
    {od_is_number_below an_is_number_below : Option Addr} {sl_is_number_below : Array (Option Value)} {oc_is_number_below kV_is_number_below dc_is_number_below pm_is_number_below cd_is_number_below ct_is_number_below : Value}
    {od_is_ascending an_is_ascending : Option Addr} {sl_is_ascending : Array (Option Value)} {oc_is_ascending kV_is_ascending dc_is_ascending pm_is_ascending cd_is_ascending ct_is_ascending : Value}
    {od_is_tuple_below an_is_tuple_below : Option Addr} {sl_is_tuple_below : Array (Option Value)} {oc_is_tuple_below kV_is_tuple_below dc_is_tuple_below pm_is_tuple_below cd_is_tuple_below ct_is_tuple_below : Value}
    {od_is_string_over an_is_string_over : Option Addr} {sl_is_string_over : Array (Option Value)} {oc_is_string_over kV_is_string_over dc_is_string_over pm_is_string_over cd_is_string_over ct_is_string_over : Value}
    {od_is_shaft_count an_is_shaft_count : Option Addr} {sl_is_shaft_count : Array (Option Value)} {oc_is_shaft_count kV_is_shaft_count dc_is_shaft_count pm_is_shaft_count cd_is_shaft_count ct_is_shaft_count : Value}
    {od_is_threading an_is_threading : Option Addr} {sl_is_threading : Array (Option Value)} {oc_is_threading kV_is_threading dc_is_threading pm_is_threading cd_is_threading ct_is_threading : Value}
    {od_is_treadling an_is_treadling : Option Addr} {sl_is_treadling : Array (Option Value)} {oc_is_treadling kV_is_treadling dc_is_treadling pm_is_treadling cd_is_treadling ct_is_treadling : Value}
    {od__law_deck an__law_deck : Option Addr} {sl__law_deck : Array (Option Value)} {oc__law_deck kV__law_deck dc__law_deck pm__law_deck cd__law_deck ct__law_deck : Value}
    {od__law_draw an__law_draw : Option Addr} {sl__law_draw : Array (Option Value)} {oc__law_draw kV__law_draw dc__law_draw pm__law_draw cd__law_draw ct__law_draw : Value}
    {od__law_pick an__law_pick : Option Addr} {sl__law_pick : Array (Option Value)} {oc__law_pick kV__law_pick dc__law_pick pm__law_pick cd__law_pick ct__law_pick : Value}
    {od__law_part an__law_part : Option Addr} {sl__law_part : Array (Option Value)} {oc__law_part kV__law_part dc__law_part pm__law_part cd__law_part ct__law_part : Value}
    {od__law_loom an__law_loom : Option Addr} {sl__law_loom : Array (Option Value)} {oc__law_loom kV__law_loom dc__law_loom pm__law_loom cd__law_loom ct__law_loom : Value}
    {od__law_signs an__law_signs : Option Addr} {sl__law_signs : Array (Option Value)} {oc__law_signs kV__law_signs dc__law_signs pm__law_signs cd__law_signs ct__law_signs : Value}
    {od__law_odd an__law_odd : Option Addr} {sl__law_odd : Array (Option Value)} {oc__law_odd kV__law_odd dc__law_odd pm__law_odd cd__law_odd ct__law_odd : Value}
    {od__law_bent an__law_bent : Option Addr} {sl__law_bent : Array (Option Value)} {oc__law_bent kV__law_bent dc__law_bent pm__law_bent cd__law_bent ct__law_bent : Value}
    {od__law_is_whole an__law_is_whole : Option Addr} {sl__law_is_whole : Array (Option Value)} {oc__law_is_whole kV__law_is_whole dc__law_is_whole pm__law_is_whole cd__law_is_whole ct__law_is_whole : Value}
    {od__law_is_lot an__law_is_lot : Option Addr} {sl__law_is_lot : Array (Option Value)} {oc__law_is_lot kV__law_is_lot dc__law_is_lot pm__law_is_lot cd__law_is_lot ct__law_is_lot : Value}
    {od__law_great an__law_great : Option Addr} {sl__law_great : Array (Option Value)} {oc__law_great kV__law_great dc__law_great pm__law_great cd__law_great ct__law_great : Value}
    {od__law_bad an__law_bad : Option Addr} {sl__law_bad : Array (Option Value)} {oc__law_bad kV__law_bad dc__law_bad pm__law_bad cd__law_bad ct__law_bad : Value}
    {od__law_built an__law_built : Option Addr} {sl__law_built : Array (Option Value)} {oc__law_built kV__law_built dc__law_built pm__law_built cd__law_built ct__law_built : Value}
    {od__law_right an__law_right : Option Addr} {sl__law_right : Array (Option Value)} {oc__law_right kV__law_right dc__law_right pm__law_right cd__law_right ct__law_right : Value}
    {od__law_code an__law_code : Option Addr} {sl__law_code : Array (Option Value)} {oc__law_code kV__law_code dc__law_code pm__law_code cd__law_code ct__law_code : Value}
    {od__law_others_right an__law_others_right : Option Addr} {sl__law_others_right : Array (Option Value)} {oc__law_others_right kV__law_others_right dc__law_others_right pm__law_others_right cd__law_others_right ct__law_others_right : Value}
    {od_law an_law : Option Addr} {sl_law : Array (Option Value)} {oc_law kV_law dc_law pm_law cd_law ct_law : Value}
    {od_Loom___init__ an_Loom___init__ : Option Addr} {sl_Loom___init__ : Array (Option Value)} {oc_Loom___init__ kV_Loom___init__ dc_Loom___init__ pm_Loom___init__ cd_Loom___init__ ct_Loom___init__ : Value}
    {od_Loom___len__ an_Loom___len__ : Option Addr} {sl_Loom___len__ : Array (Option Value)} {oc_Loom___len__ kV_Loom___len__ dc_Loom___len__ pm_Loom___len__ cd_Loom___len__ ct_Loom___len__ : Value}
    {od_Loom___eq__ an_Loom___eq__ : Option Addr} {sl_Loom___eq__ : Array (Option Value)} {oc_Loom___eq__ kV_Loom___eq__ dc_Loom___eq__ pm_Loom___eq__ cd_Loom___eq__ ct_Loom___eq__ : Value}
    {od_Loom_lift_of an_Loom_lift_of : Option Addr} {sl_Loom_lift_of : Array (Option Value)} {oc_Loom_lift_of kV_Loom_lift_of dc_Loom_lift_of pm_Loom_lift_of cd_Loom_lift_of ct_Loom_lift_of : Value}
    {od_Loom_with_lift an_Loom_with_lift : Option Addr} {sl_Loom_with_lift : Array (Option Value)} {oc_Loom_with_lift kV_Loom_with_lift dc_Loom_with_lift pm_Loom_with_lift cd_Loom_with_lift ct_Loom_with_lift : Value}
    {od_Loom_threaded an_Loom_threaded : Option Addr} {sl_Loom_threaded : Array (Option Value)} {oc_Loom_threaded kV_Loom_threaded dc_Loom_threaded pm_Loom_threaded cd_Loom_threaded ct_Loom_threaded : Value}
    {nm_BadLoom : Str} {qq_BadLoom : Str} {NN_BadLoom : Addr} {bs_BadLoom : List Value} {sn_BadLoom : List Str} {sb_BadLoom : List Value} {ab_BadLoom : Bool} {co_BadLoom : Option Bool} {dd_BadLoom : Option Addr} {m0_BadLoom : Option Value} {m1_BadLoom : Option Value} {m2_BadLoom : Option Value} {m3_BadLoom : Option Value} {m5_BadLoom : Option Value}
    {oi_BadLoom : Value} {oe_BadLoom ai_BadLoom : Option Addr} {si_BadLoom : Array (Option Value)} {di_BadLoom pi_BadLoom ci_BadLoom ti_BadLoom : Value} {u1_BadLoom u2_BadLoom v1_BadLoom v2_BadLoom v3_BadLoom v4_BadLoom : Pos}
    {nm_BadText : Str} {qq_BadText : Str} {NN_BadText : Addr} {bs_BadText : List Value} {sn_BadText : List Str} {sb_BadText : List Value} {ab_BadText : Bool} {co_BadText : Option Bool} {dd_BadText : Option Addr} {m0_BadText : Option Value} {m1_BadText : Option Value} {m2_BadText : Option Value} {m3_BadText : Option Value} {m5_BadText : Option Value}
    {oi_BadText : Value} {oe_BadText ai_BadText : Option Addr} {si_BadText : Array (Option Value)} {di_BadText pi_BadText ci_BadText ti_BadText : Value} {u1_BadText u2_BadText v1_BadText v2_BadText v3_BadText v4_BadText : Pos}
    (g_LoomError : PySem.W.nsIn K mainGlobals "LoomError" = some (some (.ref c_LoomError)))
    (g_BadLoom : PySem.W.nsIn K mainGlobals "BadLoom" = some (some (.ref c_BadLoom)))
    (g_BadText : PySem.W.nsIn K mainGlobals "BadText" = some (some (.ref c_BadText)))
    (g_Loom : PySem.W.nsIn K mainGlobals "Loom" = some (some (.ref c_Loom)))
    (a_LETTERS : PySem.W.nsIn K mainGlobals "LETTERS" = some (some (.str "abcdefghijklmnopqrstuvwxyz" t_LETTERS)))
    (a_MOST_SHAFTS : PySem.W.nsIn K mainGlobals "MOST_SHAFTS" = some (some (.int 99 t_MOST_SHAFTS)))
    (pg_Loom : PySem.W.plainGet K c_Loom Str.empty = true)
    (hd_Loom : PySem.W.hasDictIn K c_Loom = true)
    (po_Loom : PySem.W.plainOver K c_Loom = true)
    (sa_Loom : PySem.W.findIn K (.ref c_Loom) "__setattr__" = some (some (.builtin "object.__setattr__")))
    (o1_Loom : PySem.W.findIn K (.ref c_Loom) "__class__" = some (some (.builtin "object.__class__")))
    (o2_Loom : PySem.W.specialIn K (.builtin "object.__class__") "__get__" = some (some (.builtin "getset_descriptor.__get__")))
    (o3_Loom : PySem.W.takesIn K (.builtin "object.__class__") = some true)
    (o4_Loom : PySem.W.mroIn K c_Loom (.type "object") = some true)
    (ty_Loom : PySem.W.typeIn K (.ref c_Loom) = some (.type "type"))
    (se_Loom : PySem.W.mroIn K c_Loom (.ref c_Loom) = some true)
    (nb_Loom_bool : PySem.W.mroIn K c_Loom (.type "bool") = some false)
    (nb_Loom_int : PySem.W.mroIn K c_Loom (.type "int") = some false)
    (nb_Loom_str : PySem.W.mroIn K c_Loom (.type "str") = some false)
    (nb_Loom_tuple : PySem.W.mroIn K c_Loom (.type "tuple") = some false)
    (nb_Loom_list : PySem.W.mroIn K c_Loom (.type "list") = some false)
    (nb_Loom_dict : PySem.W.mroIn K c_Loom (.type "dict") = some false)
    (mk1_Loom : PySem.W.makesIn K c_Loom = true)
    (mk2_Loom : PySem.W.findIn K (.ref c_Loom) "__init__" = some (some (.ref f_Loom___init__)))
    (mk3_Loom : PySem.W.isFn K (.ref f_Loom___init__) = true)
    (mk4_Loom : PySem.W.keepIn K (.ref c_Loom) = true)
    (na_Loom_shafts : PySem.W.findIn K (.ref c_Loom) "shafts" = some none)
    (na_Loom_threading : PySem.W.findIn K (.ref c_Loom) "threading" = some none)
    (na_Loom_lifts : PySem.W.findIn K (.ref c_Loom) "lifts" = some none)
    (na_Loom_letters : PySem.W.findIn K (.ref c_Loom) "letters" = some none)
    (na_Loom_used : PySem.W.findIn K (.ref c_Loom) "used" = some none)
    (s_Loom___len__ : PySem.W.findIn K (.ref c_Loom) "__len__" = some (some (.ref f_Loom___len__)))
    (fn_Loom___len__ : PySem.W.isFn K (.ref f_Loom___len__) = true)
    (s_Loom___eq__ : PySem.W.findIn K (.ref c_Loom) "__eq__" = some (some (.ref f_Loom___eq__)))
    (fn_Loom___eq__ : PySem.W.isFn K (.ref f_Loom___eq__) = true)
    (s_Loom_lift_of : PySem.W.findIn K (.ref c_Loom) "lift_of" = some (some (.ref f_Loom_lift_of)))
    (fn_Loom_lift_of : PySem.W.isFn K (.ref f_Loom_lift_of) = true)
    (s_Loom_with_lift : PySem.W.findIn K (.ref c_Loom) "with_lift" = some (some (.ref f_Loom_with_lift)))
    (fn_Loom_with_lift : PySem.W.isFn K (.ref f_Loom_with_lift) = true)
    (s_Loom_threaded : PySem.W.findIn K (.ref c_Loom) "threaded" = some (some (.ref f_Loom_threaded)))
    (fn_Loom_threaded : PySem.W.isFn K (.ref f_Loom_threaded) = true)
    (ne_Loom : PySem.W.findIn K (.ref c_Loom) "__ne__" = some (some (.builtin "object.__ne__")))
    (so_Loom : PySem.W.subIn K (.ref c_Loom) (.type "object") = some true)
    (a_is_int : PySem.W.nsIn K mainGlobals "is_int" = some (some (.ref f_is_int)))
    (l_is_int : K.lookup f_is_int = some ⟨oc_is_int, od_is_int, .func (PySem.W.fnOf "is_int" "is_int" (defArgs st_is_int) (defBody st_is_int) (defScope st_is_int) .none kV_is_int dc_is_int pm_is_int an_is_int cd_is_int ct_is_int), sl_is_int⟩)
    (cc_is_int : PySem.W.codeIn K cd_is_int "is_int" = true)
    (k_is_int : PySem.W.keepIn K (.ref f_is_int) = true)
    (a_is_number_below : PySem.W.nsIn K mainGlobals "is_number_below" = some (some (.ref f_is_number_below)))
    (l_is_number_below : K.lookup f_is_number_below = some ⟨oc_is_number_below, od_is_number_below, .func (PySem.W.fnOf "is_number_below" "is_number_below" (defArgs st_is_number_below) (defBody st_is_number_below) (defScope st_is_number_below) .none kV_is_number_below dc_is_number_below pm_is_number_below an_is_number_below cd_is_number_below ct_is_number_below), sl_is_number_below⟩)
    (cc_is_number_below : PySem.W.codeIn K cd_is_number_below "is_number_below" = true)
    (k_is_number_below : PySem.W.keepIn K (.ref f_is_number_below) = true)
    (a_is_ascending : PySem.W.nsIn K mainGlobals "is_ascending" = some (some (.ref f_is_ascending)))
    (l_is_ascending : K.lookup f_is_ascending = some ⟨oc_is_ascending, od_is_ascending, .func (PySem.W.fnOf "is_ascending" "is_ascending" (defArgs st_is_ascending) (defBody st_is_ascending) (defScope st_is_ascending) .none kV_is_ascending dc_is_ascending pm_is_ascending an_is_ascending cd_is_ascending ct_is_ascending), sl_is_ascending⟩)
    (cc_is_ascending : PySem.W.codeIn K cd_is_ascending "is_ascending" = true)
    (k_is_ascending : PySem.W.keepIn K (.ref f_is_ascending) = true)
    (a_is_tuple_below : PySem.W.nsIn K mainGlobals "is_tuple_below" = some (some (.ref f_is_tuple_below)))
    (l_is_tuple_below : K.lookup f_is_tuple_below = some ⟨oc_is_tuple_below, od_is_tuple_below, .func (PySem.W.fnOf "is_tuple_below" "is_tuple_below" (defArgs st_is_tuple_below) (defBody st_is_tuple_below) (defScope st_is_tuple_below) .none kV_is_tuple_below dc_is_tuple_below pm_is_tuple_below an_is_tuple_below cd_is_tuple_below ct_is_tuple_below), sl_is_tuple_below⟩)
    (cc_is_tuple_below : PySem.W.codeIn K cd_is_tuple_below "is_tuple_below" = true)
    (k_is_tuple_below : PySem.W.keepIn K (.ref f_is_tuple_below) = true)
    (a_is_string_over : PySem.W.nsIn K mainGlobals "is_string_over" = some (some (.ref f_is_string_over)))
    (l_is_string_over : K.lookup f_is_string_over = some ⟨oc_is_string_over, od_is_string_over, .func (PySem.W.fnOf "is_string_over" "is_string_over" (defArgs st_is_string_over) (defBody st_is_string_over) (defScope st_is_string_over) .none kV_is_string_over dc_is_string_over pm_is_string_over an_is_string_over cd_is_string_over ct_is_string_over), sl_is_string_over⟩)
    (cc_is_string_over : PySem.W.codeIn K cd_is_string_over "is_string_over" = true)
    (k_is_string_over : PySem.W.keepIn K (.ref f_is_string_over) = true)
    (a_is_shaft_count : PySem.W.nsIn K mainGlobals "is_shaft_count" = some (some (.ref f_is_shaft_count)))
    (l_is_shaft_count : K.lookup f_is_shaft_count = some ⟨oc_is_shaft_count, od_is_shaft_count, .func (PySem.W.fnOf "is_shaft_count" "is_shaft_count" (defArgs st_is_shaft_count) (defBody st_is_shaft_count) (defScope st_is_shaft_count) .none kV_is_shaft_count dc_is_shaft_count pm_is_shaft_count an_is_shaft_count cd_is_shaft_count ct_is_shaft_count), sl_is_shaft_count⟩)
    (cc_is_shaft_count : PySem.W.codeIn K cd_is_shaft_count "is_shaft_count" = true)
    (k_is_shaft_count : PySem.W.keepIn K (.ref f_is_shaft_count) = true)
    (a_is_threading : PySem.W.nsIn K mainGlobals "is_threading" = some (some (.ref f_is_threading)))
    (l_is_threading : K.lookup f_is_threading = some ⟨oc_is_threading, od_is_threading, .func (PySem.W.fnOf "is_threading" "is_threading" (defArgs st_is_threading) (defBody st_is_threading) (defScope st_is_threading) .none kV_is_threading dc_is_threading pm_is_threading an_is_threading cd_is_threading ct_is_threading), sl_is_threading⟩)
    (cc_is_threading : PySem.W.codeIn K cd_is_threading "is_threading" = true)
    (k_is_threading : PySem.W.keepIn K (.ref f_is_threading) = true)
    (a_is_treadling : PySem.W.nsIn K mainGlobals "is_treadling" = some (some (.ref f_is_treadling)))
    (l_is_treadling : K.lookup f_is_treadling = some ⟨oc_is_treadling, od_is_treadling, .func (PySem.W.fnOf "is_treadling" "is_treadling" (defArgs st_is_treadling) (defBody st_is_treadling) (defScope st_is_treadling) .none kV_is_treadling dc_is_treadling pm_is_treadling an_is_treadling cd_is_treadling ct_is_treadling), sl_is_treadling⟩)
    (cc_is_treadling : PySem.W.codeIn K cd_is_treadling "is_treadling" = true)
    (k_is_treadling : PySem.W.keepIn K (.ref f_is_treadling) = true)
    (a__law_deck : PySem.W.nsIn K mainGlobals "_law_deck" = some (some (.ref f__law_deck)))
    (l__law_deck : K.lookup f__law_deck = some ⟨oc__law_deck, od__law_deck, .func (PySem.W.fnOf "_law_deck" "_law_deck" (defArgs st__law_deck) (defBody st__law_deck) (defScope st__law_deck) .none kV__law_deck dc__law_deck pm__law_deck an__law_deck cd__law_deck ct__law_deck), sl__law_deck⟩)
    (cc__law_deck : PySem.W.codeIn K cd__law_deck "_law_deck" = true)
    (k__law_deck : PySem.W.keepIn K (.ref f__law_deck) = true)
    (a__law_draw : PySem.W.nsIn K mainGlobals "_law_draw" = some (some (.ref f__law_draw)))
    (l__law_draw : K.lookup f__law_draw = some ⟨oc__law_draw, od__law_draw, .func (PySem.W.fnOf "_law_draw" "_law_draw" (defArgs st__law_draw) (defBody st__law_draw) (defScope st__law_draw) .none kV__law_draw dc__law_draw pm__law_draw an__law_draw cd__law_draw ct__law_draw), sl__law_draw⟩)
    (cc__law_draw : PySem.W.codeIn K cd__law_draw "_law_draw" = true)
    (k__law_draw : PySem.W.keepIn K (.ref f__law_draw) = true)
    (a__law_pick : PySem.W.nsIn K mainGlobals "_law_pick" = some (some (.ref f__law_pick)))
    (l__law_pick : K.lookup f__law_pick = some ⟨oc__law_pick, od__law_pick, .func (PySem.W.fnOf "_law_pick" "_law_pick" (defArgs st__law_pick) (defBody st__law_pick) (defScope st__law_pick) .none kV__law_pick dc__law_pick pm__law_pick an__law_pick cd__law_pick ct__law_pick), sl__law_pick⟩)
    (cc__law_pick : PySem.W.codeIn K cd__law_pick "_law_pick" = true)
    (k__law_pick : PySem.W.keepIn K (.ref f__law_pick) = true)
    (a__law_part : PySem.W.nsIn K mainGlobals "_law_part" = some (some (.ref f__law_part)))
    (l__law_part : K.lookup f__law_part = some ⟨oc__law_part, od__law_part, .func (PySem.W.fnOf "_law_part" "_law_part" (defArgs st__law_part) (defBody st__law_part) (defScope st__law_part) .none kV__law_part dc__law_part pm__law_part an__law_part cd__law_part ct__law_part), sl__law_part⟩)
    (cc__law_part : PySem.W.codeIn K cd__law_part "_law_part" = true)
    (k__law_part : PySem.W.keepIn K (.ref f__law_part) = true)
    (a__law_loom : PySem.W.nsIn K mainGlobals "_law_loom" = some (some (.ref f__law_loom)))
    (l__law_loom : K.lookup f__law_loom = some ⟨oc__law_loom, od__law_loom, .func (PySem.W.fnOf "_law_loom" "_law_loom" (defArgs st__law_loom) (defBody st__law_loom) (defScope st__law_loom) .none kV__law_loom dc__law_loom pm__law_loom an__law_loom cd__law_loom ct__law_loom), sl__law_loom⟩)
    (cc__law_loom : PySem.W.codeIn K cd__law_loom "_law_loom" = true)
    (k__law_loom : PySem.W.keepIn K (.ref f__law_loom) = true)
    (a__law_signs : PySem.W.nsIn K mainGlobals "_law_signs" = some (some (.ref f__law_signs)))
    (l__law_signs : K.lookup f__law_signs = some ⟨oc__law_signs, od__law_signs, .func (PySem.W.fnOf "_law_signs" "_law_signs" (defArgs st__law_signs) (defBody st__law_signs) (defScope st__law_signs) .none kV__law_signs dc__law_signs pm__law_signs an__law_signs cd__law_signs ct__law_signs), sl__law_signs⟩)
    (cc__law_signs : PySem.W.codeIn K cd__law_signs "_law_signs" = true)
    (k__law_signs : PySem.W.keepIn K (.ref f__law_signs) = true)
    (a__law_odd : PySem.W.nsIn K mainGlobals "_law_odd" = some (some (.ref f__law_odd)))
    (l__law_odd : K.lookup f__law_odd = some ⟨oc__law_odd, od__law_odd, .func (PySem.W.fnOf "_law_odd" "_law_odd" (defArgs st__law_odd) (defBody st__law_odd) (defScope st__law_odd) .none kV__law_odd dc__law_odd pm__law_odd an__law_odd cd__law_odd ct__law_odd), sl__law_odd⟩)
    (cc__law_odd : PySem.W.codeIn K cd__law_odd "_law_odd" = true)
    (k__law_odd : PySem.W.keepIn K (.ref f__law_odd) = true)
    (a__law_bent : PySem.W.nsIn K mainGlobals "_law_bent" = some (some (.ref f__law_bent)))
    (l__law_bent : K.lookup f__law_bent = some ⟨oc__law_bent, od__law_bent, .func (PySem.W.fnOf "_law_bent" "_law_bent" (defArgs st__law_bent) (defBody st__law_bent) (defScope st__law_bent) .none kV__law_bent dc__law_bent pm__law_bent an__law_bent cd__law_bent ct__law_bent), sl__law_bent⟩)
    (cc__law_bent : PySem.W.codeIn K cd__law_bent "_law_bent" = true)
    (k__law_bent : PySem.W.keepIn K (.ref f__law_bent) = true)
    (a__law_is_whole : PySem.W.nsIn K mainGlobals "_law_is_whole" = some (some (.ref f__law_is_whole)))
    (l__law_is_whole : K.lookup f__law_is_whole = some ⟨oc__law_is_whole, od__law_is_whole, .func (PySem.W.fnOf "_law_is_whole" "_law_is_whole" (defArgs st__law_is_whole) (defBody st__law_is_whole) (defScope st__law_is_whole) .none kV__law_is_whole dc__law_is_whole pm__law_is_whole an__law_is_whole cd__law_is_whole ct__law_is_whole), sl__law_is_whole⟩)
    (cc__law_is_whole : PySem.W.codeIn K cd__law_is_whole "_law_is_whole" = true)
    (k__law_is_whole : PySem.W.keepIn K (.ref f__law_is_whole) = true)
    (a__law_is_lot : PySem.W.nsIn K mainGlobals "_law_is_lot" = some (some (.ref f__law_is_lot)))
    (l__law_is_lot : K.lookup f__law_is_lot = some ⟨oc__law_is_lot, od__law_is_lot, .func (PySem.W.fnOf "_law_is_lot" "_law_is_lot" (defArgs st__law_is_lot) (defBody st__law_is_lot) (defScope st__law_is_lot) .none kV__law_is_lot dc__law_is_lot pm__law_is_lot an__law_is_lot cd__law_is_lot ct__law_is_lot), sl__law_is_lot⟩)
    (cc__law_is_lot : PySem.W.codeIn K cd__law_is_lot "_law_is_lot" = true)
    (k__law_is_lot : PySem.W.keepIn K (.ref f__law_is_lot) = true)
    (a__law_great : PySem.W.nsIn K mainGlobals "_law_great" = some (some (.ref f__law_great)))
    (l__law_great : K.lookup f__law_great = some ⟨oc__law_great, od__law_great, .func (PySem.W.fnOf "_law_great" "_law_great" (defArgs st__law_great) (defBody st__law_great) (defScope st__law_great) .none kV__law_great dc__law_great pm__law_great an__law_great cd__law_great ct__law_great), sl__law_great⟩)
    (cc__law_great : PySem.W.codeIn K cd__law_great "_law_great" = true)
    (k__law_great : PySem.W.keepIn K (.ref f__law_great) = true)
    (a__law_bad : PySem.W.nsIn K mainGlobals "_law_bad" = some (some (.ref f__law_bad)))
    (l__law_bad : K.lookup f__law_bad = some ⟨oc__law_bad, od__law_bad, .func (PySem.W.fnOf "_law_bad" "_law_bad" (defArgs st__law_bad) (defBody st__law_bad) (defScope st__law_bad) .none kV__law_bad dc__law_bad pm__law_bad an__law_bad cd__law_bad ct__law_bad), sl__law_bad⟩)
    (cc__law_bad : PySem.W.codeIn K cd__law_bad "_law_bad" = true)
    (k__law_bad : PySem.W.keepIn K (.ref f__law_bad) = true)
    (a__law_built : PySem.W.nsIn K mainGlobals "_law_built" = some (some (.ref f__law_built)))
    (l__law_built : K.lookup f__law_built = some ⟨oc__law_built, od__law_built, .func (PySem.W.fnOf "_law_built" "_law_built" (defArgs st__law_built) (defBody st__law_built) (defScope st__law_built) .none kV__law_built dc__law_built pm__law_built an__law_built cd__law_built ct__law_built), sl__law_built⟩)
    (cc__law_built : PySem.W.codeIn K cd__law_built "_law_built" = true)
    (k__law_built : PySem.W.keepIn K (.ref f__law_built) = true)
    (a__law_right : PySem.W.nsIn K mainGlobals "_law_right" = some (some (.ref f__law_right)))
    (l__law_right : K.lookup f__law_right = some ⟨oc__law_right, od__law_right, .func (PySem.W.fnOf "_law_right" "_law_right" (defArgs st__law_right) (defBody st__law_right) (defScope st__law_right) .none kV__law_right dc__law_right pm__law_right an__law_right cd__law_right ct__law_right), sl__law_right⟩)
    (cc__law_right : PySem.W.codeIn K cd__law_right "_law_right" = true)
    (k__law_right : PySem.W.keepIn K (.ref f__law_right) = true)
    (a__law_code : PySem.W.nsIn K mainGlobals "_law_code" = some (some (.ref f__law_code)))
    (l__law_code : K.lookup f__law_code = some ⟨oc__law_code, od__law_code, .func (PySem.W.fnOf "_law_code" "_law_code" (defArgs st__law_code) (defBody st__law_code) (defScope st__law_code) .none kV__law_code dc__law_code pm__law_code an__law_code cd__law_code ct__law_code), sl__law_code⟩)
    (cc__law_code : PySem.W.codeIn K cd__law_code "_law_code" = true)
    (k__law_code : PySem.W.keepIn K (.ref f__law_code) = true)
    (a__law_others_right : PySem.W.nsIn K mainGlobals "_law_others_right" = some (some (.ref f__law_others_right)))
    (l__law_others_right : K.lookup f__law_others_right = some ⟨oc__law_others_right, od__law_others_right, .func (PySem.W.fnOf "_law_others_right" "_law_others_right" (defArgs st__law_others_right) (defBody st__law_others_right) (defScope st__law_others_right) .none kV__law_others_right dc__law_others_right pm__law_others_right an__law_others_right cd__law_others_right ct__law_others_right), sl__law_others_right⟩)
    (cc__law_others_right : PySem.W.codeIn K cd__law_others_right "_law_others_right" = true)
    (k__law_others_right : PySem.W.keepIn K (.ref f__law_others_right) = true)
    (a_law : PySem.W.nsIn K mainGlobals "law" = some (some (.ref f_law)))
    (l_law : K.lookup f_law = some ⟨oc_law, od_law, .func (PySem.W.fnOf "law" "law" (defArgs st_law) (defBody st_law) (defScope st_law) .none kV_law dc_law pm_law an_law cd_law ct_law), sl_law⟩)
    (cc_law : PySem.W.codeIn K cd_law "law" = true)
    (k_law : PySem.W.keepIn K (.ref f_law) = true)
    (l_Loom___init__ : K.lookup f_Loom___init__ = some ⟨oc_Loom___init__, od_Loom___init__, .func (PySem.W.fnOf "__init__" "Loom.__init__" (defArgs st_Loom___init__) (defBody st_Loom___init__) (defScope st_Loom___init__) .none kV_Loom___init__ dc_Loom___init__ pm_Loom___init__ an_Loom___init__ cd_Loom___init__ ct_Loom___init__), sl_Loom___init__⟩)
    (cc_Loom___init__ : PySem.W.codeIn K cd_Loom___init__ "Loom.__init__" = true)
    (k_Loom___init__ : PySem.W.keepIn K (.ref f_Loom___init__) = true)
    (l_Loom___len__ : K.lookup f_Loom___len__ = some ⟨oc_Loom___len__, od_Loom___len__, .func (PySem.W.fnOf "__len__" "Loom.__len__" (defArgs st_Loom___len__) (defBody st_Loom___len__) (defScope st_Loom___len__) .none kV_Loom___len__ dc_Loom___len__ pm_Loom___len__ an_Loom___len__ cd_Loom___len__ ct_Loom___len__), sl_Loom___len__⟩)
    (cc_Loom___len__ : PySem.W.codeIn K cd_Loom___len__ "Loom.__len__" = true)
    (k_Loom___len__ : PySem.W.keepIn K (.ref f_Loom___len__) = true)
    (l_Loom___eq__ : K.lookup f_Loom___eq__ = some ⟨oc_Loom___eq__, od_Loom___eq__, .func (PySem.W.fnOf "__eq__" "Loom.__eq__" (defArgs st_Loom___eq__) (defBody st_Loom___eq__) (defScope st_Loom___eq__) .none kV_Loom___eq__ dc_Loom___eq__ pm_Loom___eq__ an_Loom___eq__ cd_Loom___eq__ ct_Loom___eq__), sl_Loom___eq__⟩)
    (cc_Loom___eq__ : PySem.W.codeIn K cd_Loom___eq__ "Loom.__eq__" = true)
    (k_Loom___eq__ : PySem.W.keepIn K (.ref f_Loom___eq__) = true)
    (l_Loom_lift_of : K.lookup f_Loom_lift_of = some ⟨oc_Loom_lift_of, od_Loom_lift_of, .func (PySem.W.fnOf "lift_of" "Loom.lift_of" (defArgs st_Loom_lift_of) (defBody st_Loom_lift_of) (defScope st_Loom_lift_of) .none kV_Loom_lift_of dc_Loom_lift_of pm_Loom_lift_of an_Loom_lift_of cd_Loom_lift_of ct_Loom_lift_of), sl_Loom_lift_of⟩)
    (cc_Loom_lift_of : PySem.W.codeIn K cd_Loom_lift_of "Loom.lift_of" = true)
    (k_Loom_lift_of : PySem.W.keepIn K (.ref f_Loom_lift_of) = true)
    (l_Loom_with_lift : K.lookup f_Loom_with_lift = some ⟨oc_Loom_with_lift, od_Loom_with_lift, .func (PySem.W.fnOf "with_lift" "Loom.with_lift" (defArgs st_Loom_with_lift) (defBody st_Loom_with_lift) (defScope st_Loom_with_lift) .none kV_Loom_with_lift dc_Loom_with_lift pm_Loom_with_lift an_Loom_with_lift cd_Loom_with_lift ct_Loom_with_lift), sl_Loom_with_lift⟩)
    (cc_Loom_with_lift : PySem.W.codeIn K cd_Loom_with_lift "Loom.with_lift" = true)
    (k_Loom_with_lift : PySem.W.keepIn K (.ref f_Loom_with_lift) = true)
    (l_Loom_threaded : K.lookup f_Loom_threaded = some ⟨oc_Loom_threaded, od_Loom_threaded, .func (PySem.W.fnOf "threaded" "Loom.threaded" (defArgs st_Loom_threaded) (defBody st_Loom_threaded) (defScope st_Loom_threaded) .none kV_Loom_threaded dc_Loom_threaded pm_Loom_threaded an_Loom_threaded cd_Loom_threaded ct_Loom_threaded), sl_Loom_threaded⟩)
    (cc_Loom_threaded : PySem.W.codeIn K cd_Loom_threaded "Loom.threaded" = true)
    (k_Loom_threaded : PySem.W.keepIn K (.ref f_Loom_threaded) = true)
    (z_all : PySem.W.nsIn K mainGlobals "all" = some none)
    (z_bool : PySem.W.nsIn K mainGlobals "bool" = some none)
    (z_dict : PySem.W.nsIn K mainGlobals "dict" = some none)
    (z_enumerate : PySem.W.nsIn K mainGlobals "enumerate" = some none)
    (z_int : PySem.W.nsIn K mainGlobals "int" = some none)
    (z_isinstance : PySem.W.nsIn K mainGlobals "isinstance" = some none)
    (z_len : PySem.W.nsIn K mainGlobals "len" = some none)
    (z_list : PySem.W.nsIn K mainGlobals "list" = some none)
    (z_range : PySem.W.nsIn K mainGlobals "range" = some none)
    (z_repr : PySem.W.nsIn K mainGlobals "repr" = some none)
    (z_set : PySem.W.nsIn K mainGlobals "set" = some none)
    (z_sorted : PySem.W.nsIn K mainGlobals "sorted" = some none)
    (z_str : PySem.W.nsIn K mainGlobals "str" = some none)
    (z_sum : PySem.W.nsIn K mainGlobals "sum" = some none)
    (z_tuple : PySem.W.nsIn K mainGlobals "tuple" = some none)
    (z_zip : PySem.W.nsIn K mainGlobals "zip" = some none)
    (iL : PySem.W.isClsIn K c_LoomError = true)
    (tyL : PySem.W.typeIn K (.ref c_LoomError) = some (.type "type"))
    (xL_BadLoom : K.lookup c_BadLoom = some (excClassObj nm_BadLoom qq_BadLoom c_BadLoom NN_BadLoom bs_BadLoom [.ref c_LoomError, .type "Exception", .type "BaseException", .type "object"] true sn_BadLoom sb_BadLoom ab_BadLoom co_BadLoom dd_BadLoom m0_BadLoom m1_BadLoom m2_BadLoom m3_BadLoom m5_BadLoom "Exception.__new__"))
    (sa_BadLoom : PySem.W.findIn K (.ref c_BadLoom) "__setattr__" = some (some (.builtin "object.__setattr__")))
    (ga_BadLoom : PySem.W.findIn K (.ref c_BadLoom) "__getattribute__" = some (some (.builtin "BaseException.__getattribute__")))
    (gg_BadLoom : PySem.W.findIn K (.ref c_BadLoom) "__getattr__" = some none)
    (noN_BadLoom : PySem.W.findIn K (.ref c_BadLoom) "part" = some none)
    (tkr_BadLoom : PySem.W.takerIn K c_BadLoom "part" = some none)
    (iC_BadLoom : PySem.W.findIn K (.ref c_BadLoom) "__init__" = some (some (.ref i_BadLoom)))
    (tI_BadLoom : PySem.W.typeIn K (.ref i_BadLoom) = some (.type "function"))
    (kC_BadLoom : PySem.W.keepIn K (.ref c_BadLoom) = true)
    (exC_BadLoom : PySem.W.subIn K (.ref c_BadLoom) (.type "BaseException") = some true)
    (tyC_BadLoom : PySem.W.typeIn K (.ref c_BadLoom) = some (.type "type"))
    (hdC_BadLoom : PySem.W.hasDictIn K c_BadLoom = true)
    (lI_BadLoom : K.lookup i_BadLoom = some ⟨oi_BadLoom, oe_BadLoom, .func (PySem.W.fnOf "__init__" "BadLoom.__init__" (PySem.XBadLoom.iA u1_BadLoom u2_BadLoom) (PySem.XBadLoom.iB v1_BadLoom v2_BadLoom v3_BadLoom v4_BadLoom) PySem.XBadLoom.iS .none .none di_BadLoom pi_BadLoom ai_BadLoom ci_BadLoom ti_BadLoom), si_BadLoom⟩)
    (cI_BadLoom : PySem.W.codeIn K ci_BadLoom "BadLoom.__init__" = true)
    (ha_BadLoom : PySem.W.findIn K (.ref c_BadLoom) "__class__" = some (some (.builtin "object.__class__")))
    (hn_BadLoom : PySem.W.specialIn K (.builtin "object.__class__") "__get__" = some (some (.builtin "getset_descriptor.__get__")))
    (ht_BadLoom : PySem.W.takesIn K (.builtin "object.__class__") = some true)
    (hm_BadLoom : PySem.W.mroIn K c_BadLoom (.type "object") = some true)
    (sL_BadLoom : PySem.W.subIn K (.ref c_BadLoom) (.ref c_LoomError) = some true)
    (su_BadLoom_BadLoom : PySem.W.subIn K (.ref c_BadLoom) (.ref c_BadLoom) = some true)
    (su_BadLoom_BadText : PySem.W.subIn K (.ref c_BadLoom) (.ref c_BadText) = some false)
    (xL_BadText : K.lookup c_BadText = some (excClassObj nm_BadText qq_BadText c_BadText NN_BadText bs_BadText [.ref c_LoomError, .type "Exception", .type "BaseException", .type "object"] true sn_BadText sb_BadText ab_BadText co_BadText dd_BadText m0_BadText m1_BadText m2_BadText m3_BadText m5_BadText "Exception.__new__"))
    (sa_BadText : PySem.W.findIn K (.ref c_BadText) "__setattr__" = some (some (.builtin "object.__setattr__")))
    (ga_BadText : PySem.W.findIn K (.ref c_BadText) "__getattribute__" = some (some (.builtin "BaseException.__getattribute__")))
    (gg_BadText : PySem.W.findIn K (.ref c_BadText) "__getattr__" = some none)
    (noN_BadText : PySem.W.findIn K (.ref c_BadText) "line" = some none)
    (tkr_BadText : PySem.W.takerIn K c_BadText "line" = some none)
    (iC_BadText : PySem.W.findIn K (.ref c_BadText) "__init__" = some (some (.ref i_BadText)))
    (tI_BadText : PySem.W.typeIn K (.ref i_BadText) = some (.type "function"))
    (kC_BadText : PySem.W.keepIn K (.ref c_BadText) = true)
    (exC_BadText : PySem.W.subIn K (.ref c_BadText) (.type "BaseException") = some true)
    (tyC_BadText : PySem.W.typeIn K (.ref c_BadText) = some (.type "type"))
    (hdC_BadText : PySem.W.hasDictIn K c_BadText = true)
    (lI_BadText : K.lookup i_BadText = some ⟨oi_BadText, oe_BadText, .func (PySem.W.fnOf "__init__" "BadText.__init__" (PySem.XBadText.iA u1_BadText u2_BadText) (PySem.XBadText.iB v1_BadText v2_BadText v3_BadText v4_BadText) PySem.XBadText.iS .none .none di_BadText pi_BadText ai_BadText ci_BadText ti_BadText), si_BadText⟩)
    (cI_BadText : PySem.W.codeIn K ci_BadText "BadText.__init__" = true)
    (ha_BadText : PySem.W.findIn K (.ref c_BadText) "__class__" = some (some (.builtin "object.__class__")))
    (hn_BadText : PySem.W.specialIn K (.builtin "object.__class__") "__get__" = some (some (.builtin "getset_descriptor.__get__")))
    (ht_BadText : PySem.W.takesIn K (.builtin "object.__class__") = some true)
    (hm_BadText : PySem.W.mroIn K c_BadText (.type "object") = some true)
    (sL_BadText : PySem.W.subIn K (.ref c_BadText) (.ref c_LoomError) = some true)
    (su_BadText_BadLoom : PySem.W.subIn K (.ref c_BadText) (.ref c_BadLoom) = some false)
    (su_BadText_BadText : PySem.W.subIn K (.ref c_BadText) (.ref c_BadText) = some true) :
    ∃ fd : FuncData, (∀ (s : Shared) (v : Value), BindsTo s fd ⟨[v], []⟩ [("_law_script", v)]) ∧ ∀ base : Heap, K.In base → base.Ns mainGlobals mg → FnG l.prog w K mg base 10 fa fd ["_law_script"] (spLaw K) := by
  have e := hfa.symm.trans (PySem.W.mg_of X G a_law)
  cases e
  have te_BadLoom := fun (b : Bool) (C : Addr) (h1 : PySem.W.subIn K (.ref C) (.ref c_BadLoom) = some b) => PySem.W.exm_ref (cls := .ref C) exC_BadLoom hdC_BadLoom tyC_BadLoom h1
  obtain ⟨ini_BadLoom, ovr_BadLoom⟩ := ini_of xL_BadLoom
  have te_BadText := fun (b : Bool) (C : Addr) (h1 : PySem.W.subIn K (.ref C) (.ref c_BadText) = some b) => PySem.W.exm_ref (cls := .ref C) exC_BadText hdC_BadText tyC_BadText h1
  obtain ⟨ini_BadText, ovr_BadText⟩ := ini_of xL_BadText
  obtain ⟨cl, e_LoomError, e_BadLoom, e_BadText, e_Loom⟩ : ∃ cl : String → Addr, cl "LoomError" = c_LoomError ∧ cl "BadLoom" = c_BadLoom ∧ cl "BadText" = c_BadText ∧ cl "Loom" = c_Loom := ⟨fun s => if s = "LoomError" then c_LoomError else if s = "BadLoom" then c_BadLoom else if s = "BadText" then c_BadText else if s = "Loom" then c_Loom else 0, by simp, by simp, by simp, by simp⟩
  subst e_LoomError e_BadLoom e_BadText e_Loom
  have T : Txt K cl mg { f_is_int := f_is_int, fd_is_int := PySem.W.fnOf "is_int" "is_int" (defArgs st_is_int) (defBody st_is_int) (defScope st_is_int) .none kV_is_int dc_is_int pm_is_int an_is_int cd_is_int ct_is_int, f_is_number_below := f_is_number_below, fd_is_number_below := PySem.W.fnOf "is_number_below" "is_number_below" (defArgs st_is_number_below) (defBody st_is_number_below) (defScope st_is_number_below) .none kV_is_number_below dc_is_number_below pm_is_number_below an_is_number_below cd_is_number_below ct_is_number_below, f_is_ascending := f_is_ascending, fd_is_ascending := PySem.W.fnOf "is_ascending" "is_ascending" (defArgs st_is_ascending) (defBody st_is_ascending) (defScope st_is_ascending) .none kV_is_ascending dc_is_ascending pm_is_ascending an_is_ascending cd_is_ascending ct_is_ascending, f_is_tuple_below := f_is_tuple_below, fd_is_tuple_below := PySem.W.fnOf "is_tuple_below" "is_tuple_below" (defArgs st_is_tuple_below) (defBody st_is_tuple_below) (defScope st_is_tuple_below) .none kV_is_tuple_below dc_is_tuple_below pm_is_tuple_below an_is_tuple_below cd_is_tuple_below ct_is_tuple_below, f_is_string_over := f_is_string_over, fd_is_string_over := PySem.W.fnOf "is_string_over" "is_string_over" (defArgs st_is_string_over) (defBody st_is_string_over) (defScope st_is_string_over) .none kV_is_string_over dc_is_string_over pm_is_string_over an_is_string_over cd_is_string_over ct_is_string_over, f_is_shaft_count := f_is_shaft_count, fd_is_shaft_count := PySem.W.fnOf "is_shaft_count" "is_shaft_count" (defArgs st_is_shaft_count) (defBody st_is_shaft_count) (defScope st_is_shaft_count) .none kV_is_shaft_count dc_is_shaft_count pm_is_shaft_count an_is_shaft_count cd_is_shaft_count ct_is_shaft_count, f_is_threading := f_is_threading, fd_is_threading := PySem.W.fnOf "is_threading" "is_threading" (defArgs st_is_threading) (defBody st_is_threading) (defScope st_is_threading) .none kV_is_threading dc_is_threading pm_is_threading an_is_threading cd_is_threading ct_is_threading, f_is_treadling := f_is_treadling, fd_is_treadling := PySem.W.fnOf "is_treadling" "is_treadling" (defArgs st_is_treadling) (defBody st_is_treadling) (defScope st_is_treadling) .none kV_is_treadling dc_is_treadling pm_is_treadling an_is_treadling cd_is_treadling ct_is_treadling, f__law_deck := f__law_deck, fd__law_deck := PySem.W.fnOf "_law_deck" "_law_deck" (defArgs st__law_deck) (defBody st__law_deck) (defScope st__law_deck) .none kV__law_deck dc__law_deck pm__law_deck an__law_deck cd__law_deck ct__law_deck, f__law_draw := f__law_draw, fd__law_draw := PySem.W.fnOf "_law_draw" "_law_draw" (defArgs st__law_draw) (defBody st__law_draw) (defScope st__law_draw) .none kV__law_draw dc__law_draw pm__law_draw an__law_draw cd__law_draw ct__law_draw, f__law_pick := f__law_pick, fd__law_pick := PySem.W.fnOf "_law_pick" "_law_pick" (defArgs st__law_pick) (defBody st__law_pick) (defScope st__law_pick) .none kV__law_pick dc__law_pick pm__law_pick an__law_pick cd__law_pick ct__law_pick, f__law_part := f__law_part, fd__law_part := PySem.W.fnOf "_law_part" "_law_part" (defArgs st__law_part) (defBody st__law_part) (defScope st__law_part) .none kV__law_part dc__law_part pm__law_part an__law_part cd__law_part ct__law_part, f__law_loom := f__law_loom, fd__law_loom := PySem.W.fnOf "_law_loom" "_law_loom" (defArgs st__law_loom) (defBody st__law_loom) (defScope st__law_loom) .none kV__law_loom dc__law_loom pm__law_loom an__law_loom cd__law_loom ct__law_loom, f__law_signs := f__law_signs, fd__law_signs := PySem.W.fnOf "_law_signs" "_law_signs" (defArgs st__law_signs) (defBody st__law_signs) (defScope st__law_signs) .none kV__law_signs dc__law_signs pm__law_signs an__law_signs cd__law_signs ct__law_signs, f__law_odd := f__law_odd, fd__law_odd := PySem.W.fnOf "_law_odd" "_law_odd" (defArgs st__law_odd) (defBody st__law_odd) (defScope st__law_odd) .none kV__law_odd dc__law_odd pm__law_odd an__law_odd cd__law_odd ct__law_odd, f__law_bent := f__law_bent, fd__law_bent := PySem.W.fnOf "_law_bent" "_law_bent" (defArgs st__law_bent) (defBody st__law_bent) (defScope st__law_bent) .none kV__law_bent dc__law_bent pm__law_bent an__law_bent cd__law_bent ct__law_bent, f__law_is_whole := f__law_is_whole, fd__law_is_whole := PySem.W.fnOf "_law_is_whole" "_law_is_whole" (defArgs st__law_is_whole) (defBody st__law_is_whole) (defScope st__law_is_whole) .none kV__law_is_whole dc__law_is_whole pm__law_is_whole an__law_is_whole cd__law_is_whole ct__law_is_whole, f__law_is_lot := f__law_is_lot, fd__law_is_lot := PySem.W.fnOf "_law_is_lot" "_law_is_lot" (defArgs st__law_is_lot) (defBody st__law_is_lot) (defScope st__law_is_lot) .none kV__law_is_lot dc__law_is_lot pm__law_is_lot an__law_is_lot cd__law_is_lot ct__law_is_lot, f__law_great := f__law_great, fd__law_great := PySem.W.fnOf "_law_great" "_law_great" (defArgs st__law_great) (defBody st__law_great) (defScope st__law_great) .none kV__law_great dc__law_great pm__law_great an__law_great cd__law_great ct__law_great, f__law_bad := f__law_bad, fd__law_bad := PySem.W.fnOf "_law_bad" "_law_bad" (defArgs st__law_bad) (defBody st__law_bad) (defScope st__law_bad) .none kV__law_bad dc__law_bad pm__law_bad an__law_bad cd__law_bad ct__law_bad, f__law_built := f__law_built, fd__law_built := PySem.W.fnOf "_law_built" "_law_built" (defArgs st__law_built) (defBody st__law_built) (defScope st__law_built) .none kV__law_built dc__law_built pm__law_built an__law_built cd__law_built ct__law_built, f__law_right := f__law_right, fd__law_right := PySem.W.fnOf "_law_right" "_law_right" (defArgs st__law_right) (defBody st__law_right) (defScope st__law_right) .none kV__law_right dc__law_right pm__law_right an__law_right cd__law_right ct__law_right, f__law_code := f__law_code, fd__law_code := PySem.W.fnOf "_law_code" "_law_code" (defArgs st__law_code) (defBody st__law_code) (defScope st__law_code) .none kV__law_code dc__law_code pm__law_code an__law_code cd__law_code ct__law_code, f__law_others_right := f__law_others_right, fd__law_others_right := PySem.W.fnOf "_law_others_right" "_law_others_right" (defArgs st__law_others_right) (defBody st__law_others_right) (defScope st__law_others_right) .none kV__law_others_right dc__law_others_right pm__law_others_right an__law_others_right cd__law_others_right ct__law_others_right, f_law := fa, fd_law := PySem.W.fnOf "law" "law" (defArgs st_law) (defBody st_law) (defScope st_law) .none kV_law dc_law pm_law an_law cd_law ct_law, f_Loom___init__ := f_Loom___init__, fd_Loom___init__ := PySem.W.fnOf "__init__" "Loom.__init__" (defArgs st_Loom___init__) (defBody st_Loom___init__) (defScope st_Loom___init__) .none kV_Loom___init__ dc_Loom___init__ pm_Loom___init__ an_Loom___init__ cd_Loom___init__ ct_Loom___init__, f_Loom___len__ := f_Loom___len__, fd_Loom___len__ := PySem.W.fnOf "__len__" "Loom.__len__" (defArgs st_Loom___len__) (defBody st_Loom___len__) (defScope st_Loom___len__) .none kV_Loom___len__ dc_Loom___len__ pm_Loom___len__ an_Loom___len__ cd_Loom___len__ ct_Loom___len__, f_Loom___eq__ := f_Loom___eq__, fd_Loom___eq__ := PySem.W.fnOf "__eq__" "Loom.__eq__" (defArgs st_Loom___eq__) (defBody st_Loom___eq__) (defScope st_Loom___eq__) .none kV_Loom___eq__ dc_Loom___eq__ pm_Loom___eq__ an_Loom___eq__ cd_Loom___eq__ ct_Loom___eq__, f_Loom_lift_of := f_Loom_lift_of, fd_Loom_lift_of := PySem.W.fnOf "lift_of" "Loom.lift_of" (defArgs st_Loom_lift_of) (defBody st_Loom_lift_of) (defScope st_Loom_lift_of) .none kV_Loom_lift_of dc_Loom_lift_of pm_Loom_lift_of an_Loom_lift_of cd_Loom_lift_of ct_Loom_lift_of, f_Loom_with_lift := f_Loom_with_lift, fd_Loom_with_lift := PySem.W.fnOf "with_lift" "Loom.with_lift" (defArgs st_Loom_with_lift) (defBody st_Loom_with_lift) (defScope st_Loom_with_lift) .none kV_Loom_with_lift dc_Loom_with_lift pm_Loom_with_lift an_Loom_with_lift cd_Loom_with_lift ct_Loom_with_lift, f_Loom_threaded := f_Loom_threaded, fd_Loom_threaded := PySem.W.fnOf "threaded" "Loom.threaded" (defArgs st_Loom_threaded) (defBody st_Loom_threaded) (defScope st_Loom_threaded) .none kV_Loom_threaded dc_Loom_threaded pm_Loom_threaded an_Loom_threaded cd_Loom_threaded ct_Loom_threaded, i_BadLoom := i_BadLoom, i_BadText := i_BadText, t_LETTERS := t_LETTERS, t_MOST_SHAFTS := t_MOST_SHAFTS } := {
    F_is_int := fun_mk (st := st_is_int) l_is_int cc_is_int k_is_int,
    m_is_int := PySem.W.mg_of X G a_is_int,
    F_is_number_below := fun_mk (st := st_is_number_below) l_is_number_below cc_is_number_below k_is_number_below,
    m_is_number_below := PySem.W.mg_of X G a_is_number_below,
    F_is_ascending := fun_mk (st := st_is_ascending) l_is_ascending cc_is_ascending k_is_ascending,
    m_is_ascending := PySem.W.mg_of X G a_is_ascending,
    F_is_tuple_below := fun_mk (st := st_is_tuple_below) l_is_tuple_below cc_is_tuple_below k_is_tuple_below,
    m_is_tuple_below := PySem.W.mg_of X G a_is_tuple_below,
    F_is_string_over := fun_mk (st := st_is_string_over) l_is_string_over cc_is_string_over k_is_string_over,
    m_is_string_over := PySem.W.mg_of X G a_is_string_over,
    F_is_shaft_count := fun_mk (st := st_is_shaft_count) l_is_shaft_count cc_is_shaft_count k_is_shaft_count,
    m_is_shaft_count := PySem.W.mg_of X G a_is_shaft_count,
    F_is_threading := fun_mk (st := st_is_threading) l_is_threading cc_is_threading k_is_threading,
    m_is_threading := PySem.W.mg_of X G a_is_threading,
    F_is_treadling := fun_mk (st := st_is_treadling) l_is_treadling cc_is_treadling k_is_treadling,
    m_is_treadling := PySem.W.mg_of X G a_is_treadling,
    F__law_deck := fun_mk (st := st__law_deck) l__law_deck cc__law_deck k__law_deck,
    m__law_deck := PySem.W.mg_of X G a__law_deck,
    F__law_draw := fun_mk (st := st__law_draw) l__law_draw cc__law_draw k__law_draw,
    m__law_draw := PySem.W.mg_of X G a__law_draw,
    F__law_pick := fun_mk (st := st__law_pick) l__law_pick cc__law_pick k__law_pick,
    m__law_pick := PySem.W.mg_of X G a__law_pick,
    F__law_part := fun_mk (st := st__law_part) l__law_part cc__law_part k__law_part,
    m__law_part := PySem.W.mg_of X G a__law_part,
    F__law_loom := fun_mk (st := st__law_loom) l__law_loom cc__law_loom k__law_loom,
    m__law_loom := PySem.W.mg_of X G a__law_loom,
    F__law_signs := fun_mk (st := st__law_signs) l__law_signs cc__law_signs k__law_signs,
    m__law_signs := PySem.W.mg_of X G a__law_signs,
    F__law_odd := fun_mk (st := st__law_odd) l__law_odd cc__law_odd k__law_odd,
    m__law_odd := PySem.W.mg_of X G a__law_odd,
    F__law_bent := fun_mk (st := st__law_bent) l__law_bent cc__law_bent k__law_bent,
    m__law_bent := PySem.W.mg_of X G a__law_bent,
    F__law_is_whole := fun_mk (st := st__law_is_whole) l__law_is_whole cc__law_is_whole k__law_is_whole,
    m__law_is_whole := PySem.W.mg_of X G a__law_is_whole,
    F__law_is_lot := fun_mk (st := st__law_is_lot) l__law_is_lot cc__law_is_lot k__law_is_lot,
    m__law_is_lot := PySem.W.mg_of X G a__law_is_lot,
    F__law_great := fun_mk (st := st__law_great) l__law_great cc__law_great k__law_great,
    m__law_great := PySem.W.mg_of X G a__law_great,
    F__law_bad := fun_mk (st := st__law_bad) l__law_bad cc__law_bad k__law_bad,
    m__law_bad := PySem.W.mg_of X G a__law_bad,
    F__law_built := fun_mk (st := st__law_built) l__law_built cc__law_built k__law_built,
    m__law_built := PySem.W.mg_of X G a__law_built,
    F__law_right := fun_mk (st := st__law_right) l__law_right cc__law_right k__law_right,
    m__law_right := PySem.W.mg_of X G a__law_right,
    F__law_code := fun_mk (st := st__law_code) l__law_code cc__law_code k__law_code,
    m__law_code := PySem.W.mg_of X G a__law_code,
    F__law_others_right := fun_mk (st := st__law_others_right) l__law_others_right cc__law_others_right k__law_others_right,
    m__law_others_right := PySem.W.mg_of X G a__law_others_right,
    F_law := fun_mk (st := st_law) l_law cc_law k_law,
    m_law := PySem.W.mg_of X G a_law,
    F_Loom___init__ := fun_mk (st := st_Loom___init__) l_Loom___init__ cc_Loom___init__ k_Loom___init__,
    F_Loom___len__ := fun_mk (st := st_Loom___len__) l_Loom___len__ cc_Loom___len__ k_Loom___len__,
    F_Loom___eq__ := fun_mk (st := st_Loom___eq__) l_Loom___eq__ cc_Loom___eq__ k_Loom___eq__,
    F_Loom_lift_of := fun_mk (st := st_Loom_lift_of) l_Loom_lift_of cc_Loom_lift_of k_Loom_lift_of,
    F_Loom_with_lift := fun_mk (st := st_Loom_with_lift) l_Loom_with_lift cc_Loom_with_lift k_Loom_with_lift,
    F_Loom_threaded := fun_mk (st := st_Loom_threaded) l_Loom_threaded cc_Loom_threaded k_Loom_threaded,
    n_all := PySem.W.mg_none_of X G z_all,
    n_bool := PySem.W.mg_none_of X G z_bool,
    n_dict := PySem.W.mg_none_of X G z_dict,
    n_enumerate := PySem.W.mg_none_of X G z_enumerate,
    n_int := PySem.W.mg_none_of X G z_int,
    n_isinstance := PySem.W.mg_none_of X G z_isinstance,
    n_len := PySem.W.mg_none_of X G z_len,
    n_list := PySem.W.mg_none_of X G z_list,
    n_range := PySem.W.mg_none_of X G z_range,
    n_repr := PySem.W.mg_none_of X G z_repr,
    n_set := PySem.W.mg_none_of X G z_set,
    n_sorted := PySem.W.mg_none_of X G z_sorted,
    n_str := PySem.W.mg_none_of X G z_str,
    n_sum := PySem.W.mg_none_of X G z_sum,
    n_tuple := PySem.W.mg_none_of X G z_tuple,
    n_zip := PySem.W.mg_none_of X G z_zip,
    c_LETTERS := PySem.W.mg_of X G a_LETTERS,
    c_MOST_SHAFTS := PySem.W.mg_of X G a_MOST_SHAFTS,
    g_LoomError := PySem.W.mg_of X G g_LoomError,
    g_BadLoom := PySem.W.mg_of X G g_BadLoom,
    x_BadLoom := { gC := PySem.W.mg_of X G g_BadLoom, ini := ini_BadLoom, ovr := ovr_BadLoom, sa := sa_BadLoom, ga := ga_BadLoom, gg := gg_BadLoom, noN := noN_BadLoom, tkr := tkr_BadLoom, iC := iC_BadLoom, tI := tI_BadLoom, kC := kC_BadLoom, exC := exC_BadLoom, tyC := tyC_BadLoom, hdC := hdC_BadLoom, fn := ⟨_, _, _, _, _, _, _, _, _, _, _, _, _, _, lI_BadLoom, cI_BadLoom⟩ },
    e_BadLoom := ⟨ga_BadLoom, gg_BadLoom, exC_BadLoom, hdC_BadLoom, ha_BadLoom, hn_BadLoom, ht_BadLoom, hm_BadLoom⟩,
    ki_BadLoom := kit_of2 iL tyL sL_BadLoom,
    te_BadLoom_BadLoom := te_BadLoom _ _ su_BadLoom_BadLoom,
    te_BadLoom_BadText := te_BadText _ _ su_BadLoom_BadText,
    g_BadText := PySem.W.mg_of X G g_BadText,
    x_BadText := { gC := PySem.W.mg_of X G g_BadText, ini := ini_BadText, ovr := ovr_BadText, sa := sa_BadText, ga := ga_BadText, gg := gg_BadText, noN := noN_BadText, tkr := tkr_BadText, iC := iC_BadText, tI := tI_BadText, kC := kC_BadText, exC := exC_BadText, tyC := tyC_BadText, hdC := hdC_BadText, fn := ⟨_, _, _, _, _, _, _, _, _, _, _, _, _, _, lI_BadText, cI_BadText⟩ },
    e_BadText := ⟨ga_BadText, gg_BadText, exC_BadText, hdC_BadText, ha_BadText, hn_BadText, ht_BadText, hm_BadText⟩,
    ki_BadText := kit_of2 iL tyL sL_BadText,
    te_BadText_BadLoom := te_BadLoom _ _ su_BadText_BadLoom,
    te_BadText_BadText := te_BadText _ _ su_BadText_BadText,
    g_Loom := PySem.W.mg_of X G g_Loom,
    oc_Loom := { cl := ⟨pg_Loom, hd_Loom, po_Loom, sa_Loom⟩, c1 := o1_Loom, c2 := o2_Loom, c3 := o3_Loom, c4 := o4_Loom, ty := ty_Loom, self := se_Loom, nb := (fun T hT => by
      simp only [List.mem_cons, List.mem_nil_iff, or_false] at hT
      rcases hT with rfl | rfl | rfl | rfl | rfl | rfl
      · exact nb_Loom_bool
      · exact nb_Loom_int
      · exact nb_Loom_str
      · exact nb_Loom_tuple
      · exact nb_Loom_list
      · exact nb_Loom_dict) },
    mk_Loom := ⟨mk1_Loom, mk2_Loom, mk3_Loom, mk4_Loom⟩,
    na_Loom_shafts := na_Loom_shafts,
    na_Loom_threading := na_Loom_threading,
    na_Loom_lifts := na_Loom_lifts,
    na_Loom_letters := na_Loom_letters,
    na_Loom_used := na_Loom_used,
    s_Loom___len__ := s_Loom___len__,
    fn_Loom___len__ := fn_Loom___len__,
    s_Loom___eq__ := s_Loom___eq__,
    fn_Loom___eq__ := fn_Loom___eq__,
    me_Loom_lift_of := ⟨s_Loom_lift_of, fn_Loom_lift_of, k_Loom_lift_of⟩,
    me_Loom_with_lift := ⟨s_Loom_with_lift, fn_Loom_with_lift, k_Loom_with_lift⟩,
    me_Loom_threaded := ⟨s_Loom_threaded, fn_Loom_threaded, k_Loom_threaded⟩,
    ne_Loom := ne_Loom,
    so_Loom := so_Loom }
  exact ⟨PySem.W.fnOf "law" "law" (defArgs st_law) (defBody st_law) (defScope st_law) .none kV_law dc_law pm_law an_law cd_law ct_law, fun s v => .of_eq rfl, fun base _ _ => ok_law T law_true⟩
end C01
open PySem PySem.W PyProof.Rows in
set_option maxRecDepth 100000 in
set_option maxHeartbeats 0 in
theorem PySem.Challenge.cw_loomhold_k01_looms_of_any_value_holds : PySem.Challenge.rw_loomhold_k01_looms_of_any_value.Holds := by
  w_on; o_law; k_head; (case hw => w_witness2)
  k_fill
  refine DL.walk (l := PySem.Challenge.rw_loomhold_k01_looms_of_any_value) (k := 10) (by decide) (by decide) rfl rfl (fun w h Y => PySem.W.kIn_of Y) ?F
  case F =>
    intro w mg fa h KX G hmg
    refine' C01.all_mk KX G hmg ?g_LoomError ?g_BadLoom ?g_BadText ?g_Loom ?a_LETTERS ?a_MOST_SHAFTS ?pg_Loom ?hd_Loom ?po_Loom ?sa_Loom ?o1_Loom ?o2_Loom ?o3_Loom ?o4_Loom ?ty_Loom ?se_Loom ?nb_Loom_bool ?nb_Loom_int ?nb_Loom_str ?nb_Loom_tuple ?nb_Loom_list ?nb_Loom_dict ?mk1_Loom ?mk2_Loom ?mk3_Loom ?mk4_Loom ?na_Loom_shafts ?na_Loom_threading ?na_Loom_lifts ?na_Loom_letters ?na_Loom_used ?s_Loom___len__ ?fn_Loom___len__ ?s_Loom___eq__ ?fn_Loom___eq__ ?s_Loom_lift_of ?fn_Loom_lift_of ?s_Loom_with_lift ?fn_Loom_with_lift ?s_Loom_threaded ?fn_Loom_threaded ?ne_Loom ?so_Loom ?a_is_int ?l_is_int ?cc_is_int ?k_is_int ?a_is_number_below ?l_is_number_below ?cc_is_number_below ?k_is_number_below ?a_is_ascending ?l_is_ascending ?cc_is_ascending ?k_is_ascending ?a_is_tuple_below ?l_is_tuple_below ?cc_is_tuple_below ?k_is_tuple_below ?a_is_string_over ?l_is_string_over ?cc_is_string_over ?k_is_string_over ?a_is_shaft_count ?l_is_shaft_count ?cc_is_shaft_count ?k_is_shaft_count ?a_is_threading ?l_is_threading ?cc_is_threading ?k_is_threading ?a_is_treadling ?l_is_treadling ?cc_is_treadling ?k_is_treadling ?a__law_deck ?l__law_deck ?cc__law_deck ?k__law_deck ?a__law_draw ?l__law_draw ?cc__law_draw ?k__law_draw ?a__law_pick ?l__law_pick ?cc__law_pick ?k__law_pick ?a__law_part ?l__law_part ?cc__law_part ?k__law_part ?a__law_loom ?l__law_loom ?cc__law_loom ?k__law_loom ?a__law_signs ?l__law_signs ?cc__law_signs ?k__law_signs ?a__law_odd ?l__law_odd ?cc__law_odd ?k__law_odd ?a__law_bent ?l__law_bent ?cc__law_bent ?k__law_bent ?a__law_is_whole ?l__law_is_whole ?cc__law_is_whole ?k__law_is_whole ?a__law_is_lot ?l__law_is_lot ?cc__law_is_lot ?k__law_is_lot ?a__law_great ?l__law_great ?cc__law_great ?k__law_great ?a__law_bad ?l__law_bad ?cc__law_bad ?k__law_bad ?a__law_built ?l__law_built ?cc__law_built ?k__law_built ?a__law_right ?l__law_right ?cc__law_right ?k__law_right ?a__law_code ?l__law_code ?cc__law_code ?k__law_code ?a__law_others_right ?l__law_others_right ?cc__law_others_right ?k__law_others_right ?a_law ?l_law ?cc_law ?k_law ?l_Loom___init__ ?cc_Loom___init__ ?k_Loom___init__ ?l_Loom___len__ ?cc_Loom___len__ ?k_Loom___len__ ?l_Loom___eq__ ?cc_Loom___eq__ ?k_Loom___eq__ ?l_Loom_lift_of ?cc_Loom_lift_of ?k_Loom_lift_of ?l_Loom_with_lift ?cc_Loom_with_lift ?k_Loom_with_lift ?l_Loom_threaded ?cc_Loom_threaded ?k_Loom_threaded ?z_all ?z_bool ?z_dict ?z_enumerate ?z_int ?z_isinstance ?z_len ?z_list ?z_range ?z_repr ?z_set ?z_sorted ?z_str ?z_sum ?z_tuple ?z_zip ?iL ?tyL ?xL_BadLoom ?sa_BadLoom ?ga_BadLoom ?gg_BadLoom ?noN_BadLoom ?tkr_BadLoom ?iC_BadLoom ?tI_BadLoom ?kC_BadLoom ?exC_BadLoom ?tyC_BadLoom ?hdC_BadLoom ?lI_BadLoom ?cI_BadLoom ?ha_BadLoom ?hn_BadLoom ?ht_BadLoom ?hm_BadLoom ?sL_BadLoom ?su_BadLoom_BadLoom ?su_BadLoom_BadText ?xL_BadText ?sa_BadText ?ga_BadText ?gg_BadText ?noN_BadText ?tkr_BadText ?iC_BadText ?tI_BadText ?kC_BadText ?exC_BadText ?tyC_BadText ?hdC_BadText ?lI_BadText ?cI_BadText ?ha_BadText ?hn_BadText ?ht_BadText ?hm_BadText ?sL_BadText ?su_BadText_BadLoom ?su_BadText_BadText
    (case g_LoomError => k_is)
    (case g_BadLoom => k_is)
    (case g_BadText => k_is)
    (case g_Loom => k_is)
    (case a_LETTERS => k_is)
    (case a_MOST_SHAFTS => k_is)
    (case pg_Loom => k_is)
    (case hd_Loom => k_is)
    (case po_Loom => k_is)
    (case sa_Loom => k_is)
    (case o1_Loom => k_is)
    (case o2_Loom => k_is)
    (case o3_Loom => k_is)
    (case o4_Loom => k_is)
    (case ty_Loom => k_is)
    (case se_Loom => k_is)
    (case nb_Loom_bool => k_is)
    (case nb_Loom_int => k_is)
    (case nb_Loom_str => k_is)
    (case nb_Loom_tuple => k_is)
    (case nb_Loom_list => k_is)
    (case nb_Loom_dict => k_is)
    (case mk1_Loom => k_is)
    (case mk2_Loom => k_is)
    (case mk3_Loom => k_is)
    (case mk4_Loom => k_is)
    (case na_Loom_shafts => k_is)
    (case na_Loom_threading => k_is)
    (case na_Loom_lifts => k_is)
    (case na_Loom_letters => k_is)
    (case na_Loom_used => k_is)
    (case s_Loom___len__ => k_is)
    (case fn_Loom___len__ => k_is)
    (case s_Loom___eq__ => k_is)
    (case fn_Loom___eq__ => k_is)
    (case s_Loom_lift_of => k_is)
    (case fn_Loom_lift_of => k_is)
    (case s_Loom_with_lift => k_is)
    (case fn_Loom_with_lift => k_is)
    (case s_Loom_threaded => k_is)
    (case fn_Loom_threaded => k_is)
    (case ne_Loom => k_is)
    (case so_Loom => k_is)
    (case a_is_int => k_is)
    (case l_is_int => k_is)
    (case cc_is_int => k_is)
    (case k_is_int => k_is)
    (case a_is_number_below => k_is)
    (case l_is_number_below => k_is)
    (case cc_is_number_below => k_is)
    (case k_is_number_below => k_is)
    (case a_is_ascending => k_is)
    (case l_is_ascending => k_is)
    (case cc_is_ascending => k_is)
    (case k_is_ascending => k_is)
    (case a_is_tuple_below => k_is)
    (case l_is_tuple_below => k_is)
    (case cc_is_tuple_below => k_is)
    (case k_is_tuple_below => k_is)
    (case a_is_string_over => k_is)
    (case l_is_string_over => k_is)
    (case cc_is_string_over => k_is)
    (case k_is_string_over => k_is)
    (case a_is_shaft_count => k_is)
    (case l_is_shaft_count => k_is)
    (case cc_is_shaft_count => k_is)
    (case k_is_shaft_count => k_is)
    (case a_is_threading => k_is)
    (case l_is_threading => k_is)
    (case cc_is_threading => k_is)
    (case k_is_threading => k_is)
    (case a_is_treadling => k_is)
    (case l_is_treadling => k_is)
    (case cc_is_treadling => k_is)
    (case k_is_treadling => k_is)
    (case a__law_deck => k_is)
    (case l__law_deck => k_is)
    (case cc__law_deck => k_is)
    (case k__law_deck => k_is)
    (case a__law_draw => k_is)
    (case l__law_draw => k_is)
    (case cc__law_draw => k_is)
    (case k__law_draw => k_is)
    (case a__law_pick => k_is)
    (case l__law_pick => k_is)
    (case cc__law_pick => k_is)
    (case k__law_pick => k_is)
    (case a__law_part => k_is)
    (case l__law_part => k_is)
    (case cc__law_part => k_is)
    (case k__law_part => k_is)
    (case a__law_loom => k_is)
    (case l__law_loom => k_is)
    (case cc__law_loom => k_is)
    (case k__law_loom => k_is)
    (case a__law_signs => k_is)
    (case l__law_signs => k_is)
    (case cc__law_signs => k_is)
    (case k__law_signs => k_is)
    (case a__law_odd => k_is)
    (case l__law_odd => k_is)
    (case cc__law_odd => k_is)
    (case k__law_odd => k_is)
    (case a__law_bent => k_is)
    (case l__law_bent => k_is)
    (case cc__law_bent => k_is)
    (case k__law_bent => k_is)
    (case a__law_is_whole => k_is)
    (case l__law_is_whole => k_is)
    (case cc__law_is_whole => k_is)
    (case k__law_is_whole => k_is)
    (case a__law_is_lot => k_is)
    (case l__law_is_lot => k_is)
    (case cc__law_is_lot => k_is)
    (case k__law_is_lot => k_is)
    (case a__law_great => k_is)
    (case l__law_great => k_is)
    (case cc__law_great => k_is)
    (case k__law_great => k_is)
    (case a__law_bad => k_is)
    (case l__law_bad => k_is)
    (case cc__law_bad => k_is)
    (case k__law_bad => k_is)
    (case a__law_built => k_is)
    (case l__law_built => k_is)
    (case cc__law_built => k_is)
    (case k__law_built => k_is)
    (case a__law_right => k_is)
    (case l__law_right => k_is)
    (case cc__law_right => k_is)
    (case k__law_right => k_is)
    (case a__law_code => k_is)
    (case l__law_code => k_is)
    (case cc__law_code => k_is)
    (case k__law_code => k_is)
    (case a__law_others_right => k_is)
    (case l__law_others_right => k_is)
    (case cc__law_others_right => k_is)
    (case k__law_others_right => k_is)
    (case a_law => k_is)
    (case l_law => k_is)
    (case cc_law => k_is)
    (case k_law => k_is)
    (case l_Loom___init__ => k_is)
    (case cc_Loom___init__ => k_is)
    (case k_Loom___init__ => k_is)
    (case l_Loom___len__ => k_is)
    (case cc_Loom___len__ => k_is)
    (case k_Loom___len__ => k_is)
    (case l_Loom___eq__ => k_is)
    (case cc_Loom___eq__ => k_is)
    (case k_Loom___eq__ => k_is)
    (case l_Loom_lift_of => k_is)
    (case cc_Loom_lift_of => k_is)
    (case k_Loom_lift_of => k_is)
    (case l_Loom_with_lift => k_is)
    (case cc_Loom_with_lift => k_is)
    (case k_Loom_with_lift => k_is)
    (case l_Loom_threaded => k_is)
    (case cc_Loom_threaded => k_is)
    (case k_Loom_threaded => k_is)
    (case z_all => k_is)
    (case z_bool => k_is)
    (case z_dict => k_is)
    (case z_enumerate => k_is)
    (case z_int => k_is)
    (case z_isinstance => k_is)
    (case z_len => k_is)
    (case z_list => k_is)
    (case z_range => k_is)
    (case z_repr => k_is)
    (case z_set => k_is)
    (case z_sorted => k_is)
    (case z_str => k_is)
    (case z_sum => k_is)
    (case z_tuple => k_is)
    (case z_zip => k_is)
    (case iL => k_is)
    (case tyL => k_is)
    (case xL_BadLoom => k_is)
    (case sa_BadLoom => k_is)
    (case ga_BadLoom => k_is)
    (case gg_BadLoom => k_is)
    (case noN_BadLoom => k_is)
    (case tkr_BadLoom => k_is)
    (case iC_BadLoom => k_is)
    (case tI_BadLoom => k_is)
    (case kC_BadLoom => k_is)
    (case exC_BadLoom => k_is)
    (case tyC_BadLoom => k_is)
    (case hdC_BadLoom => k_is)
    (case lI_BadLoom => k_is)
    (case cI_BadLoom => k_is)
    (case ha_BadLoom => k_is)
    (case hn_BadLoom => k_is)
    (case ht_BadLoom => k_is)
    (case hm_BadLoom => k_is)
    (case sL_BadLoom => k_is)
    (case su_BadLoom_BadLoom => k_is)
    (case su_BadLoom_BadText => k_is)
    (case xL_BadText => k_is)
    (case sa_BadText => k_is)
    (case ga_BadText => k_is)
    (case gg_BadText => k_is)
    (case noN_BadText => k_is)
    (case tkr_BadText => k_is)
    (case iC_BadText => k_is)
    (case tI_BadText => k_is)
    (case kC_BadText => k_is)
    (case exC_BadText => k_is)
    (case tyC_BadText => k_is)
    (case hdC_BadText => k_is)
    (case lI_BadText => k_is)
    (case cI_BadText => k_is)
    (case ha_BadText => k_is)
    (case hn_BadText => k_is)
    (case ht_BadText => k_is)
    (case hm_BadText => k_is)
    (case sL_BadText => k_is)
    (case su_BadText_BadLoom => k_is)
    (case su_BadText_BadText => k_is)
