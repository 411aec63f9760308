import PyProof.Rows.All
import Wide.All
import OpenK.AllK
import Wide.FinOn
import KE.OsRunLaw
import PySem.Challenge.RW_jointdraws_k42_draws_for_families
import PyProof.EqAt
import PyProof.EqKinds
import PyProof.TupleCall
import KE.KFromBytes
import KE.KExcIs
import PyProof.ReprReads
import HandS.ForMost
import HandS.ForExc
import HandS.ExcInit
import HandS.ExcField
import HandS.ExcValue
import HandS.IsInst
import KE.KCallOwn
import HandS.Wide
import HandS.Gcd
import HandS.Property
import HandS.Defaults
import HandS.RaiseMore
import HandS.FStr
import HandS.MakeKw
import HandS.TupSets
import HandS.SetKeys
import HandS.Strs
import HandS.OwnEq
import HandS.Style
import HandS.Evl
import HandS.Walk
import PyProof.TupleOfSeq
import HandS.ClsMeth
import HandS.MakeKwOnly
import HandS.SortKw
import KE.DatumOrd
import HandS.Zip
set_option Elab.async false
set_option maxRecDepth 100000
set_option maxHeartbeats 0
open_top hd42 for PySem.Challenge.rw_jointdraws_k42_draws_for_families

set_option Elab.async false
set_option linter.all false
set_option maxRecDepth 100000
set_option maxHeartbeats 2000000
/-! Own layer, part A: promises of defs that hold where no nested thing is being written (Kp), and the end of a law over them. -/
namespace Vx
open PySem PySem.Spec PyProof.Rows L2

/-- as FnOk, but only where no repr of a container is under way -/
structure Kp (P : Program) (w : World) (K : PySem.W.Frag) (mg : Str → Option Value) (base : Heap) (CX : CXT)
    (k : Nat) (f : Addr) (fd : FuncData) (ps : List Str) (sp : Sp) : Prop where
  many : ∀ vs H Q E, sp vs H Q E → vs.length = ps.length
  does : ∀ (A : Around) (out : List Env) (s : Shared) (H : Hp) (args : Args) (us : List Value) (vs : List V) (Q : VK) (E : XK),
    Room k A → A.guards = some [] → Env0 P w K mg base A out s H → BindsTo s fd args (ps.zip us) → Vals vs us → sp vs H Q E →
    codeAny (model P w) A (.call (.ref f) args) (CR CX out P w H s Q E) s

section
variable {P : Program} {w : World} {K : PySem.W.Frag} {mg : Str → Option Value} {base : Heap} {CX : CXT}
  {k : Nat} {f : Addr} {fd : FuncData} {ps : List Str} {sp : Sp}
theorem Kp.of (F : FnOk P w K mg base CX k f fd ps sp) : Kp P w K mg base CX k f fd ps sp :=
  ⟨F.len, fun A out s H args us vs Q E hr _ => F.run A out s H args us vs Q E hr⟩
theorem Kp.up {j : Nat} (F : Kp P w K mg base CX j f fd ps sp) (h : j ≤ k) : Kp P w K mg base CX k f fd ps sp :=
  ⟨F.many, fun A out s H args us vs Q E hr => F.does A out s H args us vs Q E (hr.mono h)⟩

/-- a def of the text keeps its promise, by its body -/
theorem kp_fun {x qual : Str} {st : Stmt} {N : List Str} (F : Fun K x qual st f fd) (S : FnScope N ps (defScope st))
    (len : ∀ vs H Q E, sp vs H Q E → vs.length = ps.length)
    (body : ∀ (cdv : Value) (A : Around) (out : List Env) (s : Shared) (H : Hp) (vs : List V) (Q : VK) (E : XK),
      Room k (A.deeper (envOfC qual (defScope st) s.heap.objs.size f cdv)) →
      (A.deeper (envOfC qual (defScope st) s.heap.objs.size f cdv)).guards = some [] → sp vs H Q E →
      ∃ t, PSs (cxOf CX P w K mg base N qual (defScope st) f cdv A out s H E) (defBody st) t ∧
        t { nx := fun _ H' => Q .non H', rt := Q } (start N vs) H) : Kp P w K mg base CX (k + 1) f fd ps sp := by
  obtain ⟨oc, od, kV, doc, pm, an, cdv, ct, osl, rfl, lk, hcd⟩ := F.ex
  constructor
  · exact len
  · intro A out s H args us vs Q E hr hg e0 hb r hsp
    have ll := len _ _ _ _ hsp
    have inK : K.In s.heap := e0.mod.kin.keeps fun b o e => And.left (e0.bs b o e)
    have nolim : s.heap.NoLimit := e0.mod.nolimit.keeps fun b o e => And.left (e0.bs b o e)
    refine codeAny_call_function hr.depth (inK _ _ lk) rfl S.co S.gen rfl (PySem.W.codeRec_of inK hcd) (hb _ _ _ _ ?_)
    refine wpAny_newFunctionEnv_cells S.kind (fun y hy => ?_) fun env he s1 x => ?_
    · have hp := (List.of_mem_zip (show (y.1, y.2) ∈ ps.zip us from hy)).1
      rcases S.par _ hp with q | q
      · exact Or.inl q
      · exact Or.inr ⟨q, PySem.W.cellsFrom_some _ _ _ (Or.inl q)⟩
    · subst he
      refine ⟨nolim.keeps x.toInCall.keep, codeAny_func ?_⟩
      obtain ⟨t, ht, hq⟩ := body cdv A out s H vs Q E (hr.deeper _) hg hsp
      have I := inv_start (CX := CX) (mg := mg) (K := K) (N := N) (E := E) S hr.hd e0 ll r x
      refine wpAny_mono (ht.run [] s1 _ H _ I hq) (fun fl s' hs => ?_) fun _ _ z => z
      cases fl with
      | ret u => exact let ⟨v, σ', H', J, rv, q⟩ := hs; ⟨v, H', J.os, J.bare, J.base, J.hok, rv, q⟩
      | next => exact let ⟨σ', H', J, q⟩ := hs; ⟨V.non, H', J.os, J.bare, J.base, J.hok, rfl, q⟩
      | brk => exact let ⟨_, _, _, q⟩ := hs; q.elim
      | cont => exact let ⟨_, _, _, q⟩ := hs; q.elim
/-- the same where no exception leaves -/
theorem kp_fun0 {x qual : Str} {st : Stmt} {N : List Str} (F : Fun K x qual st f fd) (S : FnScope N ps (defScope st))
    (len : ∀ vs H Q E, sp vs H Q E → vs.length = ps.length)
    (body : ∀ (cdv : Value) (A : Around) (out : List Env) (s : Shared) (H : Hp) (vs : List V) (Q : VK) (E : XK),
      Room k (A.deeper (envOfC qual (defScope st) s.heap.objs.size f cdv)) →
      (A.deeper (envOfC qual (defScope st) s.heap.objs.size f cdv)).guards = some [] → sp vs H Q E →
      ∃ t, PSs (cxOf CX0 P w K mg base N qual (defScope st) f cdv A out s H E).nox (defBody st) t ∧
        t { nx := fun _ H' => Q .non H', rt := Q } (start N vs) H) : Kp P w K mg base CX0 (k + 1) f fd ps sp :=
  kp_fun F S len fun cdv A out s H vs Q E hr hg h => by
    obtain ⟨t, z, q⟩ := body cdv A out s H vs Q E hr hg h
    exact ⟨t, z.nox, q⟩
end

section
variable {X : Cx} {CX : CXT} {k : Nat} {f : Addr} {fd : FuncData} {ps : List Str} {sp : Sp} {dvs : List V} {ds : List Value} {E : XK}
  {x : Str} {p pos : Pos} {e : Expr} {es : List Expr} {t : TA}
theorem kp_run {pins : List (Addr × Obj)} {σ : L2.St} {H : Hp} {s : Shared} {Q : VK} {us : List Value} {vs : List V}
    (F : Kp X.prog X.w X.K X.mg X.base CX k f fd ps sp) (hr : Room k X.A) (hgd : X.A.guards = some []) (hb : Binds X.K fd ps ds) (hd : Vals dvs ds)
    (hx : Passes CX X E) (I : Inv X pins σ H s) (r : Vals vs us) (h : sp (vs ++ dvs) H Q E) :
    wpAny (model X.prog X.w) X.A (call (.ref f) us) (EP X pins σ Q) X.xe s := by
  have rr := Vals.append r hd
  have ll : (us ++ ds).length = ps.length := rr.length.symm.trans (F.many _ _ _ _ h)
  have go := F.does X.A X.stack s H ⟨us, []⟩ _ _ Q E hr hgd I.env0 (hb s us I.kIn ll) rr h
  refine wpAny_call (codeAny_mono go fun res s' hq => ?_)
  match res, hq with
  | .error e, hq => exact hx pins σ H s e s' I hq
  | .ok (.ret u), hq => exact I.after hq
/-- f(e, ..) -/
theorem pe_kp (F : Kp X.prog X.w X.K X.mg X.base CX k f fd ps sp) (hr : Room k X.A) (hgd : X.A.guards = some []) (hg : Gl X x)
    (hm : X.mg x = some (.ref f)) (hk : PySem.W.keepIn X.K (.ref f) = true) (hb : Binds X.K fd ps ds) (hd : Vals dvs ds) (hx : Passes CX X E) (ha : PA X (e :: es) t)
    (hdb : (x == ("__debug__" : Str)) = false := by decide)
    (he : starEach (e :: es) X.env = (false, eval e X.env) :: starEach es X.env := by rfl)
    (hpl : (backTo pos (starEach es X.env)).any (·.1) = false := by rfl) : PE X (.Call (.Name x p) (e :: es) [] pos) (tCall sp dvs E t) :=
  ⟨fun pins s σ H Q I h => wpAny_Call_Name_kw (ld_glob I hg hm
    (PySem.W.callWith_K (h₀ := X.base) I.ok.mod.kin hk (thn (ha.run pos pins s σ H _ I h) fun us s1 ⟨vs, H1, J, r, q⟩ =>
      ⟨J.kIn, kp_run F hr hgd hb hd hx J r q⟩) he hpl) hdb)⟩
/-- f() -/
theorem pe_kp0 (F : Kp X.prog X.w X.K X.mg X.base CX k f fd ps sp) (hr : Room k X.A) (hgd : X.A.guards = some []) (hg : Gl X x)
    (hm : X.mg x = some (.ref f)) (hk : PySem.W.keepIn X.K (.ref f) = true) (hb : Binds X.K fd ps ds) (hd : Vals dvs ds) (hx : Passes CX X E)
    (hdb : (x == ("__debug__" : Str)) = false := by decide) : PE X (.Call (.Name x p) [] [] pos) (tCall sp dvs E tNil) :=
  ⟨fun pins s σ H Q I h => wpAny_Call_Name_kw (ld_glob I hg hm
    (PySem.W.callWith_K0 I.kIn hk (kp_run (us := []) F hr hgd hb hd hx I .nil h)) hdb)⟩
end

/-- what the law's own call is told: over the heap behind the top, the script alone being tracked -/
theorem law_kp {P : Program} {w : World} {K : PySem.W.Frag} {mg mb : Str → Option Value} {CX : CXT} {k : Nat} {fa a : Addr} {fd : FuncData} {x : Str}
    {sp : Sp} {s₁ : Shared} {vs : List Value} {ns : List Int} (KX : K.In s₁.heap) (hns : s₁.heap.Ns mainGlobals mg) (hb : s₁.heap.Ns builtinsNs mb)
    (hbb : ∀ x : Str, x ≠ "__name__" → mb x = bootBuiltins x) (hlim : s₁.heap.NoLimit) (hg : s₁.gens = #[])
    (ha : s₁.heap.get? a = some { cls := .type "list", data := .seq vs.toArray }) (hi : IntsAre vs ns) (hl : ns.length ≤ sizeLine) (hr : Room k callerA)
    (F : ∀ base : Heap, K.In base → base.Ns mainGlobals mg → Kp P w K mg base CX k fa fd [x] sp)
    (hbind : ∀ (s : Shared) (u : Value), BindsTo s fd ⟨[u], []⟩ [(x, u)])
    (hsp : ∀ H : Hp, Only H → SqL K H a (ns.map V.int) → sp [.ref a] H (fun v _ => v = .bl true) fun _ _ _ => False)
    (hCX : ∀ H e s', CX [] H s₁ (fun _ _ _ => False) e s' → False) :
    codeAny (model P w) callerA (.call (.ref fa) ⟨[.ref a], []⟩)
      (fun r s' => r = .ok (.ret (.bool true)) ∧ OldK s₁.heap s'.heap ∧ s'.os = s₁.os ∧ AllBare s'.gens) s₁ := by
  have rv := vals_ints hi
  let ob : Obj := { cls := .type "list", data := .seq vs.toArray }
  -- the heap in which the script alone may be tracked: at a or nowhere
  have main : ∀ H : Hp, (∀ b, b ≠ a → H b = none) → (H a = none ∨ (H a = some (.frz ob (.lst (ns.map V.int))) ∧ K.lookup a = none)) → SqL K H a (ns.map V.int) →
      codeAny (model P w) callerA (.call (.ref fa) ⟨[.ref a], []⟩)
        (fun r s' => r = .ok (.ret (.bool true)) ∧ OldK s₁.heap s'.heap ∧ s'.os = s₁.os ∧ AllBare s'.gens) s₁ := by
    intro H off at_ hS
    have only : Only H := fun b => by
      by_cases e : b = a
      · subst e
        rcases at_ with z | ⟨z, _⟩
        · exact .inl z
        · exact .inr ⟨_, _, z⟩
      · exact .inl (off b e)
    have hok : HOk P w H s₁.heap := fun b u e => by
      by_cases q : b = a
      · subst q
        rcases at_ with z | ⟨z, _⟩
        · rw [z] at e; cases e
        · rw [z] at e; cases e
          exact ⟨ha, by rw [List.length_map]; exact hl, vs, _, rv, ha⟩
      · rw [off b q] at e; cases e
    have dictOff : ∀ {b : Addr} {o : Obj} {es : Array DictEntry} {ep : Nat}, s₁.heap.get? b = some o → o.data = .dict es ep → H b = none := fun {b o es ep} e d => by
      by_cases q : b = a
      · subst q
        rw [ha] at e
        cases e
        cases (show Data.seq vs.toArray _ = Data.dict es ep from d)
      · exact off b q
    have ns_of : ∀ {b : Addr} {m : Str → Option Value}, s₁.heap.Ns b m → (hidT s₁.heap H).Ns b m := fun {b m} z => by
      obtain ⟨o, es, ep, e, d, r⟩ := z
      exact ⟨o, es, ep, hidT_get e (dictOff e d), d, r⟩
    have kin : K.In (hidT s₁.heap H) := fun b o e => hidT_get (KX b o e) (by
      by_cases q : b = a
      · subst q
        rcases at_ with z | ⟨_, z⟩
        · exact z
        · rw [z] at e; cases e
      · exact off b q)
    have hM : Mod K mg (hidT s₁.heap H) := ⟨kin, ns_of hns, ⟨mb, ns_of hb, hbb⟩, by obtain ⟨mc, h1, h2⟩ := hlim; exact ⟨mc, ns_of h1, h2⟩⟩
    have e0 : Env0 P w K mg (hidT s₁.heap H) callerA [] s₁ H :=
      { frames := rfl, mod := hM, bs := fun b o e => of_hidT e, bsz := Nat.le_of_eq (hidT_size _ _), funs := trivial,
        frf := fun b z => absurd (show b ∈ ([] : List Addr) from z) List.not_mem_nil, hok := hok, bare := .of_eq hg }
    have run := (F _ kin (ns_of hns)).does callerA [] s₁ H ⟨[.ref a], []⟩ [.ref a] [.ref a] _ _ hr rfl e0 (hbind s₁ (.ref a)) (.cons rfl .nil) (hsp H only hS)
    refine codeAny_mono run fun res s' h => ?_
    match res, h with
    | .error e, h => exact (hCX H e s' h).elim
    | .ok (.ret u), h =>
      obtain ⟨v, H', os, bare, un, hok', ru, q⟩ := h
      obtain rfl : v = .bl true := q
      obtain rfl : u = Value.bool true := ru
      refine ⟨rfl, OldK.of_keep fun b o e => ?_, os, bare⟩
      by_cases q : H b = none
      · exact un.keep b o e q (fun z => absurd (show b ∈ ([] : List Addr) from z) List.not_mem_nil) List.not_mem_nil
      · rcases only b with z | ⟨o2, xs, z⟩
        · exact absurd z q
        · have t1 := (hok b _ z).1
          have t2 := (hok' b _ (un.frzs b o2 _ z)).1
          rw [e] at t1
          cases t1
          exact t2
  cases hk : K.lookup a with
  | some o =>
    have e := KX a o hk
    rw [ha] at e
    cases e
    exact main (fun _ => none) (fun _ _ => rfl) (.inl rfl)
      (.inr ⟨_, vs.toArray, _, hk, rfl, rfl, rfl, by rw [List.size_toArray, hi.length]; exact hl, by simpa using rv⟩)
  | none =>
    refine main (fun b => if b = a then some (.frz ob (.lst (ns.map V.int))) else none) (fun b q => if_neg q) (.inr ⟨if_pos rfl, hk⟩) (.inl (.inr ⟨ob, if_pos rfl⟩))

/-- the goal that the head leaves, by the law's promise -/
theorem walk_kp {l : PySem.W.OpenLaw} {n k : Nat} {q : Program} {loose : List Str} {XP : (Str → Option Value) → Heap → Prop} {YP : World → Heap → Prop} {d : DefRec}
    {K : Params → PySem.W.Frag} {CX : World → CXT} {sp : World → Sp} {x : Str} (hn : l.most = some n) (hn2 : n ≤ sizeLine) (hdf : d.params.defaults = []) (hr : Room k callerA)
    (hY : ∀ (w : World) (h : Heap), YP w h → (K w.params).In h)
    (F : ∀ (w : World) (mg : Str → Option Value) (fa : Addr) (h : Heap), (K w.params).In h → h.Ns mainGlobals mg → mg d.name = some (.ref fa) →
      ∃ fd : FuncData, (∀ (s : Shared) (u : Value), BindsTo s fd ⟨[u], []⟩ [(x, u)]) ∧
        ∀ base : Heap, (K w.params).In base → base.Ns mainGlobals mg → Kp l.prog w (K w.params) mg base (CX w) k fa fd [x] (sp w))
    (hsp : ∀ (w : World) (H : Hp) (a : Addr) (ns : List Int), ns.length ≤ n → Only H → SqL (K w.params) H a (ns.map V.int) → sp w [.ref a] H (fun v _ => v = .bl true) fun _ _ _ => False)
    (hCX : ∀ (w : World) (H : Hp) (s : Shared) (e : Value) (s' : Shared), CX w [] H s (fun _ _ _ => False) e s' → False) :
    PySem.W.WalkO q loose XP YP l.row.toRowW d [] (fun f vs => PySem.call f vs) := by
  apply Att.attach_call hn hdf
  intro w s₀ s₁ mg mb fa o pm cd doc a vs ns G Y ho hd hcd hmg hobj hints hlen hg
  have kin := hY w _ Y
  obtain ⟨fd, bind, keeps⟩ := F w mg fa _ kin G.T.g hmg
  exact law_kp kin G.T.g G.T.b G.T.builtins G.T.nolimit hg hobj hints (Nat.le_trans hlen hn2) hr keeps bind
    (fun H hO hS => hsp w H a ns hlen hO hS) fun H e s' => hCX w H s₁ e s'
end Vx

set_option Elab.async false
set_option linter.all false
set_option maxRecDepth 100000
set_option maxHeartbeats 4000000
/-! Own layer, part B: exceptions of own classes (below a base below ValueError), made by position or by keyword, as values. -/
namespace PySem
namespace Vex
open PySem.W PySem.Calls PyProof.Rows PySem.HandSPX
section
variable {M : Model} {A : Around} {E : Value → Shared → Prop} {hh : Heap} {gg : Array GenState} {dd : Drawn} {tt : Nat} {oo : OsState}
variable {nm qn : Str} {C N : Addr} {bs bm bmB : List Value} {hdct : Bool} {sn : List Str} {sub : List Value} {ab : Bool} {col : Option Bool} {dr : Option Addr}
  {k0 k1 k2 k3 k5 : Option Value} {B newId initId : String}
theorem check_new_kw (F : ExcBaseFacts B newId initId bmB) (same : ∀ X : String, bm.contains (.type X) = bmB.contains (.type X)) {rest : List Value} {kw : List (Str × Value)} {Q : Unit → Shared → Prop}
    (at_ : hh.get? C = some (excClassObj nm qn C N bs bm hdct sn sub ab col dr k0 k1 k2 k3 k5 newId)) (go : Q () ⟨hh, gg, dd, tt, oo⟩) :
    wpAny M A (checkBuiltinCall newId ⟨.ref C :: rest, kw⟩) Q E ⟨hh, gg, dd, tt, oo⟩ := by
  have inB : (Value.ref C :: bm).contains (.type B) = true := by rw [List.contains_cons, same, F.hasB]; simp
  have nostar := F.noStar
  simp only [checkBuiltinCall, F.newSplit, F.newRow, F.newKind]
  repeat (first
    | refine wpAny_loadPart_at at_ ?_
    | (refine wpAny_isSubtype_exc at_ ?_; rw [inB])
    | refine wpAny_staticBase_exc at_ ?_
    | refine wpAny_madeBy_exc at_ ?_
    | simp only [Bool.false_eq_true, bne_self_eq_false, if_false]
    | wp_step)
  exact go
end
section
variable {prog : Program} {w : World} {A : Around} {E : Value → Shared → Prop} {R : Result → Shared → Prop} {hh : Heap} {gg : Array GenState} {dd : Drawn} {tt : Nat} {oo : OsState}
variable {nm qn : Str} {C N : Addr} {bs bm bmB : List Value} {hdct : Bool} {sn : List Str} {sub : List Value} {ab : Bool} {col : Option Bool} {dr : Option Addr}
  {k0 k1 k2 k3 k5 : Option Value} {B newId initId : String}
/-- the heap behind the making: the arguments' tuple, the exception -/
abbrev laidE (hh : Heap) (C : Addr) (rest : List Value) : Heap := (hh.push (W.kdv_tup rest)).push (excO C hh.objs.size)
theorem new_kw (F : ExcBaseFacts B newId initId bmB) (same : ∀ X : String, bm.contains (.type X) = bmB.contains (.type X)) {rest : List Value} {kw : List (Str × Value)}
    (at_ : hh.get? C = some (excClassObj nm qn C N bs bm hdct sn sub ab col dr k0 k1 k2 k3 k5 newId)) (small : rest.length ≤ sizeLine)
    (go : R (.ok (.ret (.ref (hh.objs.size + 1)))) ⟨laidE hh C rest, gg, dd, tt, oo⟩) :
    codeAny (model prog w) A (.builtin newId ⟨.ref C :: rest, kw⟩) R ⟨hh, gg, dd, tt, oo⟩ := by
  have ends := F.ends
  have inB : (Value.ref C :: bm).contains (.type B) = true := by rw [List.contains_cons, same, F.hasB]; simp
  have notA : (Value.ref C :: bm).contains (.type "AttributeError") = false := by rw [List.contains_cons, same, F.noAttr]; rfl
  have notN : (Value.ref C :: bm).contains (.type "NameError") = false := by rw [List.contains_cons, same, F.noName]; rfl
  apply codeAny_builtinAt F.entry
  unfold Builtin.«BaseException.__new__»
  apply wpAt_bind
  show wpAt _ _ _ (stack >>= _) _ _ _
  refine wpAt_bind (wpAt_stack fun p below => ?_)
  apply wpAt_of_wpAny
  wp_walk
  apply wpAt_of_wpAny
  rw [F.owner]
  repeat (first
    | with_reducible refine wpAny_madeHere_exc F.canon at_ ?_
    | with_reducible refine wpAny_loadPart_at at_ ?_
    | (with_reducible refine wpAny_isSubtype_exc at_ ?_; first | rw [inB] | rw [notA] | rw [notN])
    | wp_step)
  show R _ _
  rw [Heap.size_push]
  exact go
theorem type_call_kw (F : ExcBaseFacts B newId initId bmB) (same : ∀ X : String, bm.contains (.type X) = bmB.contains (.type X)) {rest : List Value} {kw : List (Str × Value)} {fI : Addr} {Q : Fin → Shared → Prop}
    (at_ : hh.get? C = some (excClassObj nm qn C N bs bm hdct sn sub ab col dr k0 k1 k2 k3 k5 newId))
    (hi : W.Looks (model prog w) hh (typeLookup (.ref C) "__init__") (some (.ref fI))) (hb : ∀ self, W.Looks (model prog w) hh (bindSpecial (.ref fI) self) (.ref fI, [self])) (small : rest.length ≤ sizeLine)
    (go : codeAny (model prog w) A (.call (.ref fI) ⟨.ref (hh.objs.size + 1) :: rest, kw⟩)
      (fun r s' => match r with | .ok (.ret v) => v = .none ∧ Q (.done (.ret (.ref (hh.objs.size + 1)))) s' | .ok _ => False | .error e => E e s') ⟨laidE hh C rest, gg, dd, tt, oo⟩) :
    wpAny (model prog w) A (Builtin.«type.__call__» ⟨.ref C :: rest, kw⟩) Q E ⟨hh, gg, dd, tt, oo⟩ := by
  repeat (first
    | with_reducible refine wpAny_loadPart_at at_ ?_
    | with_reducible refine wpAny_madeBy_exc at_ ?_
    | wp_step)
  refine codeAny_call_builtin_code (Code.quiet_builtin _ F.quiet) (check_new_kw F same at_ (new_kw F same at_ small ?_))
  show wpAny _ _ _ _ _ _
  have stay : ∀ b o, hh.get? b = some o → (laidE hh C rest).get? b = some o := fun b o e => Heap.get?_push_of_some _ (Heap.get?_push_of_some _ e)
  have at1 := stay _ _ at_
  have new1 : (laidE hh C rest).get? (hh.objs.size + 1) = some (excO C hh.objs.size) := by heap_get
  have self1 : (Value.ref C :: bm).contains (.ref C) = true := by simp
  have i1 := hi.keeps stay
  have b1 := (hb (.ref (hh.objs.size + 1))).keeps stay
  unfold isInstance
  repeat (first
    | with_reducible refine wpAny_loadPart_at new1 ?_
    | (with_reducible refine wpAny_isSubtype_exc at1 ?_; rw [self1])
    | wp_step)
  show wpAny _ _ (typeLookup (.ref C) _) _ _ _
  apply i1.at
  apply wpAny_holding
  apply wpAny_bind
  apply b1.at
  refine wpAny_bind (wpAny_call (codeAny_mono go fun r s' z => ?_))
  match r, z with
  | .error e, z => exact z
  | .ok (.ret v), ⟨e, z⟩ =>
    subst e
    first
      | exact wpAny_pure (wpAny_pure z)
      | (wp_walk; exact z)
theorem call_kw (F : ExcBaseFacts B newId initId bmB) (same : ∀ X : String, bm.contains (.type X) = bmB.contains (.type X)) {rest : List Value} {kw : List (Str × Value)} {fI : Addr}
    (at_ : hh.get? C = some (excClassObj nm qn C N bs bm hdct sn sub ab col dr k0 k1 k2 k3 k5 newId))
    (hi : W.Looks (model prog w) hh (typeLookup (.ref C) "__init__") (some (.ref fI))) (hb : ∀ self, W.Looks (model prog w) hh (bindSpecial (.ref fI) self) (.ref fI, [self])) (small : rest.length ≤ sizeLine)
    (go : codeAny (model prog w) (A.under (.builtin "type.__call__" ⟨.ref C :: rest, kw⟩)) (.call (.ref fI) ⟨.ref (hh.objs.size + 1) :: rest, kw⟩) (W.InitBack (hh.objs.size + 1) R) ⟨laidE hh C rest, gg, dd, tt, oo⟩) :
    codeAny (model prog w) A (.call (.ref C) ⟨rest, kw⟩) R ⟨hh, gg, dd, tt, oo⟩ := by
  have l1 := tc_lookup
  have l2 := tc_bind (.ref C)
  have ty : (⟨hh, gg, dd, tt, oo⟩ : Shared).TypeIs (.ref C) "type" := ⟨_, at_, rfl⟩
  apply codeAny_of_tree
  show wpAny _ _ (callAny (.ref C) _) _ _ _
  repeat (any_goals (first | assumption | with_reducible refine wpAny_loadPart_at at_ ?_ | wp_step))
  refine ⟨rfl, codeAny_call_builtin_at (Code.quiet_builtin _ (by decide +kernel)) entry_typeCall (wpAny_check_type_call_sub at_ (type_call_kw F same at_ hi hb small (codeAny_mono go fun r s' z => ?_)))⟩
  match r, z with
  | .error _, z => exact z
  | .ok (.ret _), z => exact z
end
end Vex
end PySem

set_option Elab.async false
set_option linter.all false
set_option maxRecDepth 100000
set_option maxHeartbeats 4000000
/-! Own layer, part C: exceptions of own classes as values: made, their field read, isinstance; repr. -/
namespace Vx
open PySem PySem.Spec PyProof.Rows L2

/-- an exception of the class at C, with one field, stands at p -/
def ErrAt (H : Hp) (p C : Addr) (fld : Str) (v : V) : Prop := ∃ d, H p = some (exo p C (some d)) ∧ H d = some (exd d [(fld, v)])
theorem ErrAt.same {H H' : Hp} {p C : Addr} {fld : Str} {v : V} (s : Same H H') (e : ErrAt H p C fld v) : ErrAt H' p C fld v := by
  obtain ⟨d, h1, h2⟩ := e
  exact ⟨d, s _ _ h1, s _ _ h2⟩
/-- an exception of the class at C, whatever it keeps -/
def ErrOf (H : Hp) (p C : Addr) : Prop := H p = some (exo p C none) ∨ ∃ d fs, H p = some (exo p C (some d)) ∧ H d = some (exd d fs)
theorem ErrAt.of {H : Hp} {p C : Addr} {fld : Str} {v : V} (e : ErrAt H p C fld v) : ErrOf H p C := by
  obtain ⟨d, h1, h2⟩ := e
  exact .inr ⟨d, _, h1, h2⟩
theorem ErrOf.same {H H' : Hp} {p C : Addr} (s : Same H H') (e : ErrOf H p C) : ErrOf H' p C := by
  rcases e with e | ⟨d, fs, h1, h2⟩
  · exact .inl (s _ _ e)
  · exact .inr ⟨d, fs, s _ _ h1, s _ _ h2⟩

/-- what the written part says of such a class and its __init__ -/
structure ErC (K : PySem.W.Frag) (C fI : Addr) (fld : Str) : Prop where
  ox : OexC K C
  no : PySem.W.findIn K (.ref C) fld = some none
  iC : PySem.W.findIn K (.ref C) "__init__" = some (some (.ref fI))
  tI : PySem.W.typeIn K (.ref fI) = some (.type "function")
/-- .. for isinstance -/
structure IsC (K : PySem.W.Frag) (C : Addr) : Prop where
  cl : (PySem.W.clsIn K C).isSome = true
  xf : XfC K C
  ha : PySem.W.findIn K (.ref C) "__class__" = some (some (.builtin "object.__class__"))
  hn : PySem.W.specialIn K (.builtin "object.__class__") "__get__" = some (some (.builtin "getset_descriptor.__get__"))
  tk : PySem.W.takesIn K (.builtin "object.__class__") = some true
  hm : PySem.W.mroIn K C (.type "object") = some true

/-- __init__(self, fld): self.fld = fld -/
def spE (K : PySem.W.Frag) (C : Addr) (fld : Str) : Sp := fun vs H Q _ => ∃ (a : Addr) (v : V), vs = [.ref a, v] ∧ H a = some (exo a C none) ∧
  ∀ d, H d = none → d ≠ a → Q .non (upd (upd H d (exd d [(fld, v)])) a (exo a C (some d)))
theorem ok_einit {P : Program} {w : World} {K : PySem.W.Frag} {mg : Str → Option Value} {base : Heap} {st : Stmt} {qual fld : Str} {C fI : Addr} {fd : FuncData} {p1 p2 p3 p4 : Pos}
    (T : ErC K C fI fld) (F : Fun K "__init__" qual st fI fd) (hb : defBody st = [.Assign [.Attribute (.Name "self" p1) fld p2] (.Name fld p3) p4])
    (sc : FnScope ["self", fld] ["self", fld] (defScope st)) (l1 : (defScope st).names.lookup ("self" : Str) = some NameKind.local) (l2 : (defScope st).names.lookup fld = some NameKind.local)
    (n1 : (fld == ("__debug__" : Str)) = false) (n2 : (fld == ("__classdict__" : Str)) = false) : FnOk P w K mg base CX0 1 fI fd ["self", fld] (spE K C fld) := by
  refine F.ok sc (fun vs H Q E h => ?_) (fun cdv A outer s H vs Q E hr h => ?_)
  · obtain ⟨a, v, rfl, _⟩ := h
    rfl
  · obtain ⟨a, v, rfl, ha, go⟩ := h
    rw [hb]
    refine ⟨_, pss_one (ps_ost (pe_var (i := 0) rfl (.inl l1) (by decide) (by decide)) (pe_var (i := 1) rfl (.inl l2) n1 n2)), ?_⟩
    exact ⟨_, rfl, _, rfl, a, C, rfl, T.ox, T.no, .inl ⟨ha, fun dx n ne => go dx n ne⟩⟩

section
variable {X : Cx} {pins : List (Addr × Obj)} {σ : L2.St} {H : Hp} {s : Shared} {C fI : Addr} {fld x : Str} {fd : FuncData} {k : Nat}
theorem run_mkE {Q : VK} {us : List Value} {kw : List (Str × Value)} {u : Value} {v : V} (T : ErC X.K C fI fld) (F1 : FnOk X.prog X.w X.K X.mg X.base CX0 k fI fd ["self", fld] (spE X.K C fld))
    (hr : Room (k + 1) X.A) (small : us.length ≤ 1000) (I : Inv X pins σ H s) (r : RelV v u)
    (bind : ∀ (s' : Shared) (a : Value), X.K.In s'.heap → BindsTo s' fd ⟨a :: us, kw⟩ ((["self", fld] : List Str).zip [a, u]))
    (q : ∀ p H2, Same H H2 → H p = none → ErrAt H2 p C fld v → Q (.ref p) H2) : wpAny (model X.prog X.w) X.A (call (.ref C) us kw) (EP X pins σ Q) X.xe s := by
  obtain ⟨nm, qn, N, bs, bm, sn, sub, ab, col, dd, k0, k1, k2, k3, k5, hC, hbm⟩ := T.ox.cls
  obtain ⟨hp, g, dr, tk, os⟩ := s
  have big : hp.objs.size ≤ hp.objs.size + 1 := Nat.le_succ _
  have fresh : H (hp.objs.size + 1) = none := I.hok.fresh big
  have stay : ∀ b o, hp.get? b = some o → (Vex.laidE hp C us).get? b = some o := fun b o e => Heap.get?_push_of_some _ (Heap.get?_push_of_some _ e)
  have there : (Vex.laidE hp C us).get? (hp.objs.size + 1) = some (PySem.HandSPX.excO C hp.objs.size) := by
    show ((hp.push _).push _).get? _ = _
    heap_get
  have J : Inv X pins σ (upd H (hp.objs.size + 1) (exo (hp.objs.size + 1) C none)) ⟨Vex.laidE hp C us, g, dr, tk, os⟩ :=
    I.laid (t' := tk) (a := hp.objs.size + 1) (o := exo (hp.objs.size + 1) C none) (h' := Vex.laidE hp C us) stay big (exo_ok there)
  have want : spE X.K C fld [.ref (hp.objs.size + 1), v] (upd H (hp.objs.size + 1) (exo (hp.objs.size + 1) C none)) (fun z H2 => z = .non ∧ Q (.ref (hp.objs.size + 1)) H2) E0 := by
    refine ⟨_, v, rfl, upd_same, fun d hd ne => ⟨rfl, q _ _ (fun b o e => ?_) fresh ⟨d, upd_same, (upd_ne ne).trans upd_same⟩⟩⟩
    have hd' : H d = none := by
      rw [upd_ne ne] at hd
      exact hd
    rw [upd_ne (ne_of_none e fresh), upd_ne (ne_of_none e hd'), upd_ne (ne_of_none e fresh)]
    exact e
  have lus : us.length ≤ sizeLine := by
    rw [sizeLine_eq]
    omega
  have go := F1.run _ X.stack _ _ ⟨Value.ref (hp.objs.size + 1) :: us, kw⟩ [Value.ref (hp.objs.size + 1), u] _ _ E0 (hr.make C us kw) (J.env0.make C us kw) (bind _ _ J.kIn) (show Vals [V.ref (hp.objs.size + 1), v] [Value.ref (hp.objs.size + 1), u] from .cons rfl (.cons r .nil)) want
  refine wpAny_call (Vex.call_kw F.excBase_ValueError (fun Y => PySem.HandSPX.refsVE_contains Y bm hbm) (I.kIn _ _ hC) (PySem.W.looks_findIn I.kIn T.iC) (fun self => PySem.W.bind_fn I.kIn self T.tI) lus (codeAny_mono go fun res s' z => ?_))
  match res, z with
  | .ok (.ret u'), z =>
    obtain ⟨v', H2, J2, rv, ev, q2⟩ := J.after z
    subst ev
    exact ⟨rv, .ref _, H2, J2, rfl, q2⟩

/-- a class of errors as the law's defs use it -/
structure Ecl (P : Program) (w : World) (K : PySem.W.Frag) (mg : Str → Option Value) (base : Heap) (x : Str) (C : Addr) (fld : Str) : Prop where
  gC : mg x = some (.ref C)
  is : IsC K C
  no : PySem.W.findIn K (.ref C) fld = some none
  mks : ∃ fI fd, ErC K C fI fld ∧ FnOk P w K mg base CX0 1 fI fd ["self", fld] (spE K C fld) ∧
    (∀ (s : Shared) (a u : Value), K.In s.heap → BindsTo s fd ⟨[a, u], []⟩ ((["self", fld] : List Str).zip [a, u])) ∧
    (∀ (s : Shared) (a u : Value), K.In s.heap → BindsTo s fd ⟨[a], [(fld, u)]⟩ ((["self", fld] : List Str).zip [a, u]))
end

/-- x(e): a new error -/
def tErr (C : Addr) (fld : Str) (te : TE) : TE := fun σ H Q => te σ H fun v H1 => ∀ p H2, Same H1 H2 → H1 p = none → ErrAt H2 p C fld v → Q (.ref p) H2
section
variable {X : Cx} {C : Addr} {fld x : Str} {e : Expr} {te : TE} {p pos kpos : Pos}
theorem pe_mkE (T : Ecl X.prog X.w X.K X.mg X.base x C fld) (hr : Room 2 X.A) (he : PE X e te) (hg : Gl X x := by rfl) (hdb : (x == ("__debug__" : Str)) = false := by decide)
    (hs : starEach [e] X.env = (false, eval e X.env) :: starEach [] X.env := by rfl) : PE X (.Call (.Name x p) [e] [] pos) (tErr C fld te) := by
  refine ⟨fun pins s σ H Q I h => wpAny_Call_Name_kw (ld_glob I hg T.gC ?_ hdb)⟩
  obtain ⟨fI, fd, T1, F1, b1, b2⟩ := T.mks
  refine PySem.W.callWith_K (h₀ := X.base) I.ok.mod.kin T1.ox.kC ?_ hs (by rfl)
  rw [hs]
  show wpAny _ _ (spliced ((false, eval e X.env) :: backTo pos (starEach [] X.env))) _ _ s
  refine Calls.spliced_cons (thn (he.run pins s σ H _ I h) fun u s1 ⟨v, H1, J, ru, q⟩ => Calls.spliced_nil ⟨J.kIn, ?_⟩)
  exact run_mkE (us := [u]) (kw := []) T1 F1 hr (by show 1 ≤ 1000; decide) J ru (fun s' a kin => b1 s' a u kin) q
/-- x(fld=e) -/
theorem pe_mkEk (T : Ecl X.prog X.w X.K X.mg X.base x C fld) (hr : Room 2 X.A) (he : PE X e te) (hg : Gl X x := by rfl) (hdb : (x == ("__debug__" : Str)) = false := by decide) :
    PE X (.Call (.Name x p) [] [⟨some fld, e, kpos⟩] pos) (tErr C fld te) := by
  refine ⟨fun pins s σ H Q I h => wpAny_Call_Name_kw (ld_glob I hg T.gC ?_ hdb)⟩
  obtain ⟨fI, fd, T1, F1, b1, b2⟩ := T.mks
  refine PySem.W.callWith_KW0 (h₀ := X.base) I.ok.mod.kin T1.ox.kC (by rfl) ?_ (by rfl)
  show wpAny _ _ (evalAll [do let v ← eval e X.env; standAt pos; pure v]) _ _ s
  refine wpAny_evalAll_cons (wpAny_bind (thn (he.run pins s σ H _ I h) fun u s1 ⟨v, H1, J, ru, q⟩ => wpAny_bind (wpAny_standAt (wpAny_pure (wpAny_evalAll_nil ⟨J.kIn, ?_⟩)))))
  exact run_mkE (us := []) (kw := [(fld, u)]) T1 F1 hr (by show 0 ≤ 1000; decide) J ru (fun s' a kin => b2 s' a u kin) q
/-- e.fld of such an error -/
def tEfld (K : PySem.W.Frag) (n : Str) (te : TE) : TE := fun σ H Q => te σ H fun y H1 => ∃ (a C : Addr) (v : V), y = .ref a ∧ XfC K C ∧ PySem.W.findIn K (.ref C) n = some none ∧ ErrAt H1 a C n v ∧ Q v H1
theorem pe_efld {n : Str} (he : PE X e te) (hb : attributeBase e n X.env (eval e X.env) = eval e X.env := by rfl) : PE X (.Attribute e n pos) (tEfld X.K n te) := by
  refine ⟨fun pins s σ H Q I h => attr_of hb (thn (he.run pins s σ H _ I h) fun u s1 z => ?_)⟩
  obtain ⟨y, H1, J, ru, a, C, v, rfl, T, no, ⟨d, h1, h2⟩, q⟩ := z
  obtain rfl : u = Value.ref a := ru
  obtain ⟨t1, ob⟩ := exo_at J.hok h1
  obtain ⟨mA, ns, rel⟩ := exd_at J.hok h2
  obtain ⟨od, hod, look⟩ := lookIn_ns ns
  obtain ⟨u, hu, rv⟩ := RelO.some_of (v := v) (o := mA n) (by
    have := rel n
    rw [lookup_put, if_pos rfl] at this
    exact this)
  have at_ : PySem.W.InstAt s1.heap a _ C (some od) := ⟨ob, rfl, rfl, hod⟩
  exact PySem.HandSPX.exc_get J.kIn at_ T.ga T.gg T.exC (PySem.W.findObj_own T.hdC no rfl (by rw [look, hu])) (handed_of rv) ⟨v, H1, J.tok _, rv, q⟩
/-- isinstance(e, c) of such an error -/
def rIsx (K : PySem.W.Frag) : List V → Hp → VK → Prop := fun xs H Q => ∃ (a C : Addr) (c : V) (u : Value) (b : Bool), xs = [.ref a, c] ∧ ClsV c u ∧ ErrOf H a C ∧ IsC K C ∧ PySem.W.kitOne K (.ref C) u = some b ∧ Q (.bl b) H
theorem call_isx : CallR X (.builtin "isinstance") (rIsx X.K) := by
  intro pins s σ H xs us Q I r h
  obtain ⟨a, C, c, u, b, rfl, kc, er, T, e, q⟩ := h
  obtain ⟨u1, u2, rfl, r1, r2⟩ := vals2 r
  obtain rfl := kc.eq r2
  obtain rfl : u1 = Value.ref a := r1
  have kit : ∀ ox od, PySem.W.KitX X.K (.ref a) (.ref C) (fun h => PySem.W.InstAt h a ox C od) := fun ox od =>
    PySem.W.kitx_exc T.cl T.xf.ga T.xf.gg T.xf.exC T.ha T.hn T.tk T.hm
  rcases er with h1 | ⟨d, fs, h1, h2⟩
  · obtain ⟨t1, ob⟩ := exo_at I.hok h1
    exact PySem.W.kia_one (kit _ none) I.kIn ⟨ob, rfl, rfl, trivial⟩ e (fun z => nomatch z) fun tk => ⟨.bl b, H, I.tok tk, rfl, q⟩
  · obtain ⟨t1, ob⟩ := exo_at I.hok h1
    obtain ⟨mA, ns, rel⟩ := exd_at I.hok h2
    obtain ⟨od, hod, look⟩ := lookIn_ns ns
    exact PySem.W.kia_one (kit _ (some od)) I.kIn ⟨ob, rfl, rfl, hod⟩ e (fun z => nomatch z) fun tk => ⟨.bl b, H, I.tok tk, rfl, q⟩
end
/-- x(), a class of errors without an __init__ of its own -/
def tErr0 (C : Addr) : TE := fun _ H Q => ∀ p H2, Same H H2 → H p = none → ErrOf H2 p C → Q (.ref p) H2
theorem pe_mkE0 {X : Cx} {C : Addr} {x : Str} {p pos : Pos} {bmB : List Value} {B newId initId : String} (F : ExcBaseFacts B newId initId bmB) (q : PySem.W.excIn X.K C bmB newId = true)
    (gC : X.mg x = some (.ref C)) (kC : PySem.W.keepIn X.K (.ref C) = true) (hg : Gl X x := by rfl) (hdb : (x == ("__debug__" : Str)) = false := by decide) : PE X (.Call (.Name x p) [] [] pos) (tErr0 C) := by
  refine ⟨fun pins s σ H Q I h => wpAny_Call_Name_kw (ld_glob I hg gC (PySem.W.callWith_K0 I.kIn kC ?_) hdb)⟩
  show wpAny _ _ (call (.ref C) []) _ _ _
  obtain ⟨bm, N, nm, qn, bs, hdct, sn, sub, ab, col, dd, k0, k1, k2, k3, k5, mN, at_, hN, hni, T⟩ := exc_obj I.kIn q
  refine wpAny_call_exc_subT F T at_ hN hni (fun h' a made => ?_) (Nat.zero_le _)
  have fresh : H a = none := I.hok.gone made.new
  obtain ⟨t, ob, _, _⟩ := made.there
  have J := I.laidN (t' := s.toks) (o := exo a C none) made.keeps made.new fresh (exo_ok ob)
  exact ⟨.ref a, _, J, rfl, h a _ (fun b o e => by rw [upd_ne (ne_of_none e fresh)]; exact e) fresh (.inl upd_same)⟩

/-- a value as data: what Dp says, or a dict of one text and one int (the things that laws hand in) -/
inductive Dr (K : PySem.W.Frag) (H : Hp) : V → PyData → Prop where
  | of {v : V} {d : PyData} (h : Dp K H v d) (nd : d.hasDict = false) : Dr K H v d
  | one {a : Addr} {x : Str} {i : Int} (h : H a = some (.dK [(Sum.inr x, .int i)])) : Dr K H (.ref a) (.dict [(.str x, .int i)])
  | empty {a : Addr} (h : H a = some (.dK [])) : Dr K H (.ref a) (.dict [])
theorem Dr.reads {X : Cx} {pins : List (Addr × Obj)} {σ : L2.St} {H : Hp} {s : Shared} (I : Inv X pins σ H s) {v : V} {d : PyData} {u : Value} (h : Dr X.K H v d) (r : RelV v u) :
    ∃ as, Reads s.heap u d as ∧ (d.hasDict = true → sysModules ∉ as) := by
  cases h with
  | of h nd =>
    obtain ⟨as, q⟩ := Dp.reads I d v u h r
    exact ⟨as, q, PyData.noDict_hsm nd⟩
  | @one a x i h =>
    obtain rfl : u = Value.ref a := r
    obtain ⟨_, ns, vs, rel, o, es, ep, ho, hx, hd, _, hp, _⟩ := (show ObjOk X.prog X.w H s.heap a (.dK [(Sum.inr x, V.int i)]) from I.hok a _ h)
    have ne : sysModules ≠ a := fun z => by
      rw [z] at ns
      simp at ns
    cases rel with
    | @cons _ q0 _ _ r1 r2 =>
      cases r2
      obtain ⟨q1, q2⟩ := q0
      obtain ⟨e1, t2, rv⟩ := r1
      obtain rfl : Sum.inr x = q1 := e1
      obtain rfl : q2 = Value.int i t2 := rv
      obtain ⟨l⟩ := es
      cases hp with
      | @cons e0 _ es' _ isk ev rest =>
        cases rest
        obtain ⟨t, ek⟩ := Value.isStrOf_shape (x := x) (v := e0.key) isk
        refine ⟨_, Reads.dict ho hx.1 hd (as := []) (bs := []) ?_ ?_, fun _ z => ?_⟩
        · show ReadsAll s.heap [e0.key] [PyData.str x] []
          rw [ek]
          exact ReadsAll.cons (as := []) (bs := []) (Reads.str x t) ReadsAll.nil
        · show ReadsAll s.heap [e0.val] [PyData.int i] []
          rw [show e0.val = Value.int i t2 from ev]
          exact ReadsAll.cons (as := []) (bs := []) (Reads.int i t2) ReadsAll.nil
        · exact ne (List.mem_singleton.mp z)
  | @empty a h =>
    obtain rfl : u = Value.ref a := r
    obtain ⟨_, ns, vs, rel, o, es, ep, ho, hx, hd, _, hp, _⟩ := (show ObjOk X.prog X.w H s.heap a (.dK []) from I.hok a _ h)
    have ne : sysModules ≠ a := fun z => by
      rw [z] at ns
      simp at ns
    cases rel
    obtain ⟨l⟩ := es
    cases hp
    exact ⟨_, Reads.dict ho hx.1 hd (as := []) (bs := []) ReadsAll.nil ReadsAll.nil, fun _ z => ne (List.mem_singleton.mp z)⟩
/-- repr(v): the text of the data -/
def rRepr (K : PySem.W.Frag) (bound : Nat) : List V → Hp → VK → Prop := fun xs H Q => ∃ v d, xs = [v] ∧ Dr K H v d ∧ d.showable = true ∧ d.depth < bound ∧ d.shown.length ≤ sizeLine ∧ Q (.str d.shown) H
theorem call_reprD {X : Cx} (hg : X.A.guards = some []) (hu : X.A.units + 64 < cLine) : CallR X (.builtin "repr") (rRepr X.K 60) := by
  intro pins s σ H xs us Q I r h
  obtain ⟨v, d, rfl, dr, sh, dep, sz, q⟩ := h
  obtain ⟨u, rfl, ru⟩ := vals1 r
  obtain ⟨as, rd, nosys⟩ := dr.reads I ru
  have fin : ∀ h' t tk, (∀ b o, s.heap.get? b = some o → h'.get? b = some o) → EP X pins σ Q (.str d.shown t) { s with heap := h', toks := tk } :=
    fun h' t tk keep => ⟨.str d.shown, H, I.kept keep, ⟨t, rfl⟩, q⟩
  cases rd with
  | none => exact PySem.P.repr_of_none (fin s.heap _ _ fun _ _ e => e)
  | bool b => exact PySem.P.repr_of_bool (fin s.heap _ _ fun _ _ e => e)
  | int i t => exact PySem.P.repr_of_int (by simpa [PyData.showable] using sh) (fin s.heap _ _ fun _ _ e => e)
  | str x t => exact PySem.P.repr_of_str (fin s.heap _ _ fun _ _ e => e) (by simpa [PyData.shown] using sz)
  | list h1 h2 h3 h4 => exact repr_of_reads' (.list h1 h2 h3 h4) sh nosys hg (by omega) (fun _ _ e => e) fin sz
  | tuple h1 h2 h3 h4 => exact repr_of_reads' (.tuple h1 h2 h3 h4) sh nosys hg (by omega) (fun _ _ e => e) fin sz
  | dict h1 h2 h3 h4 h5 => exact repr_of_reads' (.dict h1 h2 h3 h4 h5) sh nosys hg (by omega) (fun _ _ e => e) fin sz
end Vx

set_option Elab.async false
set_option linter.all false
set_option maxRecDepth 100000
set_option maxHeartbeats 4000000
/-! Own layer, part E: what the written part says of a class of errors, by one look. -/
namespace Vx
open PySem PySem.Spec PyProof.Rows L2
/-- all that is asked of such a class but its own object -/
def errB (K : PySem.W.Frag) (C fI : Addr) (fld : Str) : Bool :=
  decide (PySem.W.findIn K (.ref C) "__setattr__" = some (some (.builtin "object.__setattr__"))) && (decide (PySem.W.subIn K (.ref C) (.type "BaseException") = some true) &&
  (decide (PySem.W.typeIn K (.ref C) = some (.type "type")) && (PySem.W.keepIn K (.ref C) && (decide (PySem.W.findIn K (.ref C) fld = some none) &&
  (decide (PySem.W.findIn K (.ref C) "__init__" = some (some (.ref fI))) && (decide (PySem.W.typeIn K (.ref fI) = some (.type "function")) && PySem.W.keepIn K (.ref fI)))))))
def isB (K : PySem.W.Frag) (C : Addr) : Bool :=
  (PySem.W.clsIn K C).isSome && (xfB K C && (decide (PySem.W.findIn K (.ref C) "__class__" = some (some (.builtin "object.__class__"))) &&
  (decide (PySem.W.specialIn K (.builtin "object.__class__") "__get__" = some (some (.builtin "getset_descriptor.__get__"))) && (decide (PySem.W.takesIn K (.builtin "object.__class__") = some true) &&
  decide (PySem.W.mroIn K C (.type "object") = some true)))))
theorem isB_ok {K : PySem.W.Frag} {C : Addr} (h : isB K C = true) : IsC K C := by
  unfold isB at h
  simp only [Bool.and_eq_true, decide_eq_true_eq] at h
  obtain ⟨h1, h2, h3, h4, h5, h6⟩ := h
  exact ⟨h1, xfB_ok h2, h3, h4, h5, h6⟩
theorem ecl_mk {P : Program} {w : World} {K : PySem.W.Frag} {h : Heap} {mg : Str → Option Value} {x : Str} {C fI : Addr} {fld : Str} {st : Stmt} {p1 p2 p3 p4 : Pos}
    {nm q : Str} {N : Addr} {bs bm : List Value} {sn : List Str} {sub : List Value} {ab : Bool} {col : Option Bool} {dd : Option Addr} {m0 m1 m2 m3 m5 : Option Value} {qual : Str}
    {od an : Option Addr} {sl : Array (Option Value)} {oc kV dc pm cd ct : Value} (X : K.In h) (G : h.Ns mainGlobals mg)
    (aC : PySem.W.nsIn K mainGlobals x = some (some (.ref C)))
    (xL : K.lookup C = some (excClassObj nm q C N bs bm true sn sub ab col dd m0 m1 m2 m3 m5 "ValueError.__new__")) (hbm : PySem.HandSPX.refsVE bm = true)
    (eB : errB K C fI fld = true) (iB : isB K C = true)
    (l1 : K.lookup fI = some ⟨oc, od, .func (PySem.W.fnOf "__init__" qual (defArgs st) (defBody st) (defScope st) .none kV dc pm an cd ct), sl⟩) (c1 : PySem.W.codeIn K cd qual = true)
    (hb : defBody st = [.Assign [.Attribute (.Name "self" p1) fld p2] (.Name fld p3) p4])
    (sc : FnScope ["self", fld] ["self", fld] (defScope st)) (v1 : (defScope st).names.lookup ("self" : Str) = some NameKind.local) (v2 : (defScope st).names.lookup fld = some NameKind.local)
    (n1 : (fld == ("__debug__" : Str)) = false) (n2 : (fld == ("__classdict__" : Str)) = false)
    (b1 : ∀ (a u : Value), bindArgs (PySem.W.fnOf "__init__" qual (defArgs st) (defBody st) (defScope st) .none kV dc pm an cd ct) ⟨[a, u], []⟩ = pure ((["self", fld] : List Str).zip [a, u]))
    (b2 : ∀ (a u : Value), bindArgs (PySem.W.fnOf "__init__" qual (defArgs st) (defBody st) (defScope st) .none kV dc pm an cd ct) ⟨[a], [(fld, u)]⟩ = pure ((["self", fld] : List Str).zip [a, u]))
    (base : Heap) : Ecl P w K mg base x C fld := by
  unfold errB at eB
  simp only [Bool.and_eq_true, decide_eq_true_eq] at eB
  obtain ⟨sa, exC, tyC, kC, no, iC, tI, kI⟩ := eB
  have T : ErC K C fI fld := ⟨⟨⟨nm, q, N, bs, bm, sn, sub, ab, col, dd, m0, m1, m2, m3, m5, xL, hbm⟩, sa, exC, tyC, kC⟩, no, iC, tI⟩
  have F := fun_mk (st := st) l1 c1 kI
  exact ⟨PySem.W.mg_of X G aC, isB_ok iB, no, fI, _, T, ok_einit T F hb sc v1 v2 n1 n2, fun s a u _ => .of_eq (b1 a u), fun s a u _ => .of_eq (b2 a u)⟩
end Vx

set_option Elab.async false
set_option linter.all false
set_option maxRecDepth 100000
set_option maxHeartbeats 4000000
/-! Own layer, part R: operators where one side is an instance of a class of the program, the other one of another kind. -/
namespace PySem.Vr
open PySem PySem.W PySem.Calls PyProof.Rows

section
variable {prog : Program} {w : World} {M : Model} {A : Around} {E : Value → Shared → Prop} {s : Shared} {K : Frag} {x C f : Addr} {ox : Obj} {od : Option Obj}

/-- the object is no int and no text -/
theorem looks_asInt {h : Heap} (ho : h.get? x = some ox) (hd : ox.data = .plain) : Looks M h (asInt? (.ref x)) none := by
  refine (Looks.ld (part := none) ho).andThen ?_
  simp only [hd]
  exact .now
theorem looks_asStr {h : Heap} (ho : h.get? x = some ox) (hd : ox.data = .plain) : Looks M h (asStr? (.ref x)) none := by
  refine (Looks.ld (part := none) ho).andThen ?_
  simp only [hd]
  exact .now
/-- a slot of two ints (or a bool) declines it -/
theorem intBin_no {n : String} {g : Int → Int → Sem Fin} {refl : Bool} {v : Value} {R : Fin → Shared → Prop} (hv : (∃ i t, v = .int i t) ∨ ∃ b, v = .bool b) (ho : s.heap.get? x = some ox) (hd : ox.data = .plain)
    (q : R (.done (.ret .notImplemented)) s) : wpAny M A (Builtin.Int.intBinary n g refl ⟨[v, .ref x], []⟩) R E s := by
  unfold Builtin.Int.intBinary
  refine wpAny_bind (m := slotArgs n 1 _) (wpAny_pure ?_)
  refine wpAny_bind (m := Builtin.Int.intOfSelf v) (Q := R) ?_
  have one : ∃ j, asInt? v = pure (some j) := by
    rcases hv with ⟨i, t, rfl⟩ | ⟨b, rfl⟩
    · exact ⟨_, rfl⟩
    · exact ⟨_, rfl⟩
  obtain ⟨j, e⟩ := one
  unfold Builtin.Int.intOfSelf
  refine wpAny_bind (wpAny_of_eq e (wpAny_pure ?_))
  refine wpAny_bind (m := asInt? (.ref x)) ((looks_asInt ho hd).here ?_)
  exact wpAny_bind (wpAny_rule (wpAny_pure q))
theorem strCmp_no {n : String} {g : List Nat → List Nat → Bool} {z : Str} {t : Tok} {R : Fin → Shared → Prop} (ho : s.heap.get? x = some ox) (hd : ox.data = .plain)
    (q : R (.done (.ret .notImplemented)) s) : wpAny M A (Builtin.Str.strCompare n g ⟨[.str z t, .ref x], []⟩) R E s := by
  unfold Builtin.Str.strCompare
  refine wpAny_bind (m := Builtin.Str.strSlot n 1 _) (wpAny_pure ?_)
  refine wpAny_bind (m := asStr? (.ref x)) ((looks_asStr ho hd).here ?_)
  exact wpAny_bind (wpAny_rule (wpAny_pure q))

/-- a method of a type that declines -/
theorem try_no {T : String} {name : Str} {id : String} {B : Builtin} {v b : Value} {Q : Option Value → Shared → Prop} (hT : s.TypeIs v T) (slot : Slot T name id) (entry : entryFor table id = some B) (args : argsOk id ⟨[v, b], []⟩)
    (body : ∀ (A' : Around) (R : Fin → Shared → Prop) (E' : Value → Shared → Prop), R (.done (.ret .notImplemented)) s → wpAny (model prog w) A' (B ⟨[v, b], []⟩) R E' s) (q : Q none s) :
    wpAny (model prog w) A (tryMethod v name b) Q E s := by
  unfold tryMethod
  exact wpAny_bind (wpAny_callSpecial?_slot hT slot (wpAny_call (codeAny_call_builtin slot.plain entry (slot.check _ _ _ _ _ _ _ _ hT args (body _ _ _ (wpAny_pure q))))))
theorem cmp_no {T : String} {name : Str} {id : String} {B : Builtin} {v b : Value} {Q : Option Value → Shared → Prop} (hT : s.TypeIs v T) (slot : Slot T name id) (entry : entryFor table id = some B) (args : argsOk id ⟨[v, b], []⟩)
    (body : ∀ (A' : Around) (R : Fin → Shared → Prop) (E' : Value → Shared → Prop), R (.done (.ret .notImplemented)) s → wpAny (model prog w) A' (B ⟨[v, b], []⟩) R E' s) (q : Q none s) :
    wpAny (model prog w) A (tryCompare v name b) Q E s :=
  wpAny_tryCompare_declines hT slot (wpAny_call (codeAny_call_builtin slot.plain entry (slot.check _ _ _ _ _ _ _ _ hT args (body _ _ _ ⟨rfl, q⟩))))

/-- an int on the left, an instance with the reflected method on the right -/
theorem bin_int {op : Operator} {i : Int} {t : Tok} {f0 : Addr} {Q : Value → Shared → Prop} (X : K.In s.heap) (I : InstAt s.heap x ox C od) (hc : selfFirst K C = true)
    (hs0 : findIn K (.ref C) (PySem.dunder op.info.2) = some (some (.ref f0))) (hs : findIn K (.ref C) (dunderR op.info.2) = some (some (.ref f))) (hf : isFn K (.ref f) = true)
    (fi : fillsNumberSlot (.type "int") op.info.2 = pure true) (hm : mroIn K C (.type "int") = some false)
    (no : ∀ (A' : Around) (Q : Option Value → Shared → Prop) (E' : Value → Shared → Prop), Q none s → wpAny (model prog w) A' (tryMethod (.int i t) (PySem.dunder op.info.2) (.ref x)) Q E' s)
    (h : wpAny (model prog w) A (call (.ref f) [.ref x, .int i t]) (PySem.W.CmpBack Q) E s) : wpAny (model prog w) A (binaryOp op (.int i t) (.ref x)) Q E s := by
  obtain ⟨cd, rest, hcd, hm'⟩ := ksp_first hc
  rcases hi : op.info with ⟨sym, nm⟩
  rw [hi] at hs0 hs fi no
  dsimp only at hs0 hs fi no
  have one := ksp_try X I hs hf h
  obtain ⟨hh, g, d, tt, os⟩ := s
  have L1 : Looks (model prog w) hh (typeOf (.ref x)) (.ref C) := I.type
  have L2 : Looks (model prog w) hh (typeOf (.int i t)) (.type "int") := Looks.of_pure rfl
  have L3 : Looks (model prog w) hh (fillsNumberSlot (.ref C) nm) true := fills_K X hcd hm' hs0
  have L4 : Looks (model prog w) hh (fillsNumberSlot (.type "int") nm) true := Looks.of_pure fi
  have L5 : Looks (model prog w) hh (isSubtype (.ref C) (.type "int")) false := looks_mroIn X hm
  have L7 : Looks (model prog w) hh (numberSlotInPython (.type "int") nm) false := Looks.of_pure rfl
  have hne : (Value.type "int" == Value.ref C) = false := Bool.eq_false_iff.mpr fun q => by cases beq_iff_eq.mp q
  simp only [binaryOp, hi]
  refine wpAny_holding (wpAny_bind ?_)
  unfold binaryOp1
  refine wpAny_bind (L2.at (wpAny_bind (L1.at (wpAny_bind (L4.at ?_)))))
  simp only [hne, Bool.false_eq_true, if_false]
  ksp_lk
  refine no _ _ _ ?_
  ksp_lk
  refine wpAny_mono one (fun r s' hr' => ?_) fun _ _ e => e
  obtain ⟨v, rfl, hq⟩ := hr'
  ksp_lk
  exact hq

/-- two instances of one class -/
theorem bin1_own {nm : String} {b : Value} {Q : Value → Shared → Prop} {R : Option Value → Shared → Prop} (X : K.In s.heap) (I : InstAt s.heap x ox C od) (hb : Looks (model prog w) s.heap (typeOf b) (.ref C)) (hc : selfFirst K C = true)
    (hs : findIn K (.ref C) (PySem.dunder nm) = some (some (.ref f))) (hf : isFn K (.ref f) = true) (hR : ∀ v s', Q v s' → R (some v) s')
    (h : wpAny (model prog w) A (call (.ref f) [.ref x, b]) (PySem.W.CmpBack Q) E s) : wpAny (model prog w) A (binaryOp1 nm (.ref x) b) R E s := by
  obtain ⟨cd, rest, hcd, hm⟩ := ksp_first hc
  have one := ksp_try X I hs hf h
  obtain ⟨hh, g, d, tt, os⟩ := s
  have L1 : Looks (model prog w) hh (typeOf (.ref x)) (.ref C) := I.type
  have L2 : Looks (model prog w) hh (typeOf b) (.ref C) := hb
  have L3 : Looks (model prog w) hh (fillsNumberSlot (.ref C) nm) true := fills_K X hcd hm hs
  unfold binaryOp1
  refine wpAny_bind (L1.at (wpAny_bind (L2.at (wpAny_bind (L3.at ?_)))))
  simp only [beq_self_eq_true, if_true]
  ksp_lk
  refine wpAny_mono one (fun r s' hr' => ?_) fun _ _ e => e
  obtain ⟨v, rfl, hq⟩ := hr'
  ksp_lk
  exact hR _ _ hq
/-- no method in place -/
theorem fillsI_no {h : Heap} {cd : ClassData} {nm : String} {add : Bool} (X : K.In h) (hc : clsIn K C = some cd) (hm : cd.mro = [.ref C, .type "object"]) (hs : findIn K (.ref C) (dunderI nm) = some none)
    (ho : typeLookup (.type "object") (dunderI nm) = pure none) : Looks M h (fillsInplaceSlot (.ref C) nm add) false := by
  intro A Q E s k q
  have Lm : Looks M h (mroOf (.ref C)) cd.mro := (looks_clsIn X hc).andThen (f := fun cd => pure cd.mro) .now
  have Lm' := Lm.keeps k
  obtain ⟨hh, g, d, tt, os⟩ := s
  have X' : K.In hh := X.keeps k
  have L1 : Looks M hh (typeLookup (.ref C) (dunderI nm)) none := looks_findIn X' hs
  have L2 : Looks M hh (typeLookup (.type "object") (dunderI nm)) none := Looks.of_pure ho
  unfold fillsInplaceSlot
  refine wpAny_bind (Lm'.at ?_)
  rw [hm, List.anyM_cons]
  refine wpAny_bind ?_
  refine wpAny_bind (L1.at (wpAny_pure ?_))
  simp only [Bool.false_eq_true, if_false]
  rw [List.anyM_cons]
  refine wpAny_bind ?_
  refine wpAny_bind (L2.at (wpAny_pure ?_))
  simp only [Bool.false_eq_true, if_false]
  exact wpAny_pure q
theorem inp_own {op : Operator} {b : Value} {cd : ClassData} {Q : Value → Shared → Prop} (X : K.In s.heap) (I : InstAt s.heap x ox C od) (hb : Looks (model prog w) s.heap (typeOf b) (.ref C)) (hc : selfFirst K C = true)
    (hcd : clsIn K C = some cd) (hm : cd.mro = [.ref C, .type "object"]) (hi : findIn K (.ref C) (dunderI op.info.2) = some none) (ho : typeLookup (.type "object") (dunderI op.info.2) = pure none)
    (hs : findIn K (.ref C) (PySem.dunder op.info.2) = some (some (.ref f))) (hf : isFn K (.ref f) = true)
    (h : wpAny (model prog w) A (call (.ref f) [.ref x, b]) (PySem.W.CmpBack Q) E s) : wpAny (model prog w) A (inplaceOp op (.ref x) b) Q E s := by
  unfold inplaceOp
  refine wpAny_holding ?_
  refine wpAny_bind (I.type.here (wpAny_bind ((fillsI_no X hcd hm hi ho).here ?_)))
  simp only [Bool.false_eq_true, if_false]
  exact wpAny_bind (m := binaryOp1 op.info.2 (.ref x) b) (bin1_own X I hb hc hs hf (fun v s' hq => wpAny_pure hq) h)
end
end PySem.Vr

set_option Elab.async false
set_option linter.all false
set_option maxRecDepth 100000
set_option maxHeartbeats 4000000
/-! Own layer, part R2: == and != where one side is an instance of a class of the program. -/
namespace PySem.Vr
open PySem PySem.W PySem.Calls PyProof.Rows

section
variable {prog : Program} {w : World} {M : Model} {A : Around} {E : Value → Shared → Prop} {s : Shared} {K : Frag} {x C f : Addr} {ox : Obj} {od : Option Obj}

/-- a method of object, found at an instance, called where the model looks whether it can be bound -/
theorem ifBound_bi {name : Str} {id : String} {args : List Value} {Q : Option Value → Shared → Prop} (X : K.In s.heap) (I : PySem.W.InstAt s.heap x ox C od) (hs : findIn K (.ref C) name = some (some (.builtin id)))
    (hb : ∀ self, bindSpecial (.builtin id) self = pure (.builtin id, [self])) (h : wpAny M A (call (.builtin id) (.ref x :: args)) (fun v => Q (some v)) E s) : wpAny M A (callSpecialIfBound? (.ref x) name args) Q E s := by
  simp only [callSpecialIfBound?, bindSpecialIfBound?]
  refine wpAny_holding (wpAny_bind (wpAny_bind (wpAny_bind (I.type.here ((looks_findIn X hs).here ?_)))))
  refine wpAny_bind (wpAny_askSetting (wpAny_ite ?_))
  have fin : wpAny M A (call (.builtin id) ([.ref x] ++ args) >>= fun v => pure (some v)) Q E s := wpAny_bind (wpAny_mono h (fun v s' h' => wpAny_pure h') fun _ _ h' => h')
  split
  · exact wpAny_bind (wpAny_of_eq (hb _) (wpAny_pure (by exact fin)))
  · exact wpAny_tryCatch (wpAny_bind (wpAny_of_eq (hb _) (wpAny_pure (by exact fin))))

/-- object's own != by the class's == -/
theorem call_objNe {b : Value} {Q : Value → Shared → Prop} (hu : A.in1.units < cLine) (X : K.In s.heap) (I : PySem.W.InstAt s.heap x ox C od) (hm : mroIn K C (.type "object") = some true) (hs : findIn K (.ref C) "__eq__" = some (some (.ref f)))
    (hf : isFn K (.ref f) = true) (h : wpAny (model prog w) A.in1 (call (.ref f) [.ref x, b]) (fun v s' => ∃ r, v = .bool r ∧ Q (.bool (!r)) s') E s) :
    wpAny (model prog w) A (call (.builtin "object.__ne__") [.ref x, b]) Q E s := by
  refine wpAny_call (codeAny_call_builtin PySem.F.cmp_object.ne.plain PySem.F.cmpEntry_ne (check_slot PySem.F.cmpKind_ne PySem.F.cmpSplit_ne (I.type.andThen (looks_mroIn X hm)) (PySem.F.cmpArgs_ne _ _) ?_))
  unfold Builtin.«object.__ne__»
  refine wpAny_bind (m := slotArgs "__ne__" 1 _) (wpAny_pure ?_)
  refine wpAny_bind (m := cRoomFor _ _) (wpAny_cRoomFor hu ?_)
  refine wpAny_bind (m := callSpecialIfBound? (.ref x) (Str.ofString "__eq__") _) (ifBound_K X I hs hf (wpAny_mono h (fun r s' hq => ?_) fun _ _ y => y))
  obtain ⟨r, rfl, q⟩ := hq
  exact wpAny_bind (wpAny_truthy_bool (wpAny_pure q))

/-- an instance on the left of != -/
theorem ne_left {b tb : Value} {Q : Value → Shared → Prop} (hu : A.units < cLine) (hu1 : A.in1.units < cLine) (X : K.In s.heap) (I : PySem.W.InstAt s.heap x ox C od) (hb : Looks (model prog w) s.heap (typeOf b) tb) (hn : notFirst K C tb = true)
    (hne : findIn K (.ref C) "__ne__" = some (some (.builtin "object.__ne__"))) (hm : mroIn K C (.type "object") = some true) (hs : findIn K (.ref C) "__eq__" = some (some (.ref f)))
    (hf : isFn K (.ref f) = true) (h : wpAny (model prog w) A.in1 (call (.ref f) [.ref x, b]) (fun v s' => ∃ r, v = .bool r ∧ Q (.bool (!r)) s') E s) : wpAny (model prog w) A (richCompare .NotEq (.ref x) b) Q E s := by
  have one : wpAny (model prog w) A (tryCompare (.ref x) "__ne__" b) (fun r s' => ∃ v, r = some v ∧ Q v s') E s := by
    unfold tryCompare
    refine wpAny_bind (ifBound_bi X I hne PySem.F.cmp_object.ne.bind (call_objNe hu1 X I hm hs hf (wpAny_mono h (fun v s' hv => ?_) fun _ _ e => e)))
    obtain ⟨r, rfl, q⟩ := hv
    exact ⟨r, rfl, wpAny_pure ⟨_, rfl, q⟩⟩
  unfold richCompare
  simp only [oneThing_ref]
  refine wpAny_holding (wpAny_bind (wpAny_cRoomFor hu ?_))
  rw [cmpInfo_NotEq]
  dsimp only
  refine wpAny_bind (I.type.here (wpAny_bind (hb.here ?_)))
  split
  · rename_i q
    have e : subIn K tb (.ref C) = some false := by
      rcases Bool.or_eq_true_iff.mp hn with e | e
      · rw [beq_iff_eq.mp e] at q; simp at q
      · exact beq_iff_eq.mp e
    refine wpAny_bind ((looks_subIn X e).here ?_)
    simp only [Bool.false_eq_true, if_false]
    refine wpAny_bind (wpAny_mono one (fun r s' z => ?_) fun _ _ e => e)
    obtain ⟨v, rfl, hq⟩ := z
    exact wpAny_pure hq
  · refine wpAny_bind (wpAny_pure ?_)
    simp only [Bool.false_eq_true, if_false]
    refine wpAny_bind (wpAny_mono one (fun r s' z => ?_) fun _ _ e => e)
    obtain ⟨v, rfl, hq⟩ := z
    exact wpAny_pure hq

/-- an instance on the right of ==, a thing of a built-in type that declines on the left -/
theorem eq_right {T : String} {b : Value} {Q : Value → Shared → Prop} (hu : A.units < cLine) (X : K.In s.heap) (I : PySem.W.InstAt s.heap x ox C od) (hT : s.TypeIs b T) (hm : mroIn K C (.type T) = some false)
    (no : ∀ (A' : Around) (Q : Option Value → Shared → Prop) (E' : Value → Shared → Prop), Q none s → wpAny (model prog w) A' (tryCompare b "__eq__" (.ref x)) Q E' s)
    (hs : findIn K (.ref C) "__eq__" = some (some (.ref f))) (hf : isFn K (.ref f) = true)
    (h : wpAny (model prog w) A (call (.ref f) [.ref x, b]) (PySem.W.CmpBack Q) E s) : wpAny (model prog w) A (richCompare .Eq b (.ref x)) Q E s := by
  have one : wpAny (model prog w) A (tryCompare (.ref x) "__eq__" b) (fun r s' => ∃ v, r = some v ∧ Q v s') E s := by
    unfold tryCompare
    refine wpAny_bind (ifBound_K X I hs hf (wpAny_mono h (fun v s' hv => ?_) fun _ _ e => e))
    cases v <;> first | exact hv.elim | exact wpAny_pure ⟨_, rfl, hv⟩
  unfold richCompare
  simp only [hT.oneThing_none]
  refine wpAny_holding (wpAny_bind (wpAny_cRoomFor hu ?_))
  rw [cmpInfo_Eq]
  dsimp only
  refine wpAny_bind (wpAny_typeOf hT (wpAny_bind (I.type.here ?_)))
  rw [if_pos (show (Value.type T != Value.ref C) = true from by simp [bne])]
  refine wpAny_bind (m := isSubtype (.ref C) (.type T)) ((looks_mroIn X hm).here ?_)
  simp only [Bool.false_eq_true, if_false, Bool.not_false, if_true]
  refine wpAny_bind (no _ _ _ ?_)
  refine wpAny_bind (wpAny_mono one (fun r s' z => ?_) fun _ _ e => e)
  obtain ⟨v, rfl, hq⟩ := z
  exact wpAny_pure hq

theorem looks_isa {h : Heap} {b : Value} {r : Bool} (X : K.In h) (I : PySem.W.InstAt h x ox C od) (hm : mroIn K C b = some r) : Looks M h (isInstance (.ref x) b) r := by
  unfold isInstance
  exact I.type.andThen (looks_mroIn X hm)
/-- the built-in types that decline it -/
theorem no_none {Q : Option Value → Shared → Prop} (q : Q none s) : wpAny (model prog w) A (tryCompare .none "__eq__" (.ref x)) Q E s :=
  wpAny_tryCompare_declines (show s.TypeIs .none "NoneType" from rfl) PySem.F.slot_NoneType_eq_refl (call_gives PySem.F.slot_NoneType_eq_refl rfl PySem.F.entry_NoneType_eq (PySem.F.args_NoneType_eq_2 _ _) (SeqAt.NoneType___eq___none_ref_0 x) ⟨rfl, q⟩)
theorem no_int {i : Int} {t : Tok} {Q : Option Value → Shared → Prop} (ho : s.heap.get? x = some ox) (hd : ox.data = .plain) (q : Q none s) : wpAny (model prog w) A (tryCompare (.int i t) "__eq__" (.ref x)) Q E s :=
  cmp_no (T := "int") rfl PySem.F.slot_int_eq_refl PySem.F.entry_int_eq (PySem.F.args_int_eq_2 _ _) (fun A' R E' k => intBin_no (.inl ⟨_, _, rfl⟩) ho hd k) q
theorem no_bool {b : Bool} {Q : Option Value → Shared → Prop} (ho : s.heap.get? x = some ox) (hd : ox.data = .plain) (q : Q none s) : wpAny (model prog w) A (tryCompare (.bool b) "__eq__" (.ref x)) Q E s :=
  cmp_no (T := "bool") rfl PySem.F.slot_bool_eq_refl PySem.F.entry_int_eq (PySem.F.args_int_eq_2 _ _) (fun A' R E' k => intBin_no (.inr ⟨_, rfl⟩) ho hd k) q
theorem no_str {z : Str} {t : Tok} {Q : Option Value → Shared → Prop} (ho : s.heap.get? x = some ox) (hd : ox.data = .plain) (q : Q none s) : wpAny (model prog w) A (tryCompare (.str z t) "__eq__" (.ref x)) Q E s :=
  cmp_no (T := "str") rfl PySem.F.slot_str_eq_refl PySem.F.entry_str_eq (PySem.F.args_str_eq_2 _ _) (fun A' R E' k => strCmp_no ho hd k) q
theorem no_list {l : Addr} {Q : Option Value → Shared → Prop} (X : K.In s.heap) (I : PySem.W.InstAt s.heap x ox C od) (hm : mroIn K C (.type "list") = some false) (hT : s.TypeIs (.ref l) "list") (q : Q none s) : wpAny (model prog w) A (tryCompare (.ref l) "__eq__" (.ref x)) Q E s :=
  cmp_no hT PySem.F.slot_list_eq_refl PySem.F.entry_list_eq (PySem.F.args_list_eq_2 _ _) (fun A' R E' k => by
    unfold Builtin.«list.__eq__»
    refine wpAny_bind (m := slotArgs "__eq__" 1 _) (wpAny_pure ?_)
    refine wpAny_bind (m := isInstance (.ref x) (.type "list")) ((looks_isa X I hm).here ?_)
    exact wpAny_pure k) q
theorem no_tuple {l : Addr} {Q : Option Value → Shared → Prop} (X : K.In s.heap) (I : PySem.W.InstAt s.heap x ox C od) (hm : mroIn K C (.type "tuple") = some false) (hT : s.TypeIs (.ref l) "tuple") (q : Q none s) : wpAny (model prog w) A (tryCompare (.ref l) "__eq__" (.ref x)) Q E s :=
  cmp_no hT PySem.F.slot_tuple_eq_refl PySem.F.entry_tuple_eq (PySem.F.args_tuple_eq_2 _ _) (fun A' R E' k => by
    unfold Builtin.«tuple.__eq__»
    refine wpAny_bind (m := slotArgs "__eq__" 1 _) (wpAny_pure ?_)
    refine wpAny_bind (m := isInstance (.ref x) (.type "tuple")) ((looks_isa X I hm).here ?_)
    exact wpAny_pure k) q
theorem no_dict {l : Addr} {Q : Option Value → Shared → Prop} (X : K.In s.heap) (I : PySem.W.InstAt s.heap x ox C od) (hm : mroIn K C (.type "dict") = some false) (hT : s.TypeIs (.ref l) "dict") (q : Q none s) : wpAny (model prog w) A (tryCompare (.ref l) "__eq__" (.ref x)) Q E s :=
  cmp_no hT PySem.F.slot_dict_eq_refl PySem.F.entry_dict_eq (PySem.F.args_dict_eq_2 _ _) (fun A' R E' k => by
    unfold Builtin.«dict.__eq__»
    refine wpAny_bind (m := Builtin.Dict.dictSlotArgs "__eq__" _) ?_
    unfold Builtin.Dict.dictSlotArgs
    refine wpAny_bind (m := Builtin.Dict.notOrdered "__eq__" _) ?_
    unfold Builtin.Dict.notOrdered
    refine wpAny_pure ?_
    refine wpAny_bind (m := slotArgs "__eq__" 1 _) (wpAny_pure (wpAny_pure ?_))
    refine wpAny_bind (m := isInstance (.ref x) (.type "dict")) ((looks_isa X I hm).here ?_)
    exact wpAny_bind (wpAny_rule (wpAny_pure k))) q
end
end PySem.Vr

set_option Elab.async false
set_option linter.all false
set_option maxRecDepth 100000
set_option maxHeartbeats 4000000
/-! Own layer, part R3: rules for expressions of operators on instances of a class of the program. -/
namespace Vr
open PySem PySem.Spec PyProof.Rows L2 Vx

/-- what is asked of the class -/
structure Own (K : PySem.W.Frag) (C : Addr) : Prop where
  cls : Cls K C
  first : PySem.W.selfFirst K C = true
  obj : PySem.W.mroIn K C (.type "object") = some true
  noInt : PySem.W.mroIn K C (.type "int") = some false
/-- its method of the name -/
structure Mth (P : Program) (w : World) (K : PySem.W.Frag) (mg : Str → Option Value) (base : Heap) (C : Addr) (name : Str) (k : Nat) (ps : List Str) (sp : Sp) : Prop where
  ex : ∃ f fd, PySem.W.findIn K (.ref C) name = some (some (.ref f)) ∧ PySem.W.isFn K (.ref f) = true ∧ FnOk P w K mg base CX0 k f fd ps sp ∧ Binds K fd ps []
/-- an answer of such a method -/
def Nn (v : V) : Prop := (∃ p, v = .ref p) ∨ ∃ b, v = .bl b
theorem back {Q : Value → Shared → Prop} {v : V} {u : Value} {s' : Shared} (n : Nn v) (r : RelV v u) (q : Q u s') : PySem.W.CmpBack Q u s' := by
  rcases n with ⟨p, rfl⟩ | ⟨b, rfl⟩
  · obtain rfl : u = .ref p := r
    exact q
  · obtain rfl : u = .bool b := r
    exact q
section
variable {X : Cx} {pins : List (Addr × Obj)} {σ : L2.St} {H : Hp} {s : Shared} {C a dx : Addr} {fs : List (Str × V)} {k : Nat} {ps : List Str} {sp : Sp}
theorem inst_at (I : Inv X pins σ H s) (h : H a = some (.ins C dx fs)) : ∃ ox od, PySem.W.InstAt s.heap a ox C od ∧ ox.data = .plain := by
  obtain ⟨mA, J, _⟩ := ins_get I.hok h
  obtain ⟨od, J, _⟩ := J.look
  exact ⟨_, od, J, rfl⟩
theorem calls {f : Addr} {fd : FuncData} {Q : VK} {us : List Value} {vs : List V} (F : FnOk X.prog X.w X.K X.mg X.base CX0 k f fd ps sp) (hr : Room k X.A) (hb : Binds X.K fd ps []) (I : Inv X pins σ H s) (r : Vals vs us)
    (h : sp vs H (fun v H' => Nn v ∧ Q v H') E0) : wpAny (model X.prog X.w) X.A (call (.ref f) us) (PySem.W.CmpBack (EP X pins σ Q)) X.xe s := by
  refine thn (run_fn (us := us) (vs := vs) F hr hb .nil pass0 I r (by rw [List.append_nil]; exact h)) fun u s1 z => ?_
  obtain ⟨v, H1, J, rv, n, q⟩ := z
  exact back n rv ⟨v, H1, J, rv, q⟩
/-- own op own, own op int -/
theorem op_own {op : Operator} {fo ro rc : Option Value} (O : Own X.K C) (M : Mth X.prog X.w X.K X.mg X.base C (PySem.dunder op.info.2) k ps sp) (hr : Room k X.A)
    (hR : PySem.W.findIn X.K (.ref C) (PySem.dunderR op.info.2) = some rc) (hp : rc = none ∨ ∃ g : Addr, rc = some (.ref g))
    (h1 : PySem.W.findIn X.K (.type "int") (PySem.dunder op.info.2) = some fo) (h2 : PySem.W.findIn X.K (.type "int") (PySem.dunderR op.info.2) = some ro) (hsub : PySem.W.subIn X.K (.type "int") (.ref C) = some false) :
    OpR X (binaryOp op) (fun x y H Q => ∃ a dx fs, x = .ref a ∧ H a = some (.ins C dx fs) ∧ ((∃ b dy gs, y = .ref b ∧ H b = some (.ins C dy gs)) ∨ ∃ i, y = .int i) ∧ sp [x, y] H (fun v H' => Nn v ∧ Q v H') E0) := by
  intro pins s σ H x y v u Q I rx ry h
  obtain ⟨a, dx, fs, rfl, ha, hy, q⟩ := h
  obtain rfl : v = .ref a := rx
  obtain ⟨f, fd, hs, hf, F, hb⟩ := M.ex
  obtain ⟨ox, od, J, hd⟩ := inst_at I ha
  obtain ⟨m, hF⟩ := I.fr
  have go := calls F hr hb I (us := [.ref a, u]) (vs := [.ref a, y]) (.cons rfl (.cons ry .nil)) q
  rcases hy with ⟨b, dy, gs, rfl, hb'⟩ | ⟨i, rfl⟩
  · obtain rfl : u = .ref b := ry
    obtain ⟨oy, oe, J', _⟩ := inst_at I hb'
    exact PySem.W.binop_K hF I.ok.mod.kin J J'.type O.first hs hf go
  · obtain ⟨t, rfl⟩ := ry
    exact PySem.W.ksp_binT hF I.ok.mod.kin J rfl O.first hs hf hR hp h1 h2 hsub go
/-- int op own -/
theorem op_intOwn {op : Operator} {f0 : Addr} {id : String} {B : Builtin} {g : Int → Int → Sem Fin} (O : Own X.K C) (M : Mth X.prog X.w X.K X.mg X.base C (PySem.dunderR op.info.2) k ps sp) (hr : Room k X.A)
    (hs0 : PySem.W.findIn X.K (.ref C) (PySem.dunder op.info.2) = some (some (.ref f0))) (fi : fillsNumberSlot (.type "int") op.info.2 = pure true)
    (slot : Slot "int" (PySem.dunder op.info.2) id) (entry : entryFor table id = some B) (args : ∀ a b, argsOk id ⟨[a, b], []⟩) {n : String} (hB : B = Builtin.Int.intBinary n g false) :
    OpR X (binaryOp op) (fun x y H Q => ∃ i a dx fs, x = .int i ∧ y = .ref a ∧ H a = some (.ins C dx fs) ∧ sp [y, x] H (fun v H' => Nn v ∧ Q v H') E0) := by
  intro pins s σ H x y v u Q I rx ry h
  obtain ⟨i, a, dx, fs, rfl, rfl, ha, q⟩ := h
  obtain rfl : u = .ref a := ry
  obtain ⟨t, rfl⟩ := rx
  obtain ⟨f, fd, hs, hf, F, hb⟩ := M.ex
  obtain ⟨ox, od, J, hd⟩ := inst_at I ha
  have go := calls F hr hb I (us := [.ref a, .int i t]) (vs := [.ref a, .int i]) (.cons rfl (.cons ⟨t, rfl⟩ .nil)) q
  refine PySem.Vr.bin_int I.kIn J O.first hs0 hs hf fi O.noInt (fun A' R E' k => ?_) go
  exact PySem.Vr.try_no (T := "int") rfl slot entry (args _ _) (fun A2 R2 E2 k2 => by rw [hB]; exact PySem.Vr.intBin_no (.inl ⟨_, _, rfl⟩) J.at_ hd k2) k
/-- own op= own -/
theorem iop_own {op : Operator} {cd : ClassData} (O : Own X.K C) (M : Mth X.prog X.w X.K X.mg X.base C (PySem.dunder op.info.2) k ps sp) (hr : Room k X.A)
    (hcd : PySem.W.clsIn X.K C = some cd) (hm : cd.mro = [.ref C, .type "object"]) (hi : PySem.W.findIn X.K (.ref C) (PySem.dunderI op.info.2) = some none) (ho : typeLookup (.type "object") (PySem.dunderI op.info.2) = pure none) :
    OpR X (inplaceOp op) (fun x y H Q => ∃ a dx fs b dy gs, x = .ref a ∧ H a = some (.ins C dx fs) ∧ y = .ref b ∧ H b = some (.ins C dy gs) ∧ sp [x, y] H (fun v H' => Nn v ∧ Q v H') E0) := by
  intro pins s σ H x y v u Q I rx ry h
  obtain ⟨a, dx, fs, b, dy, gs, rfl, ha, rfl, hb', q⟩ := h
  obtain rfl : v = .ref a := rx
  obtain rfl : u = .ref b := ry
  obtain ⟨f, fd, hs, hf, F, hb⟩ := M.ex
  obtain ⟨ox, od, J, hd⟩ := inst_at I ha
  obtain ⟨oy, oe, J', _⟩ := inst_at I hb'
  have go := calls F hr hb I (us := [.ref a, .ref b]) (vs := [.ref a, .ref b]) (.cons rfl (.cons rfl .nil)) q
  exact PySem.Vr.inp_own I.kIn J J'.type O.first hcd hm hi ho hs hf go
/-- - own -/
theorem un_negOwn (M : Mth X.prog X.w X.K X.mg X.base C "__neg__" k ps sp) (hr : Room k X.A) :
    UnR X (unaryOp .USub) (fun x H Q => ∃ a dx fs, x = .ref a ∧ H a = some (.ins C dx fs) ∧ sp [x] H Q E0) := by
  intro pins s σ H x v Q I rx h
  obtain ⟨a, dx, fs, rfl, ha, q⟩ := h
  obtain rfl : v = .ref a := rx
  obtain ⟨f, fd, hs, hf, F, hb⟩ := M.ex
  obtain ⟨ox, od, J, hd⟩ := inst_at I ha
  obtain ⟨m, hF⟩ := I.fr
  exact PySem.W.ksp_neg hF I.ok.mod.kin J hs hf (run_fn (us := [.ref a]) (vs := [.ref a]) F hr hb .nil pass0 I (.cons rfl .nil) q)
end
end Vr

set_option Elab.async false
set_option linter.all false
set_option maxRecDepth 100000
set_option maxHeartbeats 4000000
/-! Own layer, part R4: == and != on instances of a class of the program, str of one. -/
namespace Vr
open PySem PySem.Spec PyProof.Rows L2 Vx

/-- things of built-in types -/
inductive Oth (K : PySem.W.Frag) (H : Hp) : V → String → Prop where
  | non : Oth K H .non "NoneType"
  | bl (b : Bool) : Oth K H (.bl b) "bool"
  | int (i : Int) : Oth K H (.int i) "int"
  | str (x : Str) : Oth K H (.str x) "str"
  | lst {a : Addr} {xs : List V} (e : H a = some (.lst xs)) : Oth K H (.ref a) "list"
  | tup {a : Addr} {xs : List V} (e : H a = some (.tup xs)) : Oth K H (.ref a) "tuple"
  | dK {a : Addr} {kvs : List (Key × V)} (e : H a = some (.dK kvs)) : Oth K H (.ref a) "dict"
/-- the types that the class is none of -/
structure Far (K : PySem.W.Frag) (C : Addr) : Prop where
  to : ∀ T ∈ ["NoneType", "bool", "int", "str", "list", "tuple", "dict"], PySem.W.mroIn K C (.type T) = some false
  from_ : ∀ T ∈ ["NoneType", "bool", "int", "str", "list", "tuple", "dict"], PySem.W.notFirst K C (.type T) = true
section
variable {X : Cx} {pins : List (Addr × Obj)} {σ : L2.St} {H : Hp} {s : Shared} {C a dx : Addr} {fs : List (Str × V)} {k : Nat} {ps : List Str} {sp : Sp}
theorem Oth.mem {K : PySem.W.Frag} {v : V} {T : String} (o : Oth K H v T) : T ∈ ["NoneType", "bool", "int", "str", "list", "tuple", "dict"] := by
  cases o <;> decide
theorem Oth.is {v : V} {u : Value} {T : String} (I : Inv X pins σ H s) (r : RelV v u) (o : Oth X.K H v T) : s.TypeIs u T := by
  cases o with
  | non => obtain rfl : u = .none := r; exact rfl
  | bl b => obtain rfl : u = .bool b := r; exact rfl
  | int i => obtain ⟨t, rfl⟩ := r; exact rfl
  | str x => obtain ⟨t, rfl⟩ := r; exact rfl
  | @lst a xs e =>
    obtain rfl : u = .ref a := r
    obtain ⟨_, _, n, _, h1⟩ := (show ObjOk X.prog X.w H s.heap a (.lst xs) from I.hok a _ e)
    exact ⟨_, h1, rfl⟩
  | @tup a xs e =>
    obtain rfl : u = .ref a := r
    obtain ⟨_, _, _, o, h1, h2, _⟩ := (show ObjOk X.prog X.w H s.heap a (.tup xs) from I.hok a _ e)
    exact ⟨o, h1, h2⟩
  | @dK a kvs e =>
    obtain rfl : u = .ref a := r
    obtain ⟨_, _, vs, _, o, es, ep, h1, h2, _⟩ := (show ObjOk X.prog X.w H s.heap a (.dK kvs) from I.hok a _ e)
    exact ⟨o, h1, h2.1⟩
theorem looks_type {M : Model} {u : Value} {T : String} (h : s.TypeIs u T) : PySem.W.Looks M s.heap (typeOf u) (.type T) := by
  cases u with
  | ref a =>
    obtain ⟨o, ho, hc⟩ := h
    have z := (PySem.W.Looks.ld (M := M) (part := none) ho).andThen (f := fun o => pure o.cls) (b := .type T) (by rw [hc]; exact .now)
    exact z
  | _ => exact PySem.W.Looks.of_pure h
theorem Oth.no {v : V} {u : Value} {T : String} {A : Around} {x : Addr} {ox : Obj} {od : Option Obj} {Q : Option Value → Shared → Prop} {E : Value → Shared → Prop} (I : Inv X pins σ H s) (r : RelV v u) (o : Oth X.K H v T) (J : PySem.W.InstAt s.heap x ox C od) (hd : ox.data = .plain)
    (far : Far X.K C) (q : Q none s) : wpAny (model X.prog X.w) A (tryCompare u "__eq__" (.ref x)) Q E s := by
  have hT := o.is I r
  have hm := far.to T o.mem
  cases o with
  | non => obtain rfl : u = .none := r; exact PySem.Vr.no_none q
  | bl b => obtain rfl : u = .bool b := r; exact PySem.Vr.no_bool J.at_ hd q
  | int i => obtain ⟨t, rfl⟩ := r; exact PySem.Vr.no_int J.at_ hd q
  | str x => obtain ⟨t, rfl⟩ := r; exact PySem.Vr.no_str J.at_ hd q
  | @lst a xs e => obtain rfl : u = .ref a := r; exact PySem.Vr.no_list I.kIn J hm hT q
  | @tup a xs e => obtain rfl : u = .ref a := r; exact PySem.Vr.no_tuple I.kIn J hm hT q
  | @dK a kvs e => obtain rfl : u = .ref a := r; exact PySem.Vr.no_dict I.kIn J hm hT q

/-- own == own, own == another thing -/
theorem op_eqOwn (M : Mth X.prog X.w X.K X.mg X.base C "__eq__" k ps sp) (far : Far X.K C) (hr : Room k X.A) :
    OpR X (compareOp .Eq) (fun x y H Q => ∃ a dx fs, x = .ref a ∧ H a = some (.ins C dx fs) ∧ ((∃ b dy gs, y = .ref b ∧ H b = some (.ins C dy gs)) ∨ ∃ T, Oth X.K H y T) ∧ sp [x, y] H (fun v H' => Nn v ∧ Q v H') E0) := by
  intro pins s σ H x y v u Q I rx ry h
  obtain ⟨a, dx, fs, rfl, ha, hy, q⟩ := h
  obtain rfl : v = .ref a := rx
  obtain ⟨f, fd, hs, hf, F, hb⟩ := M.ex
  obtain ⟨ox, od, J, hd⟩ := inst_at I ha
  obtain ⟨m, hF⟩ := I.fr
  have go := calls F hr hb I (us := [.ref a, u]) (vs := [.ref a, y]) (.cons rfl (.cons ry .nil)) q
  show wpAny (model X.prog X.w) X.A (richCompare .Eq _ _) _ _ s
  rcases hy with ⟨b, dy, gs, rfl, hb'⟩ | ⟨T, o⟩
  · obtain rfl : u = .ref b := ry
    obtain ⟨oy, oe, J', _⟩ := inst_at I hb'
    exact PySem.W.cmp_K (op := .Eq) (tb := .ref C) hr.units0 hF I.ok.mod.kin J J'.type (by simp [PySem.W.notFirst]) hs hf go
  · exact PySem.W.cmp_K (op := .Eq) (tb := .type T) hr.units0 hF I.ok.mod.kin J (looks_type (o.is I ry)) (far.from_ T o.mem) hs hf go
/-- another thing == own -/
theorem op_eqOwnR (M : Mth X.prog X.w X.K X.mg X.base C "__eq__" k ps sp) (far : Far X.K C) (hr : Room k X.A) :
    OpR X (compareOp .Eq) (fun x y H Q => ∃ a dx fs, y = .ref a ∧ H a = some (.ins C dx fs) ∧ (∃ T, Oth X.K H x T) ∧ sp [y, x] H (fun v H' => Nn v ∧ Q v H') E0) := by
  intro pins s σ H x y v u Q I rx ry h
  obtain ⟨a, dx, fs, rfl, ha, ⟨T, o⟩, q⟩ := h
  obtain rfl : u = .ref a := ry
  obtain ⟨f, fd, hs, hf, F, hb⟩ := M.ex
  obtain ⟨ox, od, J, hd⟩ := inst_at I ha
  have go := calls F hr hb I (us := [.ref a, v]) (vs := [.ref a, x]) (.cons rfl (.cons rx .nil)) q
  exact PySem.Vr.eq_right hr.units0 I.kIn J (o.is I rx) (far.to T o.mem) (fun A' Q' E' k' => o.no I rx J hd far k') hs hf go
/-- own != own, own != another thing -/
theorem op_neOwn (O : Own X.K C) (M : Mth X.prog X.w X.K X.mg X.base C "__eq__" k ps sp) (far : Far X.K C) (hr : Room (k + 1) X.A) (hne : PySem.W.findIn X.K (.ref C) "__ne__" = some (some (.builtin "object.__ne__"))) :
    OpR X (compareOp .NotEq) (fun x y H Q => ∃ a dx fs, x = .ref a ∧ H a = some (.ins C dx fs) ∧ ((∃ b dy gs, y = .ref b ∧ H b = some (.ins C dy gs)) ∨ ∃ T, Oth X.K H y T) ∧
      sp [x, y] H (fun v H' => ∃ b, v = .bl b ∧ Q (.bl (!b)) H') E0) := by
  intro pins s σ H x y v u Q I rx ry h
  obtain ⟨a, dx, fs, rfl, ha, hy, q⟩ := h
  obtain rfl : v = .ref a := rx
  obtain ⟨f, fd, hs, hf, F, hb⟩ := M.ex
  obtain ⟨ox, od, J, hd⟩ := inst_at I ha
  have r2 : Vals [V.ref a, y] [Value.ref a, u] := .cons rfl (.cons ry .nil)
  have hl : ([Value.ref a, u] ++ []).length = ps.length := by
    rw [List.append_nil, ← r2.length]
    exact F.len _ _ _ _ q
  have go : wpAny (model X.prog X.w) X.A.in1 (call (.ref f) [.ref a, u]) (fun v s' => ∃ r, v = .bool r ∧ EP X pins σ Q (.bool (!r)) s') X.xe s := by
    refine wpAny_call (codeAny_mono (F.run X.A.in1 X.stack s H ⟨[.ref a, u], []⟩ [.ref a, u] [.ref a, y] _ E0 hr.in1 I.env0.in1 (by
      have := hb s [.ref a, u] I.kIn hl
      rw [List.append_nil] at this
      exact this) r2 q) fun r s' hq => ?_)
    cases r with
    | error e => exact False.elim hq
    | ok fl =>
      cases fl with
      | ret w =>
        obtain ⟨z, H', J', rz, b, rfl, q2⟩ := I.after hq
        obtain rfl : w = .bool b := rz
        exact ⟨b, rfl, .bl (!b), H', J', rfl, q2⟩
      | next => exact False.elim hq
      | brk => exact False.elim hq
      | cont => exact False.elim hq
  show wpAny (model X.prog X.w) X.A (richCompare .NotEq _ _) _ _ s
  rcases hy with ⟨b, dy, gs, rfl, hb'⟩ | ⟨T, o⟩
  · obtain rfl : u = .ref b := ry
    obtain ⟨oy, oe, J', _⟩ := inst_at I hb'
    exact PySem.Vr.ne_left (tb := .ref C) hr.units0 hr.in1.units0 I.kIn J J'.type (by simp [PySem.W.notFirst]) hne O.obj hs hf go
  · exact PySem.Vr.ne_left (tb := .type T) hr.units0 hr.in1.units0 I.kIn J (looks_type (o.is I ry)) (far.from_ T o.mem) hne O.obj hs hf go
end
end Vr

set_option Elab.async false
set_option linter.all false
set_option maxRecDepth 100000
set_option maxHeartbeats 4000000
/-! The law over Ratios: the program's class. -/
namespace K42
open PySem PySem.Spec PyProof.Rows L2 Vx Vr
def top (i : Nat) : Stmt := PySem.Challenge.pw_jointdraws_k42_draws_for_families.main.body.getD i (.Pass ⟨0, 0, 0, 0⟩)
def mth (j : Nat) : Stmt := inClass (top 24) j
/-- the built-in names that are used are still the built-in ones -/
structure Bt (mg : Str → Option Value) : Prop where
  len : mg "len" = none
  sum : mg "sum" = none
  abs : mg "abs" = none
  int : mg "int" = none
  isi : mg "isinstance" = none
  bool : mg "bool" = none
  range : mg "range" = none
  str : mg "str" = none
  max : mg "max" = none
  min : mg "min" = none
  gcd : mg "gcd" = some (.builtin "math.gcd")

/-! ### numbers -/
/-- lowest terms of N / D -/
def Norm (N D n d : Int) : Prop := n * D = N * d ∧ 0 < d ∧ Int.gcd n d = 1 ∧ n.natAbs ≤ N.natAbs ∧ d.natAbs ≤ D.natAbs
def Sm (x : Int) : Prop := x.natAbs < 2 ^ 1000
def Lg (x : Int) : Prop := x.natAbs < 2 ^ 2100
theorem gcd_pos {N D : Int} (h : D ≠ 0) : 0 < (Nat.gcd N.natAbs D.natAbs : Nat) := Nat.gcd_pos_of_pos_right _ (by omega)
/-- // by a divisor of either sign -/
def CDivZ (_ j : Int) : Prop := j ≠ 0 ∧ j.natAbs.log2 < 9000
theorem op_fdivZ {X : Cx} : OpR X (binaryOp .FloorDiv) (rI CDivZ fun i j => .int (i.fdiv j)) := opI fun i j _ _ _ _ _ hc q =>
  floordiv_int hc.1 q (.inl (PyProof.noPylong_of_log2 hc.2))
theorem norm_of {N D c : Int} (hD : D ≠ 0) (hc : c = if D < 0 then -((Nat.gcd N.natAbs D.natAbs : Nat) : Int) else ((Nat.gcd N.natAbs D.natAbs : Nat) : Int)) : c ≠ 0 ∧ Norm N D (N.fdiv c) (D.fdiv c) := by
  have gp := gcd_pos (N := N) hD
  have d1 : (Nat.gcd N.natAbs D.natAbs : Int) ∣ N := Int.ofNat_dvd_left.mpr (Nat.gcd_dvd_left _ _)
  have d2 : (Nat.gcd N.natAbs D.natAbs : Int) ∣ D := Int.ofNat_dvd_left.mpr (Nat.gcd_dvd_right _ _)
  have c0 : c ≠ 0 := by
    rw [hc]
    split <;> omega
  have e1 : c ∣ N := by
    rw [hc]
    split
    · exact Int.neg_dvd.mpr d1
    · exact d1
  have e2 : c ∣ D := by
    rw [hc]
    split
    · exact Int.neg_dvd.mpr d2
    · exact d2
  have nab : c.natAbs = Nat.gcd N.natAbs D.natAbs := by
    rw [hc]
    split <;> simp
  obtain ⟨n, hn⟩ := e1
  obtain ⟨d, hd⟩ := e2
  have f1 : N.fdiv c = n := by
    rw [hn, Int.mul_fdiv_cancel_left _ c0]
  have f2 : D.fdiv c = d := by
    rw [hd, Int.mul_fdiv_cancel_left _ c0]
  rw [f1, f2]
  refine ⟨c0, ?_, ?_, ?_, ?_, ?_⟩
  · rw [hn, hd]
    rw [Int.mul_comm c d, Int.mul_comm c n, Int.mul_comm (n * c) d, ← Int.mul_assoc, Int.mul_left_comm, Int.mul_assoc]
  · rcases Int.lt_trichotomy D 0 with h | h | h
    · have cn : c < 0 := by
        rw [hc, if_pos h]
        omega
      have : 0 < d ∨ d ≤ 0 := by omega
      rcases this with h' | h'
      · exact h'
      · exfalso
        have := Int.mul_nonneg_of_nonpos_of_nonpos (by omega : c ≤ 0) h'
        omega
    · exact absurd h hD
    · have cp : 0 < c := by
        rw [hc, if_neg (by omega)]
        omega
      have : 0 < d ∨ d ≤ 0 := by omega
      rcases this with h' | h'
      · exact h'
      · exfalso
        have := Int.mul_nonpos_of_nonneg_of_nonpos (by omega : 0 ≤ c) h'
        omega
  · have g1 : N.natAbs = c.natAbs * n.natAbs := by rw [hn, Int.natAbs_mul]
    have g2 : D.natAbs = c.natAbs * d.natAbs := by rw [hd, Int.natAbs_mul]
    have g3 : Nat.gcd N.natAbs D.natAbs = c.natAbs * Nat.gcd n.natAbs d.natAbs := by
      rw [g1, g2, Nat.gcd_mul_left]
    rw [← nab] at g3
    show Nat.gcd n.natAbs d.natAbs = 1
    have cp : 0 < c.natAbs := by omega
    have : c.natAbs * 1 = c.natAbs * Nat.gcd n.natAbs d.natAbs := by omega
    exact (Nat.eq_of_mul_eq_mul_left cp this).symm
  · rw [hn, Int.natAbs_mul]
    exact Nat.le_mul_of_pos_left _ (by omega)
  · rw [hd, Int.natAbs_mul]
    exact Nat.le_mul_of_pos_left _ (by omega)
theorem lg_mul {a b : Int} (ha : Sm a) (hb : Sm b) : (a * b).natAbs < 2 ^ 2000 := wide_lt (a := 1000) (b := 1000) ha hb
theorem cmul {a b : Int} (ha : Sm a) (hb : Sm b) : CMulW a b := wide_mul (a := 1000) (b := 1000) ha hb (by decide) (by decide) (by decide)
theorem lg_of {a : Int} (h : a.natAbs < 2 ^ 2000) : Lg a := Nat.lt_trans h (Nat.pow_lt_pow_right (by decide) (by decide))
theorem p2001 : (2 : Nat) ^ 2001 = 2 ^ 2000 + 2 ^ 2000 := by rw [Nat.pow_succ]; omega
theorem lg_add {a b : Int} (ha : a.natAbs < 2 ^ 2000) (hb : b.natAbs < 2 ^ 2000) : Lg (a + b) := by
  have h1 : (2 : Nat) ^ 2001 < 2 ^ 2100 := Nat.pow_lt_pow_right (by decide) (by decide)
  have h2 := p2001
  unfold Lg
  generalize (2 : Nat) ^ 2000 = p at *
  generalize (2 : Nat) ^ 2001 = q at *
  generalize (2 : Nat) ^ 2100 = r at *
  omega
theorem lg_sub {a b : Int} (ha : a.natAbs < 2 ^ 2000) (hb : b.natAbs < 2 ^ 2000) : Lg (a - b) := by
  have := lg_add (a := a) (b := -b) ha (by rw [Int.natAbs_neg]; exact hb)
  rwa [← Int.sub_eq_add_neg] at this

/-! ### the class's instances -/
abbrev fs2 (n d : Int) : List (Str × V) := [("_top", .int n), ("_bottom", .int d)]
/-- a Ratio n / d stands at a -/
def Rt (C : Addr) (H : Hp) (a : Addr) (n d : Int) : Prop := ∃ dx, H a = some (.ins C dx (fs2 n d))
theorem Rt.same {C : Addr} {H H' : Hp} {a : Addr} {n d : Int} (s : Same H H') (h : Rt C H a n d) : Rt C H' a n d := by
  obtain ⟨dx, e⟩ := h
  exact ⟨dx, s _ _ e⟩
/-- a number: an int, or a Ratio -/
def Nu (C : Addr) (H : Hp) (v : V) (n d : Int) : Prop := (v = .int n ∧ d = 1) ∨ ∃ a, v = .ref a ∧ Rt C H a n d
theorem Nu.same {C : Addr} {H H' : Hp} {v : V} {n d : Int} (s : Same H H') (h : Nu C H v n d) : Nu C H' v n d := by
  rcases h with h | ⟨a, e, h⟩
  · exact .inl h
  · exact .inr ⟨a, e, h.same s⟩
theorem lkT (n d : Int) : (fs2 n d).lookup ("_top" : Str) = some (V.int n) := rfl
theorem lkB (n d : Int) : (fs2 n d).lookup ("_bottom" : Str) = some (V.int d) := rfl
/-- what the class must be -/
structure Rc (K : PySem.W.Frag) (C : Addr) : Prop where
  own : Own K C
  far : Far K C
  noT : NoAttr K C "_top"
  noB : NoAttr K C "_bottom"
  ha : PySem.W.findIn K (.ref C) "__class__" = some (some (.builtin "object.__class__"))
  hn : PySem.W.specialIn K (.builtin "object.__class__") "__get__" = some (some (.builtin "getset_descriptor.__get__"))
  tk : PySem.W.takesIn K (.builtin "object.__class__") = some true
  one : PySem.W.kitOne K (.ref C) (.ref C) = some true
  oth : ∀ T ∈ ["NoneType", "bool", "int", "str", "list", "tuple", "dict"], PySem.W.kitOne K (.type T) (.ref C) = some false
theorem Rc.ty {K : PySem.W.Frag} {C : Addr} (R : Rc K C) {H : Hp} {a dx : Addr} {fs : List (Str × V)} (h : H a = some (.ins C dx fs)) : TyX K H (.ref a) (.ref C) := .base (.ins h R.own.cls R.ha R.hn R.tk R.own.obj)
theorem ty_oth {K : PySem.W.Frag} {H : Hp} {v : V} {T : String} (o : Oth K H v T) : TyX K H v (.type T) := by
  cases o with
  | non => exact .base .non
  | bl b => exact .base (.bl b)
  | int i => exact .base (.int i)
  | str x => exact .base (.str x)
  | lst e => exact .base (.lst e)
  | tup e => exact .base (.tup e)
  | dK e => exact .base (.dK e)

/-! ### is_whole, is_number, _parts -/
theorem kit_int {K : PySem.W.Frag} : ∀ T ∈ ["NoneType", "bool", "int", "str", "list", "tuple", "dict"], PySem.W.kitOne K (.type T) (.type "int") = some (T == "int" || T == "bool") := by
  intro T h
  simp only [List.mem_cons, List.not_mem_nil, or_false] at h
  rcases h with h | h | h | h | h | h | h <;> subst h <;> exact kit_ty (by decide +kernel)
theorem kit_bool {K : PySem.W.Frag} : ∀ T ∈ ["NoneType", "bool", "int", "str", "list", "tuple", "dict"], PySem.W.kitOne K (.type T) (.type "bool") = some (T == "bool") := by
  intro T h
  simp only [List.mem_cons, List.not_mem_nil, or_false] at h
  rcases h with h | h | h | h | h | h | h <;> subst h <;> exact kit_ty (by decide +kernel)
def spWhole (K : PySem.W.Frag) : Sp := fun vs H Q _ => ∃ v T, vs = [v] ∧ Oth K H v T ∧ Q (.bl (T == "int")) H
def spNumber (K : PySem.W.Frag) (C : Addr) : Sp := fun vs H Q _ => (∃ a dx fs, vs = [.ref a] ∧ H a = some (.ins C dx fs) ∧ Q (.bl true) H) ∨ ∃ v T, vs = [v] ∧ Oth K H v T ∧ Q (.bl (T == "int")) H
def spParts (C : Addr) : Sp := fun vs H Q _ => ∃ v n d, vs = [v] ∧ Nu C H v n d ∧ ∀ t, H t = none → Q (.ref t) (upd H t (.tup [.int n, .int d]))
/-- a def that is called by its name -/
structure Cal (P : Program) (w : World) (K : PySem.W.Frag) (mg : Str → Option Value) (base : Heap) (x : Str) (k : Nat) (ps : List Str) (sp : Sp) : Prop where
  ex : ∃ f fd, FnOk P w K mg base CX0 k f fd ps sp ∧ mg x = some (.ref f) ∧ PySem.W.keepIn K (.ref f) = true ∧ Binds K fd ps []
section
variable {X : Cx} {k : Nat} {ps : List Str} {sp : Sp} {x : Str} {p pos : Pos} {e : Expr} {es : List Expr} {t : TA}
theorem pe_cal (C : Cal X.prog X.w X.K X.mg X.base x k ps sp) (hr : Room k X.A) (ha : PA X (e :: es) t) (hg : Gl X x := by rfl)
    (hdb : (x == ("__debug__" : Str)) = false := by decide) (he : starEach (e :: es) X.env = (false, eval e X.env) :: starEach es X.env := by rfl)
    (hpl : (backTo pos (starEach es X.env)).any (·.1) = false := by rfl) : PE X (.Call (.Name x p) (e :: es) [] pos) (tCall sp [] E0 t) := by
  obtain ⟨f, fd, F, m, kp, b⟩ := C.ex
  exact pe_call F hr hg m kp b .nil pass0 ha hdb he hpl
end
section
variable {P : Program} {w : World} {K : PySem.W.Frag} {mg : Str → Option Value} {base : Heap} {C : Addr}
theorem scWhole : FnScope ["value"] ["value"] (defScope (top 4)) := ⟨rfl, rfl, rfl, by decide +kernel, rfl, by decide +kernel, by decide +kernel⟩
theorem ok_whole {f : Addr} {fd : FuncData} (F : L2.Fun K "is_whole" "is_whole" (top 4) f fd) (T : Bt mg) : FnOk P w K mg base CX0 1 f fd ["value"] (spWhole K) := by
  refine F.ok scWhole (fun vs H Q E h => ?_) (fun cdv A outer s H vs Q E hr h => ?_)
  · obtain ⟨v, T, rfl, _⟩ := h
    rfl
  · obtain ⟨v, U, rfl, o, go⟩ := h
    refine ⟨_, pss_one (ps_ret (pe_and (pe_callB call_isi (by rfl) T.isi (by decide +kernel) (pa_cons (pv 0) (pa_cons (pe_bltn (v := .ty "int") (by rfl) T.int (by decide +kernel) rfl) pa_nil)))
      (pe_one (pe_not (pe_callB call_isi (by rfl) T.isi (by decide +kernel) (pa_cons (pv 0) (pa_cons (pe_bltn (v := .ty "bool") (by rfl) T.bool (by decide +kernel) rfl) pa_nil))))))), ?_⟩
    refine ⟨v, rfl, v, _, .type U, _, _, rfl, .ty "int", ty_oth o, kit_int U o.mem, _, rfl, ?_⟩
    have m := o.mem
    simp only [List.mem_cons, List.not_mem_nil, or_false] at m
    rcases m with m | m | m | m | m | m | m <;> subst m
    · exact iteF go
    · refine iteT ⟨v, rfl, v, _, .type "bool", _, _, rfl, .ty "bool", ty_oth o, kit_bool _ o.mem, _, rfl, go⟩
    · refine iteT ⟨v, rfl, v, _, .type "int", _, _, rfl, .ty "bool", ty_oth o, kit_bool _ o.mem, _, rfl, go⟩
    · exact iteF go
    · exact iteF go
    · exact iteF go
    · exact iteF go
theorem scNumber : FnScope ["value"] ["value"] (defScope (top 25)) := ⟨rfl, rfl, rfl, by decide +kernel, rfl, by decide +kernel, by decide +kernel⟩
theorem ok_number {f : Addr} {fd : FuncData} (F : L2.Fun K "is_number" "is_number" (top 25) f fd) (T : Bt mg) (R : Rc K C) (gC : mg "Ratio" = some (.ref C)) (W : Cal P w K mg base "is_whole" 1 ["value"] (spWhole K)) :
    FnOk P w K mg base CX0 2 f fd ["value"] (spNumber K C) := by
  refine F.ok scNumber (fun vs H Q E h => ?_) (fun cdv A outer s H vs Q E hr h => ?_)
  · rcases h with ⟨a, dx, fs, rfl, _⟩ | ⟨v, T, rfl, _⟩ <;> rfl
  · refine ⟨_, pss_one (ps_ret (pe_or (pe_callB call_isi (by rfl) T.isi (by decide +kernel) (pa_cons (pv 0) (pa_cons (pe_glob (v := .ref C) (by rfl) gC rfl) pa_nil)))
      (pe_one (pe_cal W (hr.mono (by decide)) (pa_cons (pv 0) pa_nil))))), ?_⟩
    rcases h with ⟨a, dx, fs, rfl, e, go⟩ | ⟨v, U, rfl, o, go⟩
    · exact ⟨.ref a, rfl, .ref a, .ref C, .ref C, _, _, rfl, .own C, R.ty e, R.one, _, rfl, iteT go⟩
    · exact ⟨v, rfl, v, .ref C, .type U, _, _, rfl, .own C, ty_oth o, R.oth U o.mem, _, rfl, iteF ⟨v, rfl, v, U, rfl, o, go⟩⟩
theorem scParts : FnScope ["number"] ["number"] (defScope (top 26)) := ⟨rfl, rfl, rfl, by decide +kernel, rfl, by decide +kernel, by decide +kernel⟩
theorem ok_parts {f : Addr} {fd : FuncData} (F : L2.Fun K "_parts" "_parts" (top 26) f fd) (T : Bt mg) (R : Rc K C) (gC : mg "Ratio" = some (.ref C)) : FnOk P w K mg base CX0 1 f fd ["number"] (spParts C) := by
  refine F.ok scParts (fun vs H Q E h => ?_) (fun cdv A outer s H vs Q E hr h => ?_)
  · obtain ⟨v, n, d, rfl, _⟩ := h
    rfl
  · obtain ⟨v, n, d, rfl, nu, go⟩ := h
    refine ⟨_, pss_cons (ps_if (pt_val (pe_callB call_isi (by rfl) T.isi (by decide +kernel) (pa_cons (pv 0) (pa_cons (pe_glob (v := .ref C) (by rfl) gC rfl) pa_nil))))
        (pss_one (ps_ret (pe_tup (pa_cons (pe_fld (pv 0) rfl) (pa_cons (pe_fld (pv 0) rfl) pa_nil))))) pss_nil)
      (pss_one (ps_ret (pe_tup (pa_cons (pv 0) (pa_cons pe_int pa_nil))))), ?_⟩
    rcases nu with ⟨rfl, rfl⟩ | ⟨a, rfl, dx, e⟩
    · refine ⟨_, rfl, .int n, .ref C, .type "int", _, _, rfl, .own C, ty_oth (.int n), R.oth "int" (by decide), _, rfl, iteF ?_⟩
      exact ⟨_, rfl, (by show 2 ≤ sizeLine; decide), fun t ht => go t ht⟩
    · refine ⟨_, rfl, .ref a, .ref C, .ref C, _, _, rfl, .own C, R.ty e, R.one, _, rfl, iteT ?_⟩
      exact ⟨_, rfl, a, C, dx, _, _, rfl, e, R.own.cls, R.noT, lkT n d, _, rfl, a, C, dx, _, _, rfl, e, R.own.cls, R.noB, lkB n d, (by show 2 ≤ sizeLine; decide), fun t ht => go t ht⟩
end
end K42

set_option Elab.async false
set_option linter.all false
set_option maxRecDepth 100000
set_option maxHeartbeats 4000000
set_option exponentiation.threshold 3000
/-! The law over Ratios: making one, its methods. -/
namespace K42
open PySem PySem.Spec PyProof.Rows L2 Vx Vr
theorem same_new {H : Hp} {l : Addr} {o : HO} (h : H l = none) : Same H (upd H l o) := fun b u e => by rw [upd_ne (ne_of_none e h)]; exact e
def spInit (C : Addr) : Sp := fun vs H Q _ => ∃ a dx N D, vs = [.ref a, .int N, .int D] ∧ H a = some (.ins C dx []) ∧ D ≠ 0 ∧ Lg D ∧
  ∀ n d, Norm N D n d → Q .non (upd (upd H a (.ins C dx [("_top", .int n)])) a (.ins C dx (fs2 n d)))
section
variable {P : Program} {w : World} {K : PySem.W.Frag} {mg : Str → Option Value} {base : Heap} {C : Addr}
theorem scInit : FnScope ["self", "top", "bottom", "common"] ["self", "top", "bottom"] (defScope (mth 0)) := ⟨rfl, rfl, rfl, by decide +kernel, rfl, by decide +kernel, by decide +kernel⟩
theorem ok_init {f : Addr} {fd : FuncData} (F : FunD K "__init__" "Ratio.__init__" (defArgs (mth 0)) (defBody (mth 0)) (defScope (mth 0)) [.int 1] [] f fd) (T : Bt mg) (R : Rc K C) :
    FnOk P w K mg base CX0 1 f fd ["self", "top", "bottom"] (spInit C) := by
  refine F.ok scInit (fun vs H Q E h => ?_) (fun cdv A outer s H vs Q E hr h => ?_)
  · obtain ⟨a, dx, N, D, rfl, _⟩ := h
    rfl
  · obtain ⟨a, dx, N, D, rfl, e, hD, sD, go⟩ := h
    refine ⟨_, PSs.nox (pss_cons (ps_if (pt_cmpR op_eq (pv 2) pe_int (nomark _)) (pss_one ps_never) pss_nil)
      (pss_cons (ps_set (i := 3) scInit.nd rfl (.inl rfl) (pe_callBfun cr_gcd (by rfl) T.gcd (pa_cons (pv 1) (pa_cons (pv 2) pa_nil))))
      (pss_cons (ps_if (pt_cmpR op_lt (pv 2) pe_int (nomark _)) (pss_one (ps_set (i := 3) scInit.nd rfl (.inl rfl) (pe_un un_neg (pv 3)))) pss_nil)
      (pss_cons (ps_fld (pv 0) (pe_op op_fdivZ (pv 1) (pv 3)) rfl)
      (pss_one (ps_fld (pv 0) (pe_op op_fdivZ (pv 2) (pv 3)) rfl)))))), ?_⟩
    have gp := gcd_pos (N := N) hD
    have key : ∀ c : Int, c = (if D < 0 then -((Nat.gcd N.natAbs D.natAbs : Nat) : Int) else ((Nat.gcd N.natAbs D.natAbs : Nat) : Int)) → CDivZ N c ∧ Norm N D (N.fdiv c) (D.fdiv c) := by
      intro c hc
      obtain ⟨c0, nm⟩ := norm_of hD hc
      refine ⟨⟨c0, ?_⟩, nm⟩
      have l1 : c.natAbs ≤ D.natAbs := by
        have : c.natAbs = Nat.gcd N.natAbs D.natAbs := by
          rw [hc]
          split <;> simp
        rw [this]
        exact Nat.gcd_le_right _ (by omega)
      have l2 : c.natAbs < 2 ^ 2100 := Nat.lt_of_le_of_lt l1 sD
      exact Nat.lt_of_lt_of_le (PySem.Flt.log2_lt_of (by decide) l2) (by decide)
    refine ⟨_, rfl, (by trivial), _, rfl, ?_⟩
    refine ite2 (fun c => absurd (V.int.inj (of_decide_eq_true c)) hD) (fun _ => ?_)
    refine ⟨_, rfl, _, rfl, N, D, rfl, ?_⟩
    refine ⟨_, rfl, _, _, rfl, rfl, _, rfl, ?_⟩
    refine ite2 (fun c => ?_) (fun c => ?_)
    · have hn : D < 0 := of_decide_eq_true c
      obtain ⟨k1, k2⟩ := key (-((Nat.gcd N.natAbs D.natAbs : Nat) : Int)) (by rw [if_pos hn])
      refine ⟨_, rfl, _, rfl, ?_⟩
      refine ⟨_, rfl, _, rfl, _, _, rfl, rfl, k1, _, rfl, a, C, dx, _, rfl, e, R.own.cls, R.noT, (by show 0 < 1000; decide), ?_⟩
      refine ⟨_, rfl, _, rfl, _, _, rfl, rfl, ⟨k1.1, k1.2⟩, _, rfl, a, C, dx, _, rfl, upd_same, R.own.cls, R.noB, (by show 1 < 1000; decide), ?_⟩
      exact go _ _ k2
    · have hn : ¬ D < 0 := fun z => c (decide_eq_true z)
      obtain ⟨k1, k2⟩ := key ((Nat.gcd N.natAbs D.natAbs : Nat) : Int) (by rw [if_neg hn])
      refine ⟨_, rfl, _, rfl, _, _, rfl, rfl, k1, _, rfl, a, C, dx, _, rfl, e, R.own.cls, R.noT, (by show 0 < 1000; decide), ?_⟩
      refine ⟨_, rfl, _, rfl, _, _, rfl, rfl, ⟨k1.1, k1.2⟩, _, rfl, a, C, dx, _, rfl, upd_same, R.own.cls, R.noB, (by show 1 < 1000; decide), ?_⟩
      exact go _ _ k2
end
/-- the class called -/
structure Mkr (P : Program) (w : World) (K : PySem.W.Frag) (mg : Str → Option Value) (base : Heap) (C : Addr) : Prop where
  ex : ∃ f fd, Mk K C f ∧ FnOk P w K mg base CX0 1 f fd ["self", "top", "bottom"] (spInit C) ∧ mg "Ratio" = some (.ref C) ∧ Binds K fd ["self", "top", "bottom"] [] ∧ ∃ u, RelV (.int 1) u ∧ Binds K fd ["self", "top", "bottom"] [u]
/-- Ratio(a, b), b not 0 -/
def rdRat (C : Addr) (N D : Int) (H : Hp) (Q : VK) : Prop := D ≠ 0 ∧ Lg D ∧ ∀ p H3 n d, Same H H3 → H p = none → Rt C H3 p n d → Norm N D n d → Q (.ref p) H3
theorem rd_init {C : Addr} {N D : Int} {H : Hp} {Q : VK} {vs : List V} (e : vs = [.int N, .int D]) (h : rdRat C N D H Q) : ∀ x dx, H x = none → H dx = none → dx ≠ x →
    spInit C (.ref x :: vs) (upd (upd H dx (.own x)) x (.ins C dx [])) (fun v H2 => v = .non ∧ Q (.ref x) H2) E0 := by
  intro x dx hx hdx ne
  obtain ⟨hD, sD, go⟩ := h
  subst e
  refine ⟨x, dx, N, D, rfl, upd_same, hD, sD, fun n d nm => ⟨rfl, go x _ n d (fun b o e => ?_) hx ⟨dx, upd_same⟩ nm⟩⟩
  rw [upd_ne (ne_of_none e hx), upd_ne (ne_of_none e hx), upd_ne (ne_of_none e hx), upd_ne (ne_of_none e hdx)]
  exact e
section
variable {X : Cx} {C : Addr} {a b : Expr} {ta tb : TE} {p pos : Pos}
theorem pe_rat (M : Mkr X.prog X.w X.K X.mg X.base C) (hr : Room 2 X.A) (ha : PE X a ta) (hb : PE X b tb) (hg : Gl X "Ratio" := by rfl)
    (na : starEach [a, b] X.env = (false, eval a X.env) :: starEach [b] X.env := by rfl) (nb : starEach [b] X.env = (false, eval b X.env) :: starEach [] X.env := by rfl) :
    PE X (.Call (.Name "Ratio" p) [a, b] [] pos) (tMake C (spInit C) [] E0 (tCons ta (tCons tb tNil))) := by
  obtain ⟨f, fd, mk, F, gC, bs, _⟩ := M.ex
  exact pe_make mk F hr hg gC bs .nil pass0 (pa_cons ha (pa_cons hb pa_nil nb) na) (by decide) na (by rw [nb]; rfl)
theorem pe_rat1 (M : Mkr X.prog X.w X.K X.mg X.base C) (hr : Room 2 X.A) (ha : PE X a ta) (hg : Gl X "Ratio" := by rfl)
    (na : starEach [a] X.env = (false, eval a X.env) :: starEach [] X.env := by rfl) :
    PE X (.Call (.Name "Ratio" p) [a] [] pos) (tMake C (spInit C) [.int 1] E0 (tCons ta tNil)) := by
  obtain ⟨f, fd, mk, F, gC, _, u, ru, bs⟩ := M.ex
  exact pe_make mk F hr hg gC bs (.cons ru .nil) pass0 (pa_cons ha pa_nil na) (by decide) na (by rfl)
end
section
variable {P : Program} {w : World} {K : PySem.W.Frag} {mg : Str → Option Value} {base : Heap} {C : Addr}
/-- self op other, a Ratio and a number -/
def spBin (C : Addr) (g1 g2 : Int → Int → Int → Int → Int) : Sp := fun vs H Q _ => ∃ a n d y m e, vs = [.ref a, y] ∧ Rt C H a n d ∧ Nu C H y m e ∧ Sm n ∧ Sm d ∧ Sm m ∧ Sm e ∧ g2 n d m e ≠ 0 ∧
  ∀ p H' n' d', Same H H' → Rt C H' p n' d' → Norm (g1 n d m e) (g2 n d m e) n' d' → Q (.ref p) H'
theorem rd_num {H : Hp} {y : V} {m e : Int} {vs : List V} {Q : VK} {E : XK} (nu : Nu C H y m e) (hv : vs = [y]) (q : Q (.bl true) H) : spNumber K C vs H Q E := by
  subst hv
  rcases nu with ⟨rfl, rfl⟩ | ⟨b, rfl, dx, h⟩
  · exact .inr ⟨_, "int", rfl, .int m, q⟩
  · exact .inl ⟨b, dx, _, rfl, h, q⟩
/-- what the methods use -/
structure Us (P : Program) (w : World) (K : PySem.W.Frag) (mg : Str → Option Value) (base : Heap) (C : Addr) : Prop where
  bt : Bt mg
  rc : Rc K C
  num : Cal P w K mg base "is_number" 2 ["value"] (spNumber K C)
  parts : Cal P w K mg base "_parts" 1 ["number"] (spParts C)
  mkr : Mkr P w K mg base C
abbrev NB : List Str := ["self", "other", "top", "bottom"]
theorem scAdd : FnScope NB ["self", "other"] (defScope (mth 3)) := ⟨rfl, rfl, rfl, by decide +kernel, rfl, by decide +kernel, by decide +kernel⟩
theorem ok_add {f : Addr} {fd : FuncData} (F : L2.Fun K "__add__" "Ratio.__add__" (mth 3) f fd) (U : Us P w K mg base C) :
    FnOk P w K mg base CX0 3 f fd ["self", "other"] (spBin C (fun n d m e => n * e + m * d) (fun _ d _ e => d * e)) := by
  refine F.ok scAdd (fun vs H Q E h => ?_) (fun cdv A outer s H vs Q E hr h => ?_)
  · obtain ⟨a, n, d, y, m, e, rfl, _⟩ := h
    rfl
  · obtain ⟨a, n, d, y, m, e, rfl, ⟨dx, ha⟩, nu, sn, sd, sm, se, g0, go⟩ := h
    refine ⟨_, pss_cons (ps_if (pt_not (pt_val (pe_cal U.num (hr.mono (by decide)) (pa_cons (pv 1) pa_nil)))) (pss_one ps_never) pss_nil)
      (pss_cons (ps_asg (pe_cal U.parts (hr.mono (by decide)) (pa_cons (pv 1) pa_nil)) (pg_tup (by rfl) (pgs_cons (pg_name (i := 2) scAdd.nd rfl (.inl rfl)) (pgs_cons (pg_name (i := 3) scAdd.nd rfl (.inl rfl)) pgs_nil))))
      (pss_one (ps_ret (pe_rat U.mkr (hr.mono (by decide)) (pe_op op_add (pe_op op_mulW (pe_fld (pv 0) rfl) (pv 3)) (pe_op op_mulW (pv 2) (pe_fld (pv 0) rfl))) (pe_op op_mulW (pe_fld (pv 0) rfl) (pv 3)))))), ?_⟩
    refine ⟨y, rfl, ?_⟩
    dsimp only [tNil]
    refine rd_num nu rfl ⟨_, rfl, iteF ?_⟩
    refine ⟨y, rfl, y, m, e, rfl, nu, fun t ht => ⟨t, _, rfl, SqT.of upd_same, rfl, _, _, rfl, _, _, rfl, rfl, ?_⟩⟩
    have s1 := same_new (o := .tup [.int m, .int e]) ht
    have ha1 := s1 _ _ ha
    generalize upd H t (.tup [.int m, .int e]) = H1 at s1 ha1 ⊢
    refine ⟨_, rfl, a, C, dx, _, _, rfl, ha1, U.rc.own.cls, U.rc.noT, lkT n d, _, rfl, _, _, rfl, rfl, cmul sn se, ?_⟩
    refine ⟨_, rfl, _, rfl, a, C, dx, _, _, rfl, ha1, U.rc.own.cls, U.rc.noB, lkB n d, _, _, rfl, rfl, cmul sm sd, _, _, rfl, rfl, ?_⟩
    refine ⟨_, rfl, a, C, dx, _, _, rfl, ha1, U.rc.own.cls, U.rc.noB, lkB n d, _, rfl, _, _, rfl, rfl, cmul sd se, ?_⟩
    exact rd_init rfl ⟨g0, lg_of (lg_mul sd se), fun p H3 n' d' s3 _ r nm => go p H3 n' d' (s1.trans s3) r nm⟩
end
end K42

set_option Elab.async false
set_option linter.all false
set_option maxRecDepth 100000
set_option maxHeartbeats 4000000
set_option exponentiation.threshold 3000
/-! The law over Ratios: the other methods. -/
namespace K42
open PySem PySem.Spec PyProof.Rows L2 Vx Vr
section
variable {P : Program} {w : World} {K : PySem.W.Frag} {mg : Str → Option Value} {base : Heap} {C : Addr}
abbrev NO : List Str := ["self", "number", "top", "bottom"]
theorem scSub : FnScope NB ["self", "other"] (defScope (mth 5)) := ⟨rfl, rfl, rfl, by decide +kernel, rfl, by decide +kernel, by decide +kernel⟩
theorem ok_sub {f : Addr} {fd : FuncData} (F : L2.Fun K "__sub__" "Ratio.__sub__" (mth 5) f fd) (U : Us P w K mg base C) :
    FnOk P w K mg base CX0 3 f fd ["self", "other"] (spBin C (fun n d m e => n * e - m * d) (fun _ d _ e => d * e)) := by
  refine F.ok scSub (fun vs H Q E h => ?_) (fun cdv A outer s H vs Q E hr h => ?_)
  · obtain ⟨a, n, d, y, m, e, rfl, _⟩ := h
    rfl
  · obtain ⟨a, n, d, y, m, e, rfl, ⟨dx, ha⟩, nu, sn, sd, sm, se, g0, go⟩ := h
    refine ⟨_, pss_cons (ps_if (pt_not (pt_val (pe_cal U.num (hr.mono (by decide)) (pa_cons (pv 1) pa_nil)))) (pss_one ps_never) pss_nil)
      (pss_cons (ps_asg (pe_cal U.parts (hr.mono (by decide)) (pa_cons (pv 1) pa_nil)) (pg_tup (by rfl) (pgs_cons (pg_name (i := 2) scSub.nd rfl (.inl rfl)) (pgs_cons (pg_name (i := 3) scSub.nd rfl (.inl rfl)) pgs_nil))))
      (pss_one (ps_ret (pe_rat U.mkr (hr.mono (by decide)) (pe_op op_sub (pe_op op_mulW (pe_fld (pv 0) rfl) (pv 3)) (pe_op op_mulW (pv 2) (pe_fld (pv 0) rfl))) (pe_op op_mulW (pe_fld (pv 0) rfl) (pv 3)))))), ?_⟩
    refine ⟨y, rfl, ?_⟩
    dsimp only [tNil]
    refine rd_num nu rfl ⟨_, rfl, iteF ?_⟩
    refine ⟨y, rfl, y, m, e, rfl, nu, fun t ht => ⟨t, _, rfl, SqT.of upd_same, rfl, _, _, rfl, _, _, rfl, rfl, ?_⟩⟩
    have s1 := same_new (o := .tup [.int m, .int e]) ht
    have ha1 := s1 _ _ ha
    generalize upd H t (.tup [.int m, .int e]) = H1 at s1 ha1 ⊢
    refine ⟨_, rfl, a, C, dx, _, _, rfl, ha1, U.rc.own.cls, U.rc.noT, lkT n d, _, rfl, _, _, rfl, rfl, cmul sn se, _, rfl, _, rfl, a, C, dx, _, _, rfl, ha1, U.rc.own.cls, U.rc.noB, lkB n d, _, _, rfl, rfl, cmul sm sd, _, _, rfl, rfl, ?_⟩
    refine ⟨_, rfl, a, C, dx, _, _, rfl, ha1, U.rc.own.cls, U.rc.noB, lkB n d, _, rfl, _, _, rfl, rfl, cmul sd se, ?_⟩
    exact rd_init rfl ⟨g0, lg_of (lg_mul sd se), fun p H3 n' d' s3 _ r nm => go p H3 n' d' (s1.trans s3) r nm⟩
theorem scMul : FnScope NB ["self", "other"] (defScope (mth 7)) := ⟨rfl, rfl, rfl, by decide +kernel, rfl, by decide +kernel, by decide +kernel⟩
theorem ok_mul {f : Addr} {fd : FuncData} (F : L2.Fun K "__mul__" "Ratio.__mul__" (mth 7) f fd) (U : Us P w K mg base C) :
    FnOk P w K mg base CX0 3 f fd ["self", "other"] (spBin C (fun n _ m _ => n * m) (fun _ d _ e => d * e)) := by
  refine F.ok scMul (fun vs H Q E h => ?_) (fun cdv A outer s H vs Q E hr h => ?_)
  · obtain ⟨a, n, d, y, m, e, rfl, _⟩ := h
    rfl
  · obtain ⟨a, n, d, y, m, e, rfl, ⟨dx, ha⟩, nu, sn, sd, sm, se, g0, go⟩ := h
    refine ⟨_, pss_cons (ps_if (pt_not (pt_val (pe_cal U.num (hr.mono (by decide)) (pa_cons (pv 1) pa_nil)))) (pss_one ps_never) pss_nil)
      (pss_cons (ps_asg (pe_cal U.parts (hr.mono (by decide)) (pa_cons (pv 1) pa_nil)) (pg_tup (by rfl) (pgs_cons (pg_name (i := 2) scMul.nd rfl (.inl rfl)) (pgs_cons (pg_name (i := 3) scMul.nd rfl (.inl rfl)) pgs_nil))))
      (pss_one (ps_ret (pe_rat U.mkr (hr.mono (by decide)) (pe_op op_mulW (pe_fld (pv 0) rfl) (pv 2)) (pe_op op_mulW (pe_fld (pv 0) rfl) (pv 3)))))), ?_⟩
    refine ⟨y, rfl, ?_⟩
    dsimp only [tNil]
    refine rd_num nu rfl ⟨_, rfl, iteF ?_⟩
    refine ⟨y, rfl, y, m, e, rfl, nu, fun t ht => ⟨t, _, rfl, SqT.of upd_same, rfl, _, _, rfl, _, _, rfl, rfl, ?_⟩⟩
    have s1 := same_new (o := .tup [.int m, .int e]) ht
    have ha1 := s1 _ _ ha
    generalize upd H t (.tup [.int m, .int e]) = H1 at s1 ha1 ⊢
    refine ⟨_, rfl, a, C, dx, _, _, rfl, ha1, U.rc.own.cls, U.rc.noT, lkT n d, _, rfl, _, _, rfl, rfl, cmul sn sm, ?_⟩
    refine ⟨_, rfl, a, C, dx, _, _, rfl, ha1, U.rc.own.cls, U.rc.noB, lkB n d, _, rfl, _, _, rfl, rfl, cmul sd se, ?_⟩
    exact rd_init rfl ⟨g0, lg_of (lg_mul sd se), fun p H3 n' d' s3 _ r nm => go p H3 n' d' (s1.trans s3) r nm⟩
theorem scBelow : FnScope NO ["self", "number"] (defScope (mth 13)) := ⟨rfl, rfl, rfl, by decide +kernel, rfl, by decide +kernel, by decide +kernel⟩
def spBelow (C : Addr) : Sp := fun vs H Q _ => ∃ a n d y m e, vs = [.ref a, y] ∧ Rt C H a n d ∧ Nu C H y m e ∧ Sm n ∧ Sm d ∧ Sm m ∧ Sm e ∧ ∀ H', Same H H' → Q (.bl (decide (n * e < m * d))) H'
theorem ok_below {f : Addr} {fd : FuncData} (F : L2.Fun K "below" "Ratio.below" (mth 13) f fd) (U : Us P w K mg base C) :
    FnOk P w K mg base CX0 3 f fd ["self", "number"] (spBelow C) := by
  refine F.ok scBelow (fun vs H Q E h => ?_) (fun cdv A outer s H vs Q E hr h => ?_)
  · obtain ⟨a, n, d, y, m, e, rfl, _⟩ := h
    rfl
  · obtain ⟨a, n, d, y, m, e, rfl, ⟨dx, ha⟩, nu, sn, sd, sm, se, go⟩ := h
    refine ⟨_, pss_cons (ps_asg (pe_cal U.parts (hr.mono (by decide)) (pa_cons (pv 1) pa_nil)) (pg_tup (by rfl) (pgs_cons (pg_name (i := 2) scBelow.nd rfl (.inl rfl)) (pgs_cons (pg_name (i := 3) scBelow.nd rfl (.inl rfl)) pgs_nil))))
      (pss_one (ps_ret (pe_cmpR op_lt (pe_op op_mulW (pe_fld (pv 0) rfl) (pv 3)) (pe_op op_mulW (pv 2) (pe_fld (pv 0) rfl)) (nomark _)))), ?_⟩
    refine ⟨y, rfl, y, m, e, rfl, nu, fun t ht => ⟨t, _, rfl, SqT.of upd_same, rfl, _, _, rfl, _, _, rfl, rfl, ?_⟩⟩
    have s1 := same_new (o := .tup [.int m, .int e]) ht
    have ha1 := s1 _ _ ha
    generalize upd H t (.tup [.int m, .int e]) = H1 at s1 ha1 ⊢
    refine ⟨_, rfl, a, C, dx, _, _, rfl, ha1, U.rc.own.cls, U.rc.noT, lkT n d, _, rfl, _, _, rfl, rfl, cmul sn se, _, rfl, _, rfl, a, C, dx, _, _, rfl, ha1, U.rc.own.cls, U.rc.noB, lkB n d, _, _, rfl, rfl, cmul sm sd, _, _, rfl, rfl, ?_⟩
    exact go _ s1
theorem scNeg : FnScope ["self"] ["self"] (defScope (mth 9)) := ⟨rfl, rfl, rfl, by decide +kernel, rfl, by decide +kernel, by decide +kernel⟩
def spNeg (C : Addr) : Sp := fun vs H Q _ => ∃ a n d, vs = [.ref a] ∧ Rt C H a n d ∧ d ≠ 0 ∧ Sm d ∧ ∀ p H' n' d', Same H H' → Rt C H' p n' d' → Norm (-n) d n' d' → Q (.ref p) H'
theorem sm_lg {x : Int} (h : Sm x) : Lg x := Nat.lt_trans h (Nat.pow_lt_pow_right (by decide) (by decide))
theorem ok_neg {f : Addr} {fd : FuncData} (F : L2.Fun K "__neg__" "Ratio.__neg__" (mth 9) f fd) (U : Us P w K mg base C) : FnOk P w K mg base CX0 3 f fd ["self"] (spNeg C) := by
  refine F.ok scNeg (fun vs H Q E h => ?_) (fun cdv A outer s H vs Q E hr h => ?_)
  · obtain ⟨a, n, d, rfl, _⟩ := h
    rfl
  · obtain ⟨a, n, d, rfl, ⟨dx, ha1⟩, d0, sd, go⟩ := h
    refine ⟨_, pss_one (ps_ret (pe_rat U.mkr (hr.mono (by decide)) (pe_un un_neg (pe_fld (pv 0) rfl)) (pe_fld (pv 0) rfl))), ?_⟩
    refine ⟨_, rfl, a, C, dx, _, _, rfl, ha1, U.rc.own.cls, U.rc.noT, lkT n d, _, rfl, ?_⟩
    refine ⟨_, rfl, a, C, dx, _, _, rfl, ha1, U.rc.own.cls, U.rc.noB, lkB n d, ?_⟩
    exact rd_init rfl ⟨d0, sm_lg sd, fun p H3 n' d' s3 _ r nm => go p H3 n' d' s3 r nm⟩
/-! ### the reflected ones -/
/-- the class with its operators -/
structure Ops (P : Program) (w : World) (K : PySem.W.Frag) (mg : Str → Option Value) (base : Heap) (C : Addr) : Prop where
  us : Us P w K mg base C
  add : Mth P w K mg base C "__add__" 3 ["self", "other"] (spBin C (fun n d m e => n * e + m * d) (fun _ d _ e => d * e))
  sub : Mth P w K mg base C "__sub__" 3 ["self", "other"] (spBin C (fun n d m e => n * e - m * d) (fun _ d _ e => d * e))
  mul : Mth P w K mg base C "__mul__" 3 ["self", "other"] (spBin C (fun n _ m _ => n * m) (fun _ d _ e => d * e))
  neg : Mth P w K mg base C "__neg__" 3 ["self"] (spNeg C)
  radd : ∃ g : Addr, PySem.W.findIn K (.ref C) "__radd__" = some (some (.ref g))
  rsub : ∃ g : Addr, PySem.W.findIn K (.ref C) "__rsub__" = some (some (.ref g))
  rmul : ∃ g : Addr, PySem.W.findIn K (.ref C) "__rmul__" = some (some (.ref g))
  intSub : PySem.W.subIn K (.type "int") (.ref C) = some false
  iA : ∃ fo ro, PySem.W.findIn K (.type "int") "__add__" = some fo ∧ PySem.W.findIn K (.type "int") "__radd__" = some ro
  iS : ∃ fo ro, PySem.W.findIn K (.type "int") "__sub__" = some fo ∧ PySem.W.findIn K (.type "int") "__rsub__" = some ro
  iM : ∃ fo ro, PySem.W.findIn K (.type "int") "__mul__" = some fo ∧ PySem.W.findIn K (.type "int") "__rmul__" = some ro
/-- a Ratio op a number -/
def rNum (C : Addr) (g1 g2 : Int → Int → Int → Int → Int) : R2 := fun x y H Q => ∃ a n d m e, x = .ref a ∧ Rt C H a n d ∧ Nu C H y m e ∧ Sm n ∧ Sm d ∧ Sm m ∧ Sm e ∧ g2 n d m e ≠ 0 ∧
  ∀ p H' n' d', Same H H' → Rt C H' p n' d' → Norm (g1 n d m e) (g2 n d m e) n' d' → Q (.ref p) H'
theorem rNum_of {C : Addr} {g1 g2 : Int → Int → Int → Int → Int} {x y : V} {H : Hp} {Q : VK} (h : rNum C g1 g2 x y H Q) : ∃ a dx fs, x = .ref a ∧ H a = some (.ins C dx fs) ∧ ((∃ b dy gs, y = .ref b ∧ H b = some (.ins C dy gs)) ∨ ∃ i, y = .int i) ∧
    spBin C g1 g2 [x, y] H (fun v H' => Nn v ∧ Q v H') E0 := by
  obtain ⟨a, n, d, m, e, rfl, ⟨dx, ha⟩, nu, sn, sd, sm, se, g0, go⟩ := h
  refine ⟨a, dx, _, rfl, ha, ?_, a, n, d, y, m, e, rfl, ⟨dx, ha⟩, nu, sn, sd, sm, se, g0, fun p H' n' d' s r nm => ⟨.inl ⟨p, rfl⟩, go p H' n' d' s r nm⟩⟩
  rcases nu with ⟨rfl, rfl⟩ | ⟨b, rfl, dy, hb⟩
  · exact .inr ⟨m, rfl⟩
  · exact .inl ⟨b, dy, _, rfl, hb⟩
theorem OpR.imp {X : Cx} {f : Value → Value → Sem Value} {r r' : R2} (h : OpR X f r) (i : ∀ x y H Q, r' x y H Q → r x y H Q) : OpR X f r' := fun pins s σ H x y v u Q I rx ry q => h pins s σ H x y v u Q I rx ry (i x y H Q q)
variable {X : Cx}
theorem op_addN (O : Ops X.prog X.w X.K X.mg X.base C) (hr : Room 3 X.A) : OpR X (binaryOp .Add) (rNum C (fun n d m e => n * e + m * d) (fun _ d _ e => d * e)) := by
  obtain ⟨g, hg⟩ := O.radd
  obtain ⟨fo, ro, h1, h2⟩ := O.iA
  exact OpR.imp (op_own (op := .Add) O.us.rc.own O.add hr hg (.inr ⟨g, rfl⟩) h1 h2 O.intSub) fun x y H Q => rNum_of
theorem op_subN (O : Ops X.prog X.w X.K X.mg X.base C) (hr : Room 3 X.A) : OpR X (binaryOp .Sub) (rNum C (fun n d m e => n * e - m * d) (fun _ d _ e => d * e)) := by
  obtain ⟨g, hg⟩ := O.rsub
  obtain ⟨fo, ro, h1, h2⟩ := O.iS
  exact OpR.imp (op_own (op := .Sub) O.us.rc.own O.sub hr hg (.inr ⟨g, rfl⟩) h1 h2 O.intSub) fun x y H Q => rNum_of
theorem op_mulN (O : Ops X.prog X.w X.K X.mg X.base C) (hr : Room 3 X.A) : OpR X (binaryOp .Mult) (rNum C (fun n _ m _ => n * m) (fun _ d _ e => d * e)) := by
  obtain ⟨g, hg⟩ := O.rmul
  obtain ⟨fo, ro, h1, h2⟩ := O.iM
  exact OpR.imp (op_own (op := .Mult) O.us.rc.own O.mul hr hg (.inr ⟨g, rfl⟩) h1 h2 O.intSub) fun x y H Q => rNum_of
theorem un_negN (O : Ops X.prog X.w X.K X.mg X.base C) (hr : Room 3 X.A) : UnR X (unaryOp .USub) (fun x H Q => ∃ a n d, x = .ref a ∧ Rt C H a n d ∧ d ≠ 0 ∧ Sm d ∧ ∀ p H' n' d', Same H H' → Rt C H' p n' d' → Norm (-n) d n' d' → Q (.ref p) H') := by
  intro pins s σ H x v Q I rx h
  obtain ⟨a, n, d, rfl, ⟨dx, ha⟩, d0, sd, go⟩ := h
  exact un_negOwn O.neg hr pins s σ H _ v Q I rx ⟨a, dx, _, rfl, ha, a, n, d, rfl, ⟨dx, ha⟩, d0, sd, go⟩
end
section
variable {P : Program} {w : World} {K : PySem.W.Frag} {mg : Str → Option Value} {base : Heap} {C : Addr}
abbrev NR : List Str := ["self", "other"]
theorem scRadd : FnScope NR ["self", "other"] (defScope (mth 4)) := ⟨rfl, rfl, rfl, by decide +kernel, rfl, by decide +kernel, by decide +kernel⟩
theorem ok_radd {f : Addr} {fd : FuncData} (F : L2.Fun K "__radd__" "Ratio.__radd__" (mth 4) f fd) (O : Ops P w K mg base C) :
    FnOk P w K mg base CX0 4 f fd ["self", "other"] (spBin C (fun n d m e => n * e + m * d) (fun _ d _ e => d * e)) := by
  refine F.ok scRadd (fun vs H Q E h => ?_) (fun cdv A outer s H vs Q E hr h => ?_)
  · obtain ⟨a, n, d, y, m, e, rfl, _⟩ := h
    rfl
  · obtain ⟨a, n, d, y, m, e, rfl, ha, nu, sn, sd, sm, se, g0, go⟩ := h
    refine ⟨_, pss_one (ps_ret (pe_op (op_addN O (hr.mono (by decide))) (pv 0) (pv 1))), ?_⟩
    exact ⟨_, rfl, y, rfl, a, n, d, m, e, rfl, ha, nu, sn, sd, sm, se, g0, go⟩
theorem scRmul : FnScope NR ["self", "other"] (defScope (mth 8)) := ⟨rfl, rfl, rfl, by decide +kernel, rfl, by decide +kernel, by decide +kernel⟩
theorem ok_rmul {f : Addr} {fd : FuncData} (F : L2.Fun K "__rmul__" "Ratio.__rmul__" (mth 8) f fd) (O : Ops P w K mg base C) :
    FnOk P w K mg base CX0 4 f fd ["self", "other"] (spBin C (fun n _ m _ => n * m) (fun _ d _ e => d * e)) := by
  refine F.ok scRmul (fun vs H Q E h => ?_) (fun cdv A outer s H vs Q E hr h => ?_)
  · obtain ⟨a, n, d, y, m, e, rfl, _⟩ := h
    rfl
  · obtain ⟨a, n, d, y, m, e, rfl, ha, nu, sn, sd, sm, se, g0, go⟩ := h
    refine ⟨_, pss_one (ps_ret (pe_op (op_mulN O (hr.mono (by decide))) (pv 0) (pv 1))), ?_⟩
    exact ⟨_, rfl, y, rfl, a, n, d, m, e, rfl, ha, nu, sn, sd, sm, se, g0, go⟩
theorem norm_neg {n d n' d' m e : Int} (d0 : d ≠ 0) (e0 : e ≠ 0) (h : Norm (-n) d n' d') {n2 d2 : Int} (h2 : Norm (n' * e + m * d') (d' * e) n2 d2) : n2 * (d * e) = (m * d - n * e) * d2 := by
  obtain ⟨a1, a2, _⟩ := h
  obtain ⟨b1, _⟩ := h2
  have k : d' * (n2 * (d * e)) = d' * ((m * d - n * e) * d2) := by
    have t1 : d' * (n2 * (d * e)) = d * (n2 * (d' * e)) := by ac_rfl
    rw [t1, b1]
    have t2 : d * ((n' * e + m * d') * d2) = ((n' * d) * e + m * d * d') * d2 := by
      rw [Int.add_mul, Int.add_mul, Int.mul_add]
      congr 1 <;> ac_rfl
    rw [t2, a1]
    rw [Int.add_mul, Int.sub_mul, Int.mul_sub, Int.neg_mul, Int.neg_mul, Int.neg_mul]
    have t3 : n * d' * e * d2 = d' * (n * e * d2) := by ac_rfl
    have t4 : m * d * d' * d2 = d' * (m * d * d2) := by ac_rfl
    rw [t3, t4]
    omega
  exact Int.eq_of_mul_eq_mul_left (by omega) k
def spRsub (C : Addr) : Sp := fun vs H Q _ => ∃ a n d y m e, vs = [.ref a, y] ∧ Rt C H a n d ∧ Nu C H y m e ∧ Sm n ∧ Sm d ∧ Sm m ∧ Sm e ∧ d ≠ 0 ∧ e ≠ 0 ∧
  ∀ p H' n' d', Same H H' → Rt C H' p n' d' → n' * (d * e) = (m * d - n * e) * d' → 0 < d' → Int.gcd n' d' = 1 → Lg n' → Lg d' → Q (.ref p) H'
theorem scRsub : FnScope NR ["self", "other"] (defScope (mth 6)) := ⟨rfl, rfl, rfl, by decide +kernel, rfl, by decide +kernel, by decide +kernel⟩
theorem ok_rsub {f : Addr} {fd : FuncData} (F : L2.Fun K "__rsub__" "Ratio.__rsub__" (mth 6) f fd) (O : Ops P w K mg base C) :
    FnOk P w K mg base CX0 4 f fd ["self", "other"] (spRsub C) := by
  refine F.ok scRsub (fun vs H Q E h => ?_) (fun cdv A outer s H vs Q E hr h => ?_)
  · obtain ⟨a, n, d, y, m, e, rfl, _⟩ := h
    rfl
  · obtain ⟨a, n, d, y, m, e, rfl, ha, nu, sn, sd, sm, se, d0, e0, go⟩ := h
    refine ⟨_, pss_one (ps_ret (pe_op (op_addN O (hr.mono (by decide))) (pe_un (un_negN O (hr.mono (by decide))) (pv 0)) (pv 1))), ?_⟩
    refine ⟨_, rfl, a, n, d, rfl, ha, d0, sd, fun p H1 n1 d1 s1 r1 nm1 => ?_⟩
    have sn1 : Sm n1 := Nat.lt_of_le_of_lt nm1.2.2.2.1 (by rw [Int.natAbs_neg]; exact sn)
    have sd1 : Sm d1 := Nat.lt_of_le_of_lt nm1.2.2.2.2 sd
    refine ⟨y, rfl, p, n1, d1, m, e, rfl, r1, nu.same s1, sn1, sd1, sm, se, ?_, fun p2 H2 n2 d2 s2 r2 nm2 => ?_⟩
    · have := nm1.2.1
      exact Int.mul_ne_zero (by omega) e0
    · exact go p2 H2 n2 d2 (s1.trans s2) r2 (norm_neg d0 e0 nm1 nm2) nm2.2.1 nm2.2.2.1 (Nat.lt_of_le_of_lt nm2.2.2.2.1 (lg_add (lg_mul sn1 se) (lg_mul sm sd1))) (Nat.lt_of_le_of_lt nm2.2.2.2.2 (lg_of (lg_mul sd1 se)))
end
end K42

set_option Elab.async false
set_option linter.all false
set_option maxRecDepth 100000
set_option maxHeartbeats 4000000
set_option exponentiation.threshold 3000
/-! The law over Ratios: == of the class, its texts, its properties. -/
namespace K42
open PySem PySem.Spec PyProof.Rows L2 Vx Vr
theorem shaped_pair (n d : Int) : SeqAt.shaped (.tuple [.int n, .int d]) = true := by rfl
theorem eqv_pair (n d m e : Int) : PyData.eqv (.tuple [.int n, .int d]) (.tuple [.int m, .int e]) = (decide (n = m) && decide (d = e)) := by
  simp [PyData.eqv, PyData.eqvAll]
  rfl
section
variable {P : Program} {w : World} {K : PySem.W.Frag} {mg : Str → Option Value} {base : Heap} {C : Addr}
/-- a Ratio beside another thing: a number, or something of another kind -/
def spEq (K : PySem.W.Frag) (C : Addr) : Sp := fun vs H Q _ => ∃ a n d y, vs = [.ref a, y] ∧ Rt C H a n d ∧
  ((∃ m e, Nu C H y m e ∧ ∀ H', Same H H' → Q (.bl (decide (n = m) && decide (d = e))) H') ∨ ∃ T, Oth K H y T ∧ T ≠ "int" ∧ Q (.bl false) H)
theorem dp_pair {H : Hp} {t : Addr} {n d : Int} (h : H t = some (.tup [.int n, .int d])) : Dp K H (.ref t) (.tuple [.int n, .int d]) := .tup (SqT.of h) (.cons (.int n) (.cons (.int d) .nil))
theorem scEq : FnScope NR ["self", "other"] (defScope (mth 10)) := ⟨rfl, rfl, rfl, by decide +kernel, rfl, by decide +kernel, by decide +kernel⟩
theorem ok_eq {f : Addr} {fd : FuncData} (F : L2.Fun K "__eq__" "Ratio.__eq__" (mth 10) f fd) (U : Us P w K mg base C) : FnOk P w K mg base CX0 3 f fd ["self", "other"] (spEq K C) := by
  refine F.ok scEq (fun vs H Q E h => ?_) (fun cdv A outer s H vs Q E hr h => ?_)
  · obtain ⟨a, n, d, y, rfl, _⟩ := h
    rfl
  · obtain ⟨a, n, d, y, rfl, ha, h⟩ := h
    refine ⟨_, pss_one (ps_ret (pe_and (pe_cal U.num (hr.mono (by decide)) (pa_cons (pv 1) pa_nil))
      (pe_one (pe_cmpR (op_eqD hr.units) (pe_cal U.parts (hr.mono (by decide)) (pa_cons (pv 0) pa_nil)) (pe_cal U.parts (hr.mono (by decide)) (pa_cons (pv 1) pa_nil)) (nomark _))))), ?_⟩
    rcases h with ⟨m, e, nu, go⟩ | ⟨T, o, ne, go⟩
    · refine ⟨y, rfl, ?_⟩
      dsimp only [tNil]
      refine rd_num nu rfl ⟨_, rfl, iteT ?_⟩
      refine ⟨_, rfl, .ref a, n, d, rfl, .inr ⟨a, rfl, ha⟩, fun t ht => ?_⟩
      have s1 := same_new (o := .tup [.int n, .int d]) ht
      have h1 := upd_same (H := H) (a := t) (o := .tup [.int n, .int d])
      generalize upd H t (.tup [.int n, .int d]) = H1 at s1 h1 ⊢
      refine ⟨y, rfl, y, m, e, rfl, nu.same s1, fun t2 ht2 => ?_⟩
      have s2 := same_new (o := .tup [.int m, .int e]) ht2
      have h2 := upd_same (H := H1) (a := t2) (o := .tup [.int m, .int e])
      generalize upd H1 t2 (.tup [.int m, .int e]) = H2 at s2 h2 ⊢
      refine ⟨_, _, dp_pair (s2 _ _ h1), dp_pair h2, shaped_pair n d, shaped_pair m e, ?_⟩
      rw [eqv_pair]
      exact go _ (s1.trans s2)
    · refine ⟨y, rfl, .inr ⟨y, T, rfl, o, false, ?_, iteF go⟩⟩
      rw [beq_false_of_ne ne]
/-! ### its text -/
def spText (C : Addr) : Sp := fun vs H Q _ => ∃ a n d, vs = [.ref a] ∧ Rt C H a n d ∧ Sm n ∧ Sm d ∧ ∀ z : Str, Q (.str z) H
theorem sm_log {x : Int} (h : Sm x) : x.natAbs.log2 < 1920 := Nat.lt_of_lt_of_le (PySem.Flt.log2_lt_of (by decide) h) (by decide)
theorem scText : FnScope ["self"] ["self"] (defScope (mth 14)) := ⟨rfl, rfl, rfl, by decide +kernel, rfl, by decide +kernel, by decide +kernel⟩
/-! ### its properties -/
theorem ok_top {f : Addr} {fd : FuncData} (F : L2.Fun K "top" "Ratio.top" (mth 1) f fd) (R : Rc K C) : FnOk P w K mg base CX0 1 f fd ["self"] (getSp C "_top") := by
  obtain ⟨oc, od, kV, doc, pm, an, cdv, ct, osl, rfl, lk, hcd⟩ := F.ex
  exact fn_getter (N := ["self"]) lk hcd ⟨rfl, rfl, rfl, by decide +kernel, rfl, by decide +kernel, by decide +kernel⟩ rfl rfl R.own.cls R.noT
theorem ok_bot {f : Addr} {fd : FuncData} (F : L2.Fun K "bottom" "Ratio.bottom" (mth 2) f fd) (R : Rc K C) : FnOk P w K mg base CX0 1 f fd ["self"] (getSp C "_bottom") := by
  obtain ⟨oc, od, kV, doc, pm, an, cdv, ct, osl, rfl, lk, hcd⟩ := F.ex
  exact fn_getter (N := ["self"]) lk hcd ⟨rfl, rfl, rfl, by decide +kernel, rfl, by decide +kernel, by decide +kernel⟩ rfl rfl R.own.cls R.noB
end
end K42

set_option Elab.async false
set_option linter.all false
set_option maxRecDepth 100000
set_option maxHeartbeats 4000000
set_option exponentiation.threshold 3000
/-! The law over Ratios: texts; what the law's own text uses of the class. -/
namespace K42
open PySem PySem.Spec PyProof.Rows L2 Vx Vr
section
variable {X : Cx} {C : Addr} {k : Nat} {ps : List Str} {sp : Sp}
/-- str(o) by the class's __str__ -/
theorem call_strOwn (M : Mth X.prog X.w X.K X.mg X.base C "__str__" k ps sp) (hr : Room (k + 2) X.A) : CallR X (.type "str") (fun xs H Q => ∃ a dx fs, xs = [.ref a] ∧ H a = some (.ins C dx fs) ∧ sp [.ref a] H (fun v H' => ∃ z, v = .str z ∧ Q v H') E0) := by
  intro pins s σ H xs us Q I r h
  obtain ⟨a, dx, fs, rfl, ha, q⟩ := h
  obtain ⟨u, rfl, ru⟩ := r.one
  obtain rfl : u = .ref a := ru
  obtain ⟨f, fd, hs, hf, F, hb⟩ := M.ex
  obtain ⟨ox, od, J, hd⟩ := inst_at I ha
  have r2 : Vals [V.ref a] [Value.ref a] := .cons rfl .nil
  have hl : ([Value.ref a] ++ []).length = ps.length := by
    rw [List.append_nil, ← r2.length]
    exact F.len _ _ _ _ q
  refine PySem.W.kso_call hr.in1.in1.units0 I.kIn J hs hf ?_
  refine wpAny_call (codeAny_mono (F.run X.A.in1.in1 X.stack s H ⟨[.ref a], []⟩ [.ref a] [.ref a] _ E0 hr.in1.in1 I.env0.in1.in1 (by
      have := hb s [.ref a] I.kIn hl
      rw [List.append_nil] at this
      exact this) r2 q) fun r s' hq => ?_)
  cases r with
  | error e => exact False.elim hq
  | ok fl =>
    cases fl with
    | ret w =>
      obtain ⟨v, H', J', rv, z, rfl, q2⟩ := I.after hq
      obtain ⟨t, rfl⟩ := rv
      exact ⟨.str z, H', J', ⟨t, rfl⟩, q2⟩
    | next => exact False.elim hq
    | brk => exact False.elim hq
    | cont => exact False.elim hq
end
section
variable {P : Program} {w : World} {K : PySem.W.Frag} {mg : Str → Option Value} {base : Heap} {C : Addr}
theorem ok_text {f : Addr} {fd : FuncData} (F : L2.Fun K "text" "Ratio.text" (mth 14) f fd) (U : Us P w K mg base C) : FnOk P w K mg base CX0 1 f fd ["self"] (spText C) := by
  refine F.ok scText (fun vs H Q E h => ?_) (fun cdv A outer s H vs Q E hr h => ?_)
  · obtain ⟨a, n, d, rfl, _⟩ := h
    rfl
  · obtain ⟨a, n, d, rfl, ⟨dx, ha⟩, sn, sd, go⟩ := h
    refine ⟨_, pss_cons (ps_if (pt_cmpR op_eq (pe_fld (pv 0) rfl) pe_int (nomark _)) (pss_one (ps_ret (pe_callTy call_str_int (by rfl) U.bt.str (by decide +kernel) (pa_cons (pe_fld (pv 0) rfl) pa_nil)))) pss_nil)
      (pss_one (ps_ret (pe_joined (.cons (pe_fmt (pe_fld (pv 0) rfl)) (.cons pe_str (.cons (pe_fmt (pe_fld (pv 0) rfl)) .nil)))))), ?_⟩
    refine ⟨_, rfl, a, C, dx, _, _, rfl, ha, U.rc.own.cls, U.rc.noB, lkB n d, (by trivial), _, rfl, ?_⟩
    have l1 := int_text_len_1921 (sm_log sn)
    have l2 := int_text_len_1921 (sm_log sd)
    refine ite2 (fun _ => ?_) (fun _ => ?_)
    · exact ⟨_, rfl, a, C, dx, _, _, rfl, ha, U.rc.own.cls, U.rc.noT, lkT n d, _, rfl, sm_log sn, go _⟩
    · refine ⟨_, rfl, a, C, dx, _, _, rfl, ha, U.rc.own.cls, U.rc.noT, lkT n d, .inr ⟨n, rfl, sm_log sn, _, rfl, ?_, ?_⟩⟩
      · have z : (1921 + 1 + 1921 : Nat) ≤ sizeLine := by decide
        have z0 : (Str.empty).length = 0 := rfl
        have z1 : (Str.ofString "/").length = 1 := by decide
        simp only [PySem.Str.length_append]
        omega
      refine ⟨_, rfl, ?_, _, rfl, a, C, dx, _, _, rfl, ha, U.rc.own.cls, U.rc.noB, lkB n d, .inr ⟨d, rfl, sm_log sd, _, rfl, ?_, go _⟩⟩
      · have z : (1921 + 1 + 1921 : Nat) ≤ sizeLine := by decide
        have z0 : (Str.empty).length = 0 := rfl
        have z1 : (Str.ofString "/").length = 1 := by decide
        simp only [PySem.Str.length_append]
        omega
      · have z : (1921 + 1 + 1921 : Nat) ≤ sizeLine := by decide
        have z0 : (Str.empty).length = 0 := rfl
        have z1 : (Str.ofString "/").length = 1 := by decide
        simp only [PySem.Str.length_append]
        omega
theorem scStr : FnScope ["self"] ["self"] (defScope (mth 11)) := ⟨rfl, rfl, rfl, by decide +kernel, rfl, by decide +kernel, by decide +kernel⟩
theorem ok_str {f g : Addr} {fd gd : FuncData} (F : L2.Fun K "__str__" "Ratio.__str__" (mth 11) f fd) (U : Us P w K mg base C) (M : Meth K C "text" g) (G : FnOk P w K mg base CX0 1 g gd ["self"] (spText C)) (hb : Binds K gd ["self"] []) :
    FnOk P w K mg base CX0 3 f fd ["self"] (spText C) := by
  refine F.ok scStr (fun vs H Q E h => ?_) (fun cdv A outer s H vs Q E hr h => ?_)
  · obtain ⟨a, n, d, rfl, _⟩ := h
    rfl
  · obtain ⟨a, n, d, rfl, ⟨dx, ha⟩, sn, sd, go⟩ := h
    refine ⟨_, pss_one (ps_ret (pe_callTy SkE.call_str_str (by rfl) U.bt.str (by decide +kernel) (pa_cons (pe_meth0 (pv 0) U.rc.own.cls M G (hr.mono (by decide)) hb .nil pass0) pa_nil))), ?_⟩
    exact ⟨_, rfl, a, dx, _, rfl, ha, rfl, a, n, d, rfl, ⟨dx, ha⟩, sn, sd, fun z => ⟨z, rfl, go z⟩⟩
/-! ### what the law's text uses -/
/-- all of the class -/
structure Al (P : Program) (w : World) (K : PySem.W.Frag) (mg : Str → Option Value) (base : Heap) (C : Addr) : Prop where
  ops : Ops P w K mg base C
  radd : Mth P w K mg base C "__radd__" 4 ["self", "other"] (spBin C (fun n d m e => n * e + m * d) (fun _ d _ e => d * e))
  rsub : Mth P w K mg base C "__rsub__" 4 ["self", "other"] (spRsub C)
  rmul : Mth P w K mg base C "__rmul__" 4 ["self", "other"] (spBin C (fun n _ m _ => n * m) (fun _ d _ e => d * e))
  eq : Mth P w K mg base C "__eq__" 3 ["self", "other"] (spEq K C)
  ne : PySem.W.findIn K (.ref C) "__ne__" = some (some (.builtin "object.__ne__"))
  str : Mth P w K mg base C "__str__" 3 ["self"] (spText C)
  over : ∃ f fd, Meth K C "over" f ∧ FnOk P w K mg base CX0 3 f fd ["self", "number"] (spBin C (fun n _ _ e => n * e) (fun _ d m _ => d * m)) ∧ Binds K fd ["self", "number"] []
  below : ∃ f fd, Meth K C "below" f ∧ FnOk P w K mg base CX0 3 f fd ["self", "number"] (spBelow C) ∧ Binds K fd ["self", "number"] []
  top : ∃ p g fd, PropOf K C "top" p g ∧ FnOk P w K mg base CX0 1 g fd ["self"] (getSp C "_top") ∧ Binds K fd ["self"] []
  bot : ∃ p g fd, PropOf K C "bottom" p g ∧ FnOk P w K mg base CX0 1 g fd ["self"] (getSp C "_bottom") ∧ Binds K fd ["self"] []
  cd : ∃ cd, PySem.W.clsIn K C = some cd ∧ cd.mro = [.ref C, .type "object"]
  iadd : PySem.W.findIn K (.ref C) "__iadd__" = some none
  isub : PySem.W.findIn K (.ref C) "__isub__" = some none
  imul : PySem.W.findIn K (.ref C) "__imul__" = some none

section
variable {X : Cx}
/-- a Ratio op= a Ratio -/
def rIop (C : Addr) (g1 g2 : Int → Int → Int → Int → Int) : R2 := fun x y H Q => ∃ a n d b m e, x = .ref a ∧ Rt C H a n d ∧ y = .ref b ∧ Rt C H b m e ∧ Sm n ∧ Sm d ∧ Sm m ∧ Sm e ∧ g2 n d m e ≠ 0 ∧
  ∀ p H' n' d', Same H H' → Rt C H' p n' d' → Norm (g1 n d m e) (g2 n d m e) n' d' → Q (.ref p) H'
theorem rIop_of {g1 g2 : Int → Int → Int → Int → Int} {x y : V} {H : Hp} {Q : VK} (h : rIop C g1 g2 x y H Q) : ∃ a dx fs b dy gs, x = .ref a ∧ H a = some (.ins C dx fs) ∧ y = .ref b ∧ H b = some (.ins C dy gs) ∧
    spBin C g1 g2 [x, y] H (fun v H' => Nn v ∧ Q v H') E0 := by
  obtain ⟨a, n, d, b, m, e, rfl, ⟨dx, ha⟩, rfl, ⟨dy, hb⟩, sn, sd, sm, se, g0, go⟩ := h
  exact ⟨a, dx, _, b, dy, _, rfl, ha, rfl, hb, a, n, d, _, m, e, rfl, ⟨dx, ha⟩, .inr ⟨b, rfl, dy, hb⟩, sn, sd, sm, se, g0, fun p H' n' d' s r nm => ⟨.inl ⟨p, rfl⟩, go p H' n' d' s r nm⟩⟩
theorem iop_addN (T : Al X.prog X.w X.K X.mg X.base C) (hr : Room 3 X.A) : OpR X (inplaceOp .Add) (rIop C (fun n d m e => n * e + m * d) (fun _ d _ e => d * e)) := by
  obtain ⟨cd, hc, hm⟩ := T.cd
  exact OpR.imp (iop_own (op := .Add) T.ops.us.rc.own T.ops.add hr hc hm T.iadd (by rw [typeLookup_type, builtinLookup_eq_fast]; kernel_rfl)) fun x y H Q => rIop_of
theorem iop_subN (T : Al X.prog X.w X.K X.mg X.base C) (hr : Room 3 X.A) : OpR X (inplaceOp .Sub) (rIop C (fun n d m e => n * e - m * d) (fun _ d _ e => d * e)) := by
  obtain ⟨cd, hc, hm⟩ := T.cd
  exact OpR.imp (iop_own (op := .Sub) T.ops.us.rc.own T.ops.sub hr hc hm T.isub (by rw [typeLookup_type, builtinLookup_eq_fast]; kernel_rfl)) fun x y H Q => rIop_of
theorem iop_mulN (T : Al X.prog X.w X.K X.mg X.base C) (hr : Room 3 X.A) : OpR X (inplaceOp .Mult) (rIop C (fun n _ m _ => n * m) (fun _ d _ e => d * e)) := by
  obtain ⟨cd, hc, hm⟩ := T.cd
  exact OpR.imp (iop_own (op := .Mult) T.ops.us.rc.own T.ops.mul hr hc hm T.imul (by rw [typeLookup_type, builtinLookup_eq_fast]; kernel_rfl)) fun x y H Q => rIop_of
end
end
end K42

set_option Elab.async false
set_option linter.all false
set_option maxRecDepth 100000
set_option maxHeartbeats 4000000
set_option exponentiation.threshold 3000
/-! The law over Ratios: operators in the law's text. -/
namespace K42
open PySem PySem.Spec PyProof.Rows L2 Vx Vr
section
variable {X : Cx} {C : Addr}
theorem m_rsub {n1 d1 i a b n' d' : Int} (h1 : n1 * b = a * d1) (h : n' * (d1 * 1) = (i * d1 - n1 * 1) * d') (e1 : d1 ≠ 0) : n' * b = (i * b - a) * d' := by
  have k : d1 * (n' * b) = d1 * ((i * b - a) * d') := by grind
  exact Int.eq_of_mul_eq_mul_left e1 k
theorem sm1 : Sm 1 := by
  show (1 : Nat) < 2 ^ 1000
  exact Nat.one_lt_two_pow (by decide)
/-- int op Ratio -/
def rIntN (C : Addr) (g1 g2 : Int → Int → Int → Int → Int) : R2 := fun x y H Q => ∃ a n d i, y = .ref a ∧ Rt C H a n d ∧ x = .int i ∧ Sm n ∧ Sm d ∧ Sm i ∧ d ≠ 0 ∧
  ∀ p H' n' d', Same H H' → Rt C H' p n' d' → n' * g2 n d i 1 = g1 n d i 1 * d' → 0 < d' → Int.gcd n' d' = 1 → Lg n' → Lg d' → Q (.ref p) H'
theorem op_intAdd (T : Al X.prog X.w X.K X.mg X.base C) (hr : Room 4 X.A) : OpR X (binaryOp .Add) (rIntN C (fun n d m e => n * e + m * d) (fun _ d _ e => d * e)) := by
  obtain ⟨f0, _, h0, _⟩ := T.ops.add.ex
  refine OpR.imp (op_intOwn (op := .Add) (B := Builtin.«int.__add__») (n := "__add__") (g := fun x y => retInt (x + y)) T.ops.us.rc.own T.radd hr h0 PySem.F.fills_int_add PySem.F.slot_int_add PySem.F.entry_int_add PySem.F.args_int_add_2 rfl) fun x y H Q h => ?_
  obtain ⟨a, n, d, i, rfl, ⟨dx, ha⟩, rfl, sn, sd, si, d0, go⟩ := h
  exact ⟨i, a, dx, _, rfl, rfl, ha, a, n, d, _, i, 1, rfl, ⟨dx, ha⟩, .inl ⟨rfl, rfl⟩, sn, sd, si, sm1, Int.mul_ne_zero d0 (by decide), fun p H' n' d' s r nm => ⟨.inl ⟨p, rfl⟩, go p H' n' d' s r nm.1 nm.2.1 nm.2.2.1
    (Nat.lt_of_le_of_lt nm.2.2.2.1 (lg_add (lg_mul sn sm1) (lg_mul si sd))) (Nat.lt_of_le_of_lt nm.2.2.2.2 (lg_of (lg_mul sd sm1)))⟩⟩
theorem op_intMul (T : Al X.prog X.w X.K X.mg X.base C) (hr : Room 4 X.A) : OpR X (binaryOp .Mult) (rIntN C (fun n _ m _ => n * m) (fun _ d _ e => d * e)) := by
  obtain ⟨f0, _, h0, _⟩ := T.ops.mul.ex
  refine OpR.imp (op_intOwn (op := .Mult) (B := Builtin.«int.__mul__») (n := "__mul__") (g := fun x y => Builtin.intProduct "__mul__" x y) T.ops.us.rc.own T.rmul hr h0 PySem.F.fills_int_mul PySem.F.slot_int_mul PySem.F.entry_int_mul PySem.F.args_int_mul_2 rfl) fun x y H Q h => ?_
  obtain ⟨a, n, d, i, rfl, ⟨dx, ha⟩, rfl, sn, sd, si, d0, go⟩ := h
  exact ⟨i, a, dx, _, rfl, rfl, ha, a, n, d, _, i, 1, rfl, ⟨dx, ha⟩, .inl ⟨rfl, rfl⟩, sn, sd, si, sm1, Int.mul_ne_zero d0 (by decide), fun p H' n' d' s r nm => ⟨.inl ⟨p, rfl⟩, go p H' n' d' s r nm.1 nm.2.1 nm.2.2.1
    (Nat.lt_of_le_of_lt nm.2.2.2.1 (lg_of (lg_mul sn si))) (Nat.lt_of_le_of_lt nm.2.2.2.2 (lg_of (lg_mul sd sm1)))⟩⟩
theorem op_intSub (T : Al X.prog X.w X.K X.mg X.base C) (hr : Room 4 X.A) : OpR X (binaryOp .Sub) (rIntN C (fun n d m e => m * d - n * e) (fun _ d _ e => d * e)) := by
  obtain ⟨f0, _, h0, _⟩ := T.ops.sub.ex
  refine OpR.imp (op_intOwn (op := .Sub) (B := Builtin.«int.__sub__») (n := "__sub__") (g := fun x y => retInt (x - y)) T.ops.us.rc.own T.rsub hr h0 PySem.F.fills_int_sub PySem.F.slot_int_sub PySem.F.entry_int_sub PySem.F.args_int_sub_2 rfl) fun x y H Q h => ?_
  obtain ⟨a, n, d, i, rfl, ⟨dx, ha⟩, rfl, sn, sd, si, d0, go⟩ := h
  exact ⟨i, a, dx, _, rfl, rfl, ha, a, n, d, _, i, 1, rfl, ⟨dx, ha⟩, .inl ⟨rfl, rfl⟩, sn, sd, si, sm1, d0, (by decide), fun p H' n' d' s r e1 e2 e3 l1 l2 => ⟨.inl ⟨p, rfl⟩, go p H' n' d' s r e1 e2 e3 l1 l2⟩⟩
/-- == and its kin -/
def rEqN (K : PySem.W.Frag) (C : Addr) : R2 := fun x y H Q => ∃ a n d, x = .ref a ∧ Rt C H a n d ∧
  ((∃ m e, Nu C H y m e ∧ ∀ H', Same H H' → Q (.bl (decide (n = m) && decide (d = e))) H') ∨ ∃ T, Oth K H y T ∧ T ≠ "int" ∧ Q (.bl false) H)
def rNeN (K : PySem.W.Frag) (C : Addr) : R2 := fun x y H Q => ∃ a n d, x = .ref a ∧ Rt C H a n d ∧
  ((∃ m e, Nu C H y m e ∧ ∀ H', Same H H' → Q (.bl (!(decide (n = m) && decide (d = e)))) H') ∨ ∃ T, Oth K H y T ∧ T ≠ "int" ∧ Q (.bl true) H)
def rEqR (K : PySem.W.Frag) (C : Addr) : R2 := fun x y H Q => ∃ a n d, y = .ref a ∧ Rt C H a n d ∧
  ((∃ i, x = .int i ∧ ∀ H', Same H H' → Q (.bl (decide (n = i) && decide (d = 1))) H') ∨ ∃ T, Oth K H x T ∧ T ≠ "int" ∧ Q (.bl false) H)
theorem op_eqN (T : Al X.prog X.w X.K X.mg X.base C) (hr : Room 3 X.A) : OpR X (compareOp .Eq) (rEqN X.K C) := by
  refine OpR.imp (op_eqOwn T.eq T.ops.us.rc.far hr) fun x y H Q h => ?_
  obtain ⟨a, n, d, rfl, ⟨dx, ha⟩, h⟩ := h
  refine ⟨a, dx, _, rfl, ha, ?_, a, n, d, y, rfl, ⟨dx, ha⟩, ?_⟩
  · rcases h with ⟨m, e, ⟨rfl, rfl⟩ | ⟨b, rfl, dy, hb⟩, _⟩ | ⟨T, o, _⟩
    · exact .inr ⟨"int", .int m⟩
    · exact .inl ⟨b, dy, _, rfl, hb⟩
    · exact .inr ⟨T, o⟩
  · rcases h with ⟨m, e, nu, go⟩ | ⟨T, o, ne, go⟩
    · exact .inl ⟨m, e, nu, fun H' s => ⟨.inr ⟨_, rfl⟩, go H' s⟩⟩
    · exact .inr ⟨T, o, ne, .inr ⟨_, rfl⟩, go⟩
theorem op_neN (T : Al X.prog X.w X.K X.mg X.base C) (hr : Room 4 X.A) : OpR X (compareOp .NotEq) (rNeN X.K C) := by
  refine OpR.imp (op_neOwn T.ops.us.rc.own T.eq T.ops.us.rc.far hr T.ne) fun x y H Q h => ?_
  obtain ⟨a, n, d, rfl, ⟨dx, ha⟩, h⟩ := h
  refine ⟨a, dx, _, rfl, ha, ?_, a, n, d, y, rfl, ⟨dx, ha⟩, ?_⟩
  · rcases h with ⟨m, e, ⟨rfl, rfl⟩ | ⟨b, rfl, dy, hb⟩, _⟩ | ⟨T, o, _⟩
    · exact .inr ⟨"int", .int m⟩
    · exact .inl ⟨b, dy, _, rfl, hb⟩
    · exact .inr ⟨T, o⟩
  · rcases h with ⟨m, e, nu, go⟩ | ⟨T, o, ne, go⟩
    · exact .inl ⟨m, e, nu, fun H' s => ⟨_, rfl, go H' s⟩⟩
    · exact .inr ⟨T, o, ne, _, rfl, go⟩
theorem op_eqRN (T : Al X.prog X.w X.K X.mg X.base C) (hr : Room 3 X.A) : OpR X (compareOp .Eq) (rEqR X.K C) := by
  refine OpR.imp (op_eqOwnR T.eq T.ops.us.rc.far hr) fun x y H Q h => ?_
  obtain ⟨a, n, d, rfl, ⟨dx, ha⟩, h⟩ := h
  refine ⟨a, dx, _, rfl, ha, ?_, a, n, d, x, rfl, ⟨dx, ha⟩, ?_⟩
  · rcases h with ⟨i, rfl, _⟩ | ⟨T, o, _⟩
    · exact ⟨"int", .int i⟩
    · exact ⟨T, o⟩
  · rcases h with ⟨i, rfl, go⟩ | ⟨T, o, ne, go⟩
    · exact .inl ⟨i, 1, .inl ⟨rfl, rfl⟩, fun H' s => ⟨.inr ⟨_, rfl⟩, go H' s⟩⟩
    · exact .inr ⟨T, o, ne, .inr ⟨_, rfl⟩, go⟩
/-- o.top, o.bottom -/
theorem pe_top {e : Expr} {ta : TE} {pos : Pos} (T : Al X.prog X.w X.K X.mg X.base C) (hr : Room 2 X.A) (he : PE X e ta) (hab : attributeBase e "top" X.env (eval e X.env) = eval e X.env := by rfl) : PE X (.Attribute e "top" pos) (tProp C (getSp C "_top") [] E0 ta) := by
  obtain ⟨p, g, fd, P, F, b⟩ := T.top
  exact pe_prop he T.ops.us.rc.own.cls P F hr b .nil pass0 hab
theorem pe_bot {e : Expr} {ta : TE} {pos : Pos} (T : Al X.prog X.w X.K X.mg X.base C) (hr : Room 2 X.A) (he : PE X e ta) (hab : attributeBase e "bottom" X.env (eval e X.env) = eval e X.env := by rfl) : PE X (.Attribute e "bottom" pos) (tProp C (getSp C "_bottom") [] E0 ta) := by
  obtain ⟨p, g, fd, P, F, b⟩ := T.bot
  exact pe_prop he T.ops.us.rc.own.cls P F hr b .nil pass0 hab
theorem rd_top {a : Addr} {n d : Int} {H : Hp} {Q : VK} (h : Rt C H a n d) (q : Q (.int n) H) : ∃ a' dx fs, (V.ref a) = .ref a' ∧ H a' = some (.ins C dx fs) ∧ getSp C "_top" (.ref a' :: []) H Q E0 := by
  obtain ⟨dx, e⟩ := h
  exact ⟨a, dx, _, rfl, e, a, dx, _, _, rfl, e, lkT n d, q⟩
theorem rd_bot {a : Addr} {n d : Int} {H : Hp} {Q : VK} (h : Rt C H a n d) (q : Q (.int d) H) : ∃ a' dx fs, (V.ref a) = .ref a' ∧ H a' = some (.ins C dx fs) ∧ getSp C "_bottom" (.ref a' :: []) H Q E0 := by
  obtain ⟨dx, e⟩ := h
  exact ⟨a, dx, _, rfl, e, a, dx, _, _, rfl, e, lkB n d, q⟩
end
end K42

set_option Elab.async false
set_option linter.all false
set_option maxRecDepth 100000
set_option maxHeartbeats 4000000
/-! Own layer, part S1: sets over any kind of keys whose members can be told in order: adding. -/
namespace Sx
open PySem PySem.Spec PyProof.Rows L2
section
variable {P : Program} {w : World} {K : Type} [DecidableEq K] {knd : KeyKind P w K} {A : Around} {E : Value → Shared → Prop} {s : Shared} {a : Addr} {S : K → Bool} {n : Nat}
/-- no key stands twice -/
def Apart (knd : KeyKind P w K) (l : List (Int × Value)) : Prop := l.Pairwise fun e f => ∀ k, ¬ (knd.is k e.2 = true ∧ knd.is k f.2 = true)
/-- the table can be walked -/
def Walked (w : World) (t : SetTable) : Prop := Ris t.place.toList ∧ (w.params.followText "set-order" = true ∨ t.led = true)
/-- the entries are those of S -/
def Has (knd : KeyKind P w K) (S : K → Bool) (l : List (Int × Value)) : Prop := ElemsOf knd l ∧ Apart knd l ∧ ∀ k, S k = true ↔ ∃ e ∈ l, knd.is k e.2 = true
theorem Apart.perm {l m : List (Int × Value)} (h : Apart knd l) (p : m.Perm l) : Apart knd m := p.symm.pairwise h fun {e f} c k ⟨x, y⟩ => c k ⟨y, x⟩
theorem Has.perm {l m : List (Int × Value)} (h : Has knd S l) (p : m.Perm l) : Has knd S m :=
  ⟨h.1.perm p, h.2.1.perm p, fun k => (h.2.2 k).trans ⟨fun ⟨e, i, j⟩ => ⟨e, p.symm.mem_iff.mp i, j⟩, fun ⟨e, i, j⟩ => ⟨e, p.mem_iff.mp i, j⟩⟩⟩
def SetX (knd : KeyKind P w K) (h : Heap) (a : Addr) (S : K → Bool) (n : Nat) : Prop :=
  ∃ o es ep t, (h.get? a = some o ∧ o.ExactSet ∧ o.data = .set es ep t) ∧ Has knd S es.toList ∧ (es.size < scanBound ∧ t.fits es.size = true ∧ es.size = n) ∧ Walked w t
theorem SetX.keep {h h' : Heap} (X : SetX knd h a S n) (k : ∀ o, h.get? a = some o → h'.get? a = some o) : SetX knd h' a S n := by
  obtain ⟨o, es, ep, t, ⟨i, j⟩, rest⟩ := X
  exact ⟨o, es, ep, t, ⟨k o i, j⟩, rest⟩
theorem SetX.lt {h : Heap} (X : SetX knd h a S n) : a < h.objs.size := by
  obtain ⟨o, es, ep, t, ⟨i, j⟩, rest⟩ := X
  exact Heap.lt_size i
theorem SetX.setOf {h : Heap} (X : SetX knd h a S n) : h.SetOf knd a S n := by
  obtain ⟨o, es, ep, t, ⟨i1, i2, i3⟩, ⟨j1, _, j3⟩, ⟨k1, k2, k3⟩, _⟩ := X
  exact ⟨o, es, ep, t, i1, i2, i3, j1, j3, k1, k2, k3⟩
/-- the table's rows are stored, and laid anew where they have become too many -/
theorem tail_x {o : Obj} {es es1 : Array (Int × Value)} {ep : Nat} {t t2 : SetTable} {g : Bool → Sem Unit} {was : Bool} {R : Option Bool → Shared → Prop} {T : K → Bool}
    (quiet : ∀ (b : Bool) (s1 : Shared) (Z : Unit → Shared → Prop), Z () s1 → wpAny (model P w) A (g b) Z E s1) (at_ : s.heap.get? a = some o ∧ o.ExactSet ∧ o.data = .set es ep t)
    (has : Has knd T es1.toList) (few : es1.size < scanBound) (fit : t2.fits es1.size = true) (wk : Walked w t2) (fin : ∀ h', Heap.SameBut a s.heap h' → SetX knd h' a T es1.size → R (some true) { s with heap := h' }) :
    wpAny (model P w) A (storeSet a es1 t2 >>= fun _ => if (!was && t2.tooFull) = true then g (relayAll t2 es1 (SetTable.grown es1.size)).2.2 >>= fun _ => storeSet a (relayAll t2 es1 (SetTable.grown es1.size)).1 (relayAll t2 es1 (SetTable.grown es1.size)).2.1 >>= fun _ => pure (some true) else pure (some true)) R E s := by
  obtain ⟨i1, i2, i3⟩ := at_
  have next := L2.store_at (es' := es1) (t' := t2) i1 i3
  have same := Heap.SameBut.update s.heap a (Obj.putSet es1 t2)
  refine wpAny_bind (wpAny_storeSet_of i1 i3 ?_ (fits_of_scanBound few))
  by_cases full : (!was && t2.tooFull) = true
  · rw [if_pos full]
    have q1 := relayAll_perm t2 es1 (SetTable.grown es1.size)
    have q2 := relayAll_fits t2 es1 (SetTable.grown es1.size)
    have q3 := L2.relayAll_ris t2 es1 (SetTable.grown es1.size)
    have q4 := L2.relayAll_led t2 es1 (SetTable.grown es1.size)
    generalize relayAll t2 es1 (SetTable.grown es1.size) = V at q1 q2 q3 q4 ⊢
    have sz : V.1.size = es1.size := by
      have z := q1.length_eq
      rwa [Array.length_toList, Array.length_toList] at z
    refine wpAny_bind (quiet _ _ _ (wpAny_bind (wpAny_storeSet_of next rfl (wpAny_pure (fin _ (same.trans (Heap.SameBut.update _ a _)) ?_)) (fits_of_scanBound (by rw [sz]; exact few)))))
    exact ⟨_, V.1, _, V.2.1, ⟨L2.store_at (es' := V.1) (t' := V.2.1) next rfl, i2, rfl⟩, has.perm q1, ⟨by rw [sz]; exact few, q2, sz⟩, q3, wk.2.imp id fun z => by rw [q4]; exact z⟩
  · rw [if_neg full]
    exact wpAny_pure (fin _ same ⟨_, es1, _, t2, ⟨next, i2, rfl⟩, has, ⟨few, fit, rfl⟩, wk⟩)
/-- the row of a new member -/
theorem Has.more {l m : List (Int × Value)} {k : K} {x : Value} (h : Has knd S l) (new : S k = false) (key : knd.is k x = true) (sc : x.scannable = true) (p : m.Perm ((knd.hash k, x) :: l)) : Has knd (fun j => S j || decide (j = k)) m := by
  have base : Has knd (fun j => S j || decide (j = k)) ((knd.hash k, x) :: l) := by
    refine ⟨fun e he => ?_, List.pairwise_cons.mpr ⟨fun e he j ⟨y, z⟩ => ?_, h.2.1⟩, fun j => ?_⟩
    · rcases List.mem_cons.mp he with z | z
      · rw [z]
        exact ⟨⟨k, key, rfl⟩, sc⟩
      · exact h.1 e z
    · have jk : j = k := by
        have q := KeyKind.is_eq_decide key j
        rw [q] at y
        exact of_decide_eq_true y
      rw [jk] at z
      have q := (h.2.2 k).mpr ⟨e, he, z⟩
      rw [new] at q
      cases q
    · show (S j || decide (j = k)) = true ↔ _
      rw [Bool.or_eq_true, decide_eq_true_eq, h.2.2 j]
      constructor
      · rintro (⟨e, i, z⟩ | z)
        · exact ⟨e, List.mem_cons_of_mem _ i, z⟩
        · rw [z]
          exact ⟨_, List.mem_cons_self .., key⟩
      · rintro ⟨e, i, z⟩
        rcases List.mem_cons.mp i with y | y
        · rw [y] at z
          have q := KeyKind.is_eq_decide key j
          rw [q] at z
          exact .inr (of_decide_eq_true z)
        · exact .inl ⟨e, y, z⟩
  exact base.perm p
/-- add, the hash known -/
theorem add_x {k : K} {x : Value} {Q : Bool → Shared → Prop} (X : SetX knd s.heap a S n) (key : knd.is k x = true) (sc : x.scannable = true) (room : n + 1 < scanBound)
    (fin : ∀ h', Heap.SameBut a s.heap h' → SetX knd h' a (fun j => S j || decide (j = k)) (if S k = true then n else n + 1) → Q (!S k) { s with heap := h' }) : wpAny (model P w) A (setAddHashed a x (knd.hash k)) Q E s := by
  obtain ⟨o, es, ep, t, ⟨i1, i2, i3⟩, has, ⟨k1, k2, k3⟩, wk⟩ := X
  have el := has.1
  unfold setAddHashed setAddHashedIn
  refine wpAny_holding (wpAny_bind (wpAny_setState_of i1 i3 k2 ?_)); dsimp only; rw [byScan_of sc k1 el]; simp only [↓reduceIte]; unfold setAddByScan
  refine wpAny_bind (wpAny_bind (wpAny_rule (wpAny_bind (wpAny_setScan_of key i1 i3 k2 el ?_))))
  cases where_ : List.findIdx? (fun e => knd.is k e.2) es.toList with
  | some j =>
    obtain ⟨j1, j2, _⟩ := List.findIdx?_eq_some_iff_getElem.mp where_
    have old : S k = true := (has.2.2 k).mpr ⟨es.toList[j], List.getElem_mem j1, j2⟩
    have q := fin s.heap (Heap.SameBut.refl a s.heap) ⟨o, es, ep, t, ⟨i1, i2, i3⟩, ⟨el, has.2.1, fun i => ?_⟩, ⟨k1, k2, by rw [if_pos old]; exact k3⟩, wk⟩
    · rw [old] at q
      dsimp only
      exact wpAny_pure (wpAny_pure q)
    · rw [← has.2.2 i, Bool.or_eq_true, decide_eq_true_eq]
      exact ⟨fun z => z.elim id fun z => z.symm ▸ old, .inl⟩
  | none =>
    have new : S k = false := by
      refine Bool.eq_false_iff.mpr fun z => ?_
      obtain ⟨e, he, q⟩ := (has.2.2 k).mp z
      have c := List.findIdx?_eq_none_iff.mp where_ e he
      rw [q] at c
      cases c
    dsimp only
    have pm := layNew_perm t es (knd.hash k) x
    have fi := layNew_fits t es (knd.hash k) x
    have ri := L2.layNew_ris t es (knd.hash k) x wk.1
    have le := L2.layNew_led t es (knd.hash k) x
    generalize layNew t es (knd.hash k) x = V at pm fi ri le ⊢
    obtain ⟨es1, t1, was, gave⟩ := V
    dsimp only at pm fi ri le ⊢
    rw [Array.toList_push] at pm
    have has1 := has.more new key sc (pm.trans (List.perm_append_singleton _ _))
    have sz : es1.size = n + 1 := by
      have z := pm.length_eq
      rw [Array.length_toList, List.length_append, Array.length_toList, k3] at z
      exact z
    have few : es1.size < scanBound := by omega
    have led : w.params.followText "set-order" = true ∨ t1.led = true := wk.2.imp id fun z => by rw [le]; exact z
    have done : ∀ h', Heap.SameBut a s.heap h' → SetX knd h' a (fun j => S j || decide (j = k)) es1.size → Q true { s with heap := h' } := fun h' sb r => by
      have q := fin h' sb
      rw [new, if_neg (by decide)] at q
      rw [sz] at r
      exact q r
    have loud : ∀ (b : Bool) {s1 : Shared} {Z : Unit → Shared → Prop}, Z () s1 → wpAny (model P w) A (match b with | true => rule "set.scan.the-table-gave-way" | false => pure ()) Z E s1 := by
      intro b s1 Z z
      cases b
      · exact wpAny_pure z
      · exact wpAny_rule z
    have loud2 : ∀ (b : Bool) (s1 : Shared) (Z : Unit → Shared → Prop), Z () s1 → wpAny (model P w) A (match b with | true => rule "set.scan.the-table-gave-way" | false => pure ()) Z E s1 := fun b s1 Z z => loud b z
    refine wpAny_bind (loud _ ?_)
    have both : ∀ b : Bool, (if b = true then t1 else { t1 with plain := false }).fits es1.size = true ∧ Walked w (if b = true then t1 else { t1 with plain := false }) := by
      intro b
      cases b
      · exact ⟨SetTable.fits_plain_off fi, ri, led⟩
      · exact ⟨fi, ri, led⟩
    by_cases pl : t1.plain = true
    · rw [if_pos pl, hashByValue_scannable 8 sc]
      exact wpAny_bind (wpAny_pure (tail_x loud2 ⟨i1, i2, i3⟩ has1 few (both _).1 (both _).2 fun h' sb r => wpAny_pure (done h' sb r)))
    · rw [if_neg pl]
      exact wpAny_bind (wpAny_pure (tail_x loud2 ⟨i1, i2, i3⟩ has1 few fi ⟨ri, led⟩ fun h' sb r => wpAny_pure (done h' sb r)))
end
end Sx

set_option Elab.async false
set_option linter.all false
set_option maxRecDepth 100000
set_option maxHeartbeats 4000000
/-! Own layer, part S2: sets of texts: set(xs) of a list or tuple of texts. -/
namespace Sx
open PySem PySem.Spec PyProof.Rows L2
/-- how many of the first i are new -/
def met (xs : List Str) : Nat → Nat
  | 0 => 0
  | i + 1 => if xs.getD i Str.empty ∈ xs.take i then met xs i else met xs i + 1
theorem met_le (xs : List Str) : ∀ i, met xs i ≤ i
  | 0 => Nat.le_refl _
  | i + 1 => by
    have q := met_le xs i
    unfold met
    split <;> omega
theorem met_all (xs : List Str) (h : xs.Nodup) : ∀ i, i ≤ xs.length → met xs i = i
  | 0, _ => rfl
  | i + 1, hi => by
    have q := met_all xs h i (by omega)
    have lt : i < xs.length := by omega
    have new : xs.getD i Str.empty ∉ xs.take i := by
      intro m
      rw [List.getD_eq_getElem?_getD, List.getElem?_eq_getElem lt] at m
      obtain ⟨j, hj, e⟩ := List.getElem_of_mem m
      rw [List.length_take] at hj
      rw [List.getElem_take] at e
      exact List.pairwise_iff_getElem.mp h j i (by omega) lt (by omega) e
    unfold met
    rw [if_neg new, q]
theorem met_few (xs : List Str) : ∀ i, i ≤ xs.length → met xs i = i → (xs.take i).Nodup
  | 0, _, _ => by simp
  | i + 1, hi, e => by
    have lt : i < xs.length := by omega
    have le := met_le xs i
    unfold met at e
    split at e
    · omega
    · rename_i new
      have q := met_few xs i (by omega) (by omega)
      rw [List.getD_eq_getElem?_getD, List.getElem?_eq_getElem lt] at new
      rw [List.take_succ_eq_append_getElem lt, List.nodup_append]
      refine ⟨q, by simp, fun x hx y hy e => ?_⟩
      rw [List.mem_singleton] at hy
      exact new (by show xs[i] ∈ _; rw [← hy, ← e]; exact hx)
theorem met_iff (xs : List Str) : met xs xs.length = xs.length ↔ xs.Nodup :=
  ⟨fun e => by have q := met_few xs xs.length (Nat.le_refl _) e; rwa [List.take_length] at q, fun h => met_all xs h _ (Nat.le_refl _)⟩
section
variable {P : Program} {w : World} {A : Around} {E : Value → Shared → Prop} {s : Shared}
/-- the loop of update, over texts -/
theorem loop_x {I : Addr} {fp wr : List Addr} {G : Array GenState → Array GenState → Prop} {n : Nat} {Pv : Nat → Value → Prop} {St : Nat → Shared → Prop} {R : Result → Shared → Prop} (W : WalksS P w A.in1 I fp wr G n Pv St) (S : Addr) (out : S ∉ fp)
    (xs : List Str) (len : xs.length = n) (few : n + 1 < scanBound) (val : ∀ i v, Pv i v → ∃ t, v = .str (xs.getD i Str.empty) t) :
    ∀ (d i : Nat) (s : Shared), n = i + d → St i s → SetX (strKind P w) s.heap S (fun k => decide (k ∈ xs.take i)) (met xs i) →
      (∀ s', Moved (S :: wr) G s s' → SetX (strKind P w) s'.heap S (fun k => decide (k ∈ xs)) (met xs n) → R (.ok (.ret .none)) s') → codeAny (model P w) A (.builtin "set.update.loop" ⟨[.ref S, .ref I], []⟩) R s := by
  have notin : S ∉ wr := fun h => out (W.sub _ h)
  have sub : ∀ b ∈ wr, b ∈ S :: wr := fun b hb => List.mem_cons_of_mem _ hb
  intro d
  induction d with
  | zero =>
    intro i s e st X fin
    obtain rfl : n = i := e
    refine codeAny_builtin PyProof.Rows.F.entry_set_update_loop ?_
    rw [Around.under_plainId PyProof.Rows.F.plain_set_update_loop _]
    refine (show wpAny _ A.in1 (pyNext (.ref I) >>= _) _ _ s from wpAny_bind (W.done s _ _ st fun s' mv => ?_))
    refine (show wpAny _ A.in1 (ret Value.none) _ _ s' from wpAny_pure (fin s' (mv.mono sub) ?_))
    have q := X.keep (fun o z => mv.heap S o notin z)
    rw [← len, List.take_length] at q
    rw [← len]
    exact q
  | succ d ih =>
    intro i s e st X fin
    have lt : i < n := by omega
    refine codeAny_builtin PyProof.Rows.F.entry_set_update_loop ?_
    rw [Around.under_plainId PyProof.Rows.F.plain_set_update_loop _]
    refine (show wpAny _ A.in1 (pyNext (.ref I) >>= _) _ _ s from wpAny_bind (W.item i s _ _ lt st fun v s' pv st' mv => ?_))
    obtain ⟨t, rfl⟩ := val i v pv
    have X' := X.keep (fun o z => mv.heap S o notin z)
    refine (show wpAny _ A.in1 (holding [Value.str (xs.getD i Str.empty) t] (setAdd S (.str (xs.getD i Str.empty) t)) >>= _) _ _ s' from wpAny_bind (wpAny_holding ?_))
    unfold setAdd
    refine wpAny_holding (wpAny_bind ((strKind P w).pyHash (k := xs.getD i Str.empty) (strKind_is _ _ _ _) ?_))
    have le := met_le xs i
    refine add_x (s := { s' with toks := s'.toks + 1 }) X' (strKind_is _ _ _ _) rfl (by omega) fun h' sb Y => ?_
    have Z : SetX (strKind P w) h' S (fun k => decide (k ∈ xs.take (i + 1))) (met xs (i + 1)) := by
      have li : i < xs.length := by omega
      have e1 : (fun k => decide (k ∈ xs.take i) || decide (k = xs.getD i Str.empty)) = fun k => decide (k ∈ xs.take (i + 1)) := by
        funext k
        rw [List.take_succ_eq_append_getElem li, List.getD_eq_getElem?_getD, List.getElem?_eq_getElem li]
        simp only [List.mem_append, List.mem_singleton, Bool.decide_or, Option.getD_some]
      rw [e1] at Y
      have e2 : (if decide (xs.getD i Str.empty ∈ xs.take i) = true then met xs i else met xs i + 1) = met xs (i + 1) := by
        show _ = if _ then _ else _
        simp only [decide_eq_true_eq]
      rw [e2] at Y
      exact Y
    refine wpAny_pure ⟨plainId_quiet PyProof.Rows.F.plain_set_update_loop _, ih (i + 1) _ (by omega) (W.frame _ s' _ _ st' (Nat.le_succ _) fun b hb o z => ?_) Z fun s2 mv2 X2 => fin s2 (Moved.trans W.gtrans ((mv.mono sub).then_heap (Nat.le_succ _) fun b o hb z => ?_) mv2) X2⟩
    · rw [sb.2 b fun y => out (y ▸ hb)]
      exact z
    · rw [sb.2 b fun y => hb (y ▸ List.mem_cons_self)]
      exact z
end
end Sx

set_option Elab.async false
set_option linter.all false
set_option maxRecDepth 100000
set_option maxHeartbeats 8000000
/-! Own layer, part S3: set(xs) of a list or a tuple of texts, at the model's level (made by gen_ssc.py). -/
namespace Sx
open PySem PySem.Spec PyProof.Rows L2
abbrev bare (w : World) : Obj := { cls := .type "set", dict := none, data := .set #[] 0 (.fresh 0 0 (!w.params.followText "set-order")) }
theorem setX_bare {P : Program} {w : World} {h : Heap} {a : Addr} (at_ : h.get? a = some (bare w)) : SetX (strKind P w) h a (fun _ => false) 0 := by
  refine ⟨_, #[], 0, _, ⟨at_, ⟨rfl, rfl, rfl⟩, rfl⟩, ⟨fun e he => by simp at he, .nil, fun k => by simp⟩, ⟨by decide, by rfl, rfl⟩, .nil, ?_⟩
  show _ ∨ (!w.params.followText "set-order") = true
  cases w.params.followText "set-order" <;> simp
section
variable {P : Program} {w : World} {A : Around} {E : Value → Shared → Prop} {s : Shared}
theorem call_set_list {l : Addr} {items : Array Value} {xs : List Str} {Q : Value → Shared → Prop} (calm : A.handled = none) (hl : s.heap.IsList l items) (hi : StrsAre items.toList xs) (few : xs.length + 1 < scanBound)
    (fin : ∀ (h' : Heap) (tk : Nat), SetX (strKind P w) h' s.heap.objs.size (fun k => decide (k ∈ xs)) (met xs xs.length) → (∀ b o, s.heap.get? b = some o → h'.get? b = some o) → Q (.ref s.heap.objs.size) { s with heap := h', toks := tk }) :
    wpAny (model P w) A (call (.type "set") [.ref l]) Q E s := by
  have size : items.size = xs.length := by rw [← StrsAre.len_eq hi, Array.length_toList]
  obtain ⟨c0, c1, order⟩ := F.called_set.mro
  have u1 := F.called_set.made; have u2 := F.called_set.sub; have u3 := F.called_set.notType; have u4 := F.called_set.canCreate; have u5 := F.typeCall_set_1 (.ref l)
  refine wpAny_call (codeAny_of_tree (show wpAny _ _ (callAny (.type "set") _) _ _ _ from wpAny_pure ⟨Code.quiet_builtin _ (by decide +kernel), codeAny_builtin F.entry_type_call ?_⟩))
  rw [Around.under_plain (weight_type_call_type "set" [.ref l] []) rfl]
  repeat (any_goals (first | assumption | wp_step))
  refine codeAny_mono (L2.code_set_led1 (.ref l) (E := E) (Q₁ := fun v z => v = .ref s.heap.objs.size ∧ z = { s with heap := s.heap.push (bare w) }) ⟨rfl, rfl⟩) fun r z hr => ?_
  rcases r with e | fl
  · exact hr
  rcases fl with _ | _ | _ | obj
  case ret =>
    obtain ⟨rfl, rfl⟩ := hr
    have atS : (s.heap.push (bare w)).get? s.heap.objs.size = some (bare w) := Heap.get?_push_size _ rfl
    have ty : Shared.TypeIs { s with heap := s.heap.push (bare w) } (.ref s.heap.objs.size) "set" := ⟨_, atS, rfl⟩
    have u6 := F.called_set.init.lookup; have u7 := F.called_set.init.bind (.ref s.heap.objs.size)
    repeat (any_goals (first | assumption | wp_step))
    refine codeAny_mono (codeAny_call_builtin (R := wants (fun r z => r = .none ∧ ∃ h' tk, z = { s with heap := h', toks := tk } ∧ SetX (strKind P w) h' s.heap.objs.size (fun k => decide (k ∈ xs)) (met xs xs.length) ∧ ∀ b o, s.heap.get? b = some o → h'.get? b = some o) E)
      F.called_set.init.plain F.entry_set_init (check_set_init_1 ty ?_)) fun r z hr => ?_
    · obtain ⟨⟨cls, dd, dt, sl⟩, ol, oc, nl, od⟩ := hl
      simp only at oc od
      subst oc od
      have ol1 : (s.heap.push (bare w)).get? l = some { cls := .type "list", dict := dd, data := .seq items nl, slots := sl } := Heap.get?_push_of_some _ ol
      have v1 := F.sub_list_set; have v2 := F.sub_list_frozenset; have v3 : (Value.type "list" == Value.type "dict") = false := by decide
      have hl1 : (s.heap.push (bare w)).IsList l items := ⟨_, ol1, rfl, nl, rfl⟩
      have below : l < s.heap.objs.size := Heap.lt_size ol
      have up : (s.heap.push (bare w)).objs.size = s.heap.objs.size + 1 := Heap.size_push ..
      unfold Builtin.«set.__init__» noKeywords Builtin.Frozenset.updateFrom
      generalize it : pyIter = it0
      wp_walk
      subst it
      refine wpAny_pyIter_list hl1 (wpAny_bind (wpAny_runValue ?_))
      have calm3 : A.in1.in1.in1.handled = none := by simp [calm]
      have ne : l ≠ (s.heap.push (bare w)).objs.size := up ▸ Nat.ne_of_lt (Nat.lt_succ_of_lt below)
      have out : s.heap.objs.size ∉ [(s.heap.push (bare w)).objs.size, l] := by
        intro m
        rcases List.mem_cons.mp m with e | m
        · exact Nat.ne_of_lt (Nat.lt_succ_self _) (e.trans up)
        · exact Nat.ne_of_gt below (List.mem_singleton.mp m)
      have val : ∀ (i : Nat) (v : Value), items[i]? = some v → ∃ t, v = .str (xs.getD i Str.empty) t := fun i v hv => SS.strs_at hi i v (by rw [Array.getElem?_toList]; exact hv)
      refine loop_x ((Walks.list calm3 _ l ne items).toS) s.heap.objs.size out xs size.symm (by rw [size]; exact few) val items.size 0 _ (Nat.zero_add _).symm ⟨⟨_, Heap.get?_push_size _ rfl, rfl, rfl⟩, hl1.push _⟩ ?_ fun z mv X => ?_
      · have q := setX_bare (P := P) (Heap.get?_push_of_some { cls := .type "list_iterator", data := .fields #[.ref l, .int 0 0] } atS)
        have e : (fun _ => false) = fun k : Str => decide (k ∈ xs.take 0) := by
          funext k
          simp
        rw [e] at q
        exact q
      · obtain ⟨h', g', d', tk', os'⟩ := z
        obtain rfl : g' = s.gens := mv.gens
        obtain rfl : d' = s.drawn := mv.drawn
        obtain rfl : os' = s.os := mv.os
        refine (show wpAny _ _ _ _ _ _ from wpAny_pure (show wpAny _ _ (ret Value.none) _ _ _ from wpAny_pure ⟨rfl, h', tk', rfl, ?_, fun b o e => ?_⟩))
        · rw [size] at X
          exact X
        · have lb := Heap.lt_size e
          refine mv.heap b o (fun m => ?_) (Heap.get?_push_of_some _ (Heap.get?_push_of_some _ e))
          rcases List.mem_cons.mp m with e | m
          · exact Nat.ne_of_lt lb e
          · exact Nat.ne_of_lt (Nat.lt_succ_of_lt lb) ((List.mem_singleton.mp m).trans up)
    · rcases r with e | fl
      · exact hr
      rcases fl with _ | _ | _ | v
      case ret =>
        obtain ⟨rfl, h', tk, rfl, X, k⟩ := hr
        repeat (any_goals (first | assumption | wp_step))
        exact fin h' tk X k
      all_goals exact hr.elim
  all_goals exact hr.elim
theorem call_set_tuple {l : Addr} {items : Array Value} {xs : List Str} {Q : Value → Shared → Prop} (calm : A.handled = none) (hl : s.heap.IsTuple l items) (hi : StrsAre items.toList xs) (few : xs.length + 1 < scanBound)
    (fin : ∀ (h' : Heap) (tk : Nat), SetX (strKind P w) h' s.heap.objs.size (fun k => decide (k ∈ xs)) (met xs xs.length) → (∀ b o, s.heap.get? b = some o → h'.get? b = some o) → Q (.ref s.heap.objs.size) { s with heap := h', toks := tk }) :
    wpAny (model P w) A (call (.type "set") [.ref l]) Q E s := by
  have size : items.size = xs.length := by rw [← StrsAre.len_eq hi, Array.length_toList]
  obtain ⟨c0, c1, order⟩ := F.called_set.mro
  have u1 := F.called_set.made; have u2 := F.called_set.sub; have u3 := F.called_set.notType; have u4 := F.called_set.canCreate; have u5 := F.typeCall_set_1 (.ref l)
  refine wpAny_call (codeAny_of_tree (show wpAny _ _ (callAny (.type "set") _) _ _ _ from wpAny_pure ⟨Code.quiet_builtin _ (by decide +kernel), codeAny_builtin F.entry_type_call ?_⟩))
  rw [Around.under_plain (weight_type_call_type "set" [.ref l] []) rfl]
  repeat (any_goals (first | assumption | wp_step))
  refine codeAny_mono (L2.code_set_led1 (.ref l) (E := E) (Q₁ := fun v z => v = .ref s.heap.objs.size ∧ z = { s with heap := s.heap.push (bare w) }) ⟨rfl, rfl⟩) fun r z hr => ?_
  rcases r with e | fl
  · exact hr
  rcases fl with _ | _ | _ | obj
  case ret =>
    obtain ⟨rfl, rfl⟩ := hr
    have atS : (s.heap.push (bare w)).get? s.heap.objs.size = some (bare w) := Heap.get?_push_size _ rfl
    have ty : Shared.TypeIs { s with heap := s.heap.push (bare w) } (.ref s.heap.objs.size) "set" := ⟨_, atS, rfl⟩
    have u6 := F.called_set.init.lookup; have u7 := F.called_set.init.bind (.ref s.heap.objs.size)
    repeat (any_goals (first | assumption | wp_step))
    refine codeAny_mono (codeAny_call_builtin (R := wants (fun r z => r = .none ∧ ∃ h' tk, z = { s with heap := h', toks := tk } ∧ SetX (strKind P w) h' s.heap.objs.size (fun k => decide (k ∈ xs)) (met xs xs.length) ∧ ∀ b o, s.heap.get? b = some o → h'.get? b = some o) E)
      F.called_set.init.plain F.entry_set_init (check_set_init_1 ty ?_)) fun r z hr => ?_
    · obtain ⟨⟨cls, dd, dt, sl⟩, ol, oc, nl, od⟩ := hl
      simp only at oc od
      subst oc od
      have ol1 : (s.heap.push (bare w)).get? l = some { cls := .type "tuple", dict := dd, data := .seq items nl, slots := sl } := Heap.get?_push_of_some _ ol
      have v1 := F.sub_tuple_set; have v2 := F.sub_tuple_frozenset; have v3 : (Value.type "tuple" == Value.type "dict") = false := by decide
      have hl1 : (s.heap.push (bare w)).IsTuple l items := ⟨_, ol1, rfl, nl, rfl⟩
      have below : l < s.heap.objs.size := Heap.lt_size ol
      have up : (s.heap.push (bare w)).objs.size = s.heap.objs.size + 1 := Heap.size_push ..
      unfold Builtin.«set.__init__» noKeywords Builtin.Frozenset.updateFrom
      generalize it : pyIter = it0
      wp_walk
      subst it
      refine wpAny_pyIter_tuple hl1 (wpAny_bind (wpAny_runValue ?_))
      have calm3 : A.in1.in1.in1.handled = none := by simp [calm]
      have ne : l ≠ (s.heap.push (bare w)).objs.size := up ▸ Nat.ne_of_lt (Nat.lt_succ_of_lt below)
      have out : s.heap.objs.size ∉ [(s.heap.push (bare w)).objs.size, l] := by
        intro m
        rcases List.mem_cons.mp m with e | m
        · exact Nat.ne_of_lt (Nat.lt_succ_self _) (e.trans up)
        · exact Nat.ne_of_gt below (List.mem_singleton.mp m)
      have val : ∀ (i : Nat) (v : Value), items[i]? = some v → ∃ t, v = .str (xs.getD i Str.empty) t := fun i v hv => SS.strs_at hi i v (by rw [Array.getElem?_toList]; exact hv)
      refine loop_x ((Walks.tuple calm3 _ l ne items).toS) s.heap.objs.size out xs size.symm (by rw [size]; exact few) val items.size 0 _ (Nat.zero_add _).symm ⟨⟨_, Heap.get?_push_size _ rfl, rfl, rfl⟩, hl1.push _⟩ ?_ fun z mv X => ?_
      · have q := setX_bare (P := P) (Heap.get?_push_of_some { cls := .type "tuple_iterator", data := .fields #[.ref l, .int 0 0] } atS)
        have e : (fun _ => false) = fun k : Str => decide (k ∈ xs.take 0) := by
          funext k
          simp
        rw [e] at q
        exact q
      · obtain ⟨h', g', d', tk', os'⟩ := z
        obtain rfl : g' = s.gens := mv.gens
        obtain rfl : d' = s.drawn := mv.drawn
        obtain rfl : os' = s.os := mv.os
        refine (show wpAny _ _ _ _ _ _ from wpAny_pure (show wpAny _ _ (ret Value.none) _ _ _ from wpAny_pure ⟨rfl, h', tk', rfl, ?_, fun b o e => ?_⟩))
        · rw [size] at X
          exact X
        · have lb := Heap.lt_size e
          refine mv.heap b o (fun m => ?_) (Heap.get?_push_of_some _ (Heap.get?_push_of_some _ e))
          rcases List.mem_cons.mp m with e | m
          · exact Nat.ne_of_lt lb e
          · exact Nat.ne_of_lt (Nat.lt_succ_of_lt lb) ((List.mem_singleton.mp m).trans up)
    · rcases r with e | fl
      · exact hr
      rcases fl with _ | _ | _ | v
      case ret =>
        obtain ⟨rfl, h', tk, rfl, X, k⟩ := hr
        repeat (any_goals (first | assumption | wp_step))
        exact fin h' tk X k
      all_goals exact hr.elim
  all_goals exact hr.elim
end
end Sx

set_option Elab.async false
set_option linter.all false
set_option maxRecDepth 100000
set_option maxHeartbeats 4000000
/-! Own layer, part S4: sets of texts as rules: set(xs), len, sorted. -/
namespace Sx
open PySem PySem.Spec PyProof.Rows L2
/-- the set of texts at a -/
def SetXO (P : Program) (w : World) (a : Addr) (S : Str → Bool) (n : Nat) : HO := .ext fun h => SetX (strKind P w) h a S n
theorem setXO_new {P : Program} {w : World} {H : Hp} {h : Heap} {a : Addr} {S : Str → Bool} {n : Nat} (X : SetX (strKind P w) h a S n) : ObjOk P w H h a (SetXO P w a S n) := by
  have ⟨o, es, ep, t, ⟨i, j⟩, rest⟩ := X
  exact ⟨X, ⟨o, i⟩, fun h1 h2 p k => SetX.keep p k⟩
theorem textsAre : ∀ {ys : List Str} {us : List Value}, Vals (ys.map V.str) us → StrsAre us ys := fun r => L2.strsAre_of r
section
variable {X : Cx}
def rSetOfS (K : PySem.W.Frag) (P : Program) (w : World) : List V → Hp → VK → Prop := fun xs H Q => ∃ (l : Addr) (ts : List Str), xs = [V.ref l] ∧ (SqL K H l (ts.map V.str) ∨ SqT K H l (ts.map V.str)) ∧ ts.length + 1 < scanBound ∧
  ∀ a, H a = none → Q (.ref a) (upd H a (SetXO P w a (fun k => decide (k ∈ ts)) (met ts ts.length)))
theorem cr_setOfS (hc : X.calm = true) : CallR X (.type "set") (rSetOfS X.K X.prog X.w) := by
  intro pins s σ H xs us Q I r h
  obtain ⟨l, ts, rfl, hq, few, go⟩ := h
  rw [Vals.ref1 r]
  have fin : ∀ (h' : Heap) (tk : Nat), SetX (strKind X.prog X.w) h' s.heap.objs.size (fun k => decide (k ∈ ts)) (met ts ts.length) → (∀ b o, s.heap.get? b = some o → h'.get? b = some o) → EP X pins σ Q (.ref s.heap.objs.size) { s with heap := h', toks := tk } :=
    fun h' tk Y k => ⟨.ref _, _, I.laid (t' := tk) (fun b o e => k b o e) (Nat.le_refl _) (setXO_new Y), rfl, go _ (I.hok.fresh (Nat.le_refl _))⟩
  rcases hq with hq | hq
  · obtain ⟨its, rv, pl, _⟩ := I.list hq
    exact call_set_list (I.ok.hd hc) pl.isList (by simpa using textsAre rv) few fin
  · obtain ⟨its, rv, pl, _⟩ := I.tuple hq
    exact call_set_tuple (I.ok.hd hc) pl (by simpa using textsAre rv) few fin
def rLenX (P : Program) (w : World) : List V → Hp → VK → Prop := fun xs H Q => ∃ (a : Addr) (S : Str → Bool) (n : Nat), xs = [V.ref a] ∧ H a = some (SetXO P w a S n) ∧ Q (.int (n : Int)) H
theorem cr_lenX : CallR X (.builtin "len") (rLenX X.prog X.w) := by
  intro pins s σ H xs us Q I r h
  obtain ⟨a, S, n, rfl, ha, go⟩ := h
  rw [Vals.ref1 r]
  obtain ⟨o, es, ep, t, ⟨i1, i2, i3⟩, _, ⟨k1, k2, k3⟩, _⟩ := (I.hok a _ ha).1
  have z : (es.size : Int) < 2 ^ 63 := by
    have : scanBound ≤ 2 ^ 62 := by decide
    omega
  exact call_len_set i1 i2 i3 k2 z ⟨.int (n : Int), H, I.tok _, ⟨_, by rw [k3]⟩, go⟩
/-- the rows' texts -/
theorem rows_texts {P : Program} {w : World} {S : Str → Bool} {l : List (Int × Value)} (has : Has (strKind P w) S l) : StrsAre (l.map (·.2)) (l.map fun e => PyProof.Rows.strOf e.2) ∧ (l.map fun e => PyProof.Rows.strOf e.2).Nodup ∧ ∀ k, k ∈ l.map (fun e => PyProof.Rows.strOf e.2) ↔ S k = true := by
  have shape : ∀ e ∈ l, ∃ t, e.2 = Value.str (PyProof.Rows.strOf e.2) t := fun e he => by
    obtain ⟨⟨k, h, _⟩, _⟩ := has.1 e he
    obtain ⟨t, z⟩ := Value.isStrOf_shape h
    exact ⟨t, by rw [z]; rfl⟩
  have own : ∀ e ∈ l, (strKind P w).is (PyProof.Rows.strOf e.2) e.2 = true := fun e he => by
    obtain ⟨t, z⟩ := shape e he
    have q := strKind_is P w (PyProof.Rows.strOf e.2) t
    rw [← z] at q
    exact q
  refine ⟨?_, ?_, fun k => ?_⟩
  · have q := PyProof.Rows.strsAre_map (l.map (·.2)) fun v hv => by
      obtain ⟨e, he, rfl⟩ := List.mem_map.mp hv
      obtain ⟨t, z⟩ := shape e he
      exact ⟨_, t, z⟩
    rwa [List.map_map] at q
  · refine List.pairwise_map.mpr (List.Pairwise.imp_of_mem (fun {e f} he hf c z => ?_) has.2.1)
    exact c _ ⟨own e he, by rw [z]; exact own f hf⟩
  · rw [has.2.2 k, List.mem_map]
    constructor
    · rintro ⟨e, he, rfl⟩
      exact ⟨e, he, own e he⟩
    · rintro ⟨e, he, h⟩
      obtain ⟨t, z⟩ := Value.isStrOf_shape h
      exact ⟨e, he, by rw [z]; rfl⟩
theorem sorted_x {P : Program} {w : World} {A : Around} {E : Value → Shared → Prop} {s : Shared} {a : Addr} {S : Str → Bool} {n : Nat} {Q : Value → Shared → Prop} (Y : SetX (strKind P w) s.heap a S n) (calm : A.handled = none) (few : n < 64)
    (fin : ∀ s' p (out : Array Value) (c : Nat) (ys : List Str), (∀ b o, s.heap.get? b = some o → s'.heap.get? b = some o) → s'.gens = s.gens → s'.os = s.os → s.heap.objs.size ≤ p → s'.heap.get? p = some (seqObj "list" out c) →
      StrsAre out.toList ys → sortedS ys = true → ys.Nodup → (∀ k, k ∈ ys ↔ S k = true) → ys.length = n → Q (.ref p) s') : wpAny (model P w) A (call (.builtin "sorted") [.ref a]) Q E s := by
  obtain ⟨o, es, ep, t, ⟨i1, i2, i3⟩, has, ⟨k1, k2, k3⟩, wk⟩ := Y
  obtain ⟨r1, r2, r3⟩ := rows_texts has
  refine Calls.call_function_entry kind_sorted plain_sorted entry_sorted (args_sorted1 (.ref a)) ?_; unfold Builtin.«sorted»
  refine wpAny_bind (m := checkCount "sorted" 1 1 _) (wpAny_pure ?_); refine wpAny_bind (L2.collect_set (A := A.in1) calm ⟨o, i1, i2.1, i3⟩ k2 k1 wk.1 wk.2 fun s1 vs keep sz g1 o1 pm => ?_)
  have vn : vs.length = n := by rw [pm.length_eq, List.length_map, Array.length_toList]; exact k3
  have texts : StrsAre vs (vs.map PyProof.Rows.strOf) := PyProof.Rows.strsAre_map vs fun v hv => by
    obtain ⟨e, he, rfl⟩ := List.mem_map.mp (pm.mem_iff.mp hv)
    obtain ⟨⟨k, h, _⟩, _⟩ := has.1 e he
    obtain ⟨t, z⟩ := Value.isStrOf_shape h
    exact ⟨k, t, z⟩
  have pt : (vs.map PyProof.Rows.strOf).Perm (es.toList.map fun e => PyProof.Rows.strOf e.2) := by
    have q := pm.map PyProof.Rows.strOf
    rwa [List.map_map] at q
  have atL : (s1.heap.push (seqObj "list" vs.toArray 0)).get? s1.heap.objs.size = some (seqObj "list" vs.toArray 0) := Heap.get?_push_size _ rfl
  refine wpAny_bind (wpAny_newList ?_ (by rw [vn, sizeLine_eq]; omega)); refine wpAny_bind (wpAny_holding (wpAny_call_entry slot_list_sort ⟨_, atL, rfl⟩ entry_list_sort ?_ (args_list_sort _)))
  refine list_sort_treeK strKind_oneLt atL texts.keysOf (fun v1 v2 rest e => keyKind_strs (by rw [← e]; exact texts)) (by omega) fun st p1 p2 => ⟨_, rfl, ?_⟩
  obtain ⟨ys, y1, y2, y3⟩ := sorted_out_str texts p1 p2
  obtain ⟨c, hc⟩ := sortedHeap_at (vs := vs) (out := (arrOf st).map (·.2)) atL
  have py := y2.trans pt
  refine wpAny_pure ⟨_, rfl, fin _ s1.heap.objs.size _ c ys (fun b u e => ?_) g1 o1 sz hc y1 y3 (py.nodup_iff.mpr r2) (fun k => by rw [py.mem_iff]; exact r3 k) (by rw [py.length_eq, List.length_map, Array.length_toList]; exact k3)⟩
  have q := keep b u e
  have lt := Heap.lt_size q
  refine (show (sortedHeap (s1.heap.push (seqObj "list" vs.toArray 0)) s1.heap.objs.size vs ((arrOf st).map (·.2))).get? b = some u from ?_)
  rw [sortedHeap_old (Nat.ne_of_lt lt) (by rw [size_push']; exact Nat.lt_succ_of_lt lt)]
  exact Heap.get?_push_of_some _ q
/-- sorted(a set of texts) -/
def rSortedX (P : Program) (w : World) : List V → Hp → VK → Prop := fun xs H Q => ∃ (a : Addr) (S : Str → Bool) (n : Nat), xs = [V.ref a] ∧ H a = some (SetXO P w a S n) ∧ n < 64 ∧
  ∀ (ys : List Str) (p : Addr), sortedS ys = true → ys.Nodup → (∀ k, k ∈ ys ↔ S k = true) → ys.length = n → H p = none → Q (.ref p) (upd H p (.lst (ys.map V.str)))
theorem cr_sortedX (hc : X.calm = true) : CallR X (.builtin "sorted") (rSortedX X.prog X.w) := by
  intro pins s σ H xs us Q I r h
  obtain ⟨a, S, n, rfl, ha, few, go⟩ := h
  rw [Vals.ref1 r]
  refine sorted_x (I.hok a _ ha).1 (I.ok.hd hc) few fun s' p out c ys k g o hp hg y1 y2 y3 y4 y5 => ?_
  have len : (ys.map V.str).length ≤ sizeLine := by rw [List.length_map, y5, sizeLine_eq]; omega
  have free : H p = none := I.hok.fresh hp
  have J : Inv X pins σ (upd H p (.lst (ys.map V.str))) { s with heap := s'.heap, gens := s'.gens, drawn := s'.drawn, toks := s'.toks } := I.call (ch := []) (Un.laid k hp free) (I.hok.laid k hp ⟨len, out.toList, c, L2.vals_of_strs y1, hg⟩) (by rw [g]; exact I.bare) (fun _ z => nomatch z)
  have e : s' = { s with heap := s'.heap, gens := s'.gens, drawn := s'.drawn, toks := s'.toks } := by
    rcases s' with ⟨_, _, _, _, _⟩
    rcases s with ⟨_, _, _, _, _⟩
    cases o
    rfl
  rw [e]
  exact ⟨.ref p, _, J, rfl, go ys p y2 y3 y4 y5 free⟩
end
end Sx

set_option Elab.async false
set_option linter.all false
set_option maxRecDepth 100000
set_option maxHeartbeats 4000000
/-! Own layer, part E1: == and != of tuples and lists, whatever the items answer (made by gen_sea.py). -/
namespace Se
open PySem PySem.SeqAt
open AutoSeq1 (wpAny_loadPart')
open MeetsSeq MeetsSeq2 MeetsSeq3 SeqRoads2 GQ
section
variable {prog : Program} {w : World} {A : Around} {R : Result → Shared → Prop}
theorem tuple_eq_any (l b : Addr) (its its2 : Array Value) (n n2 : Nat) (dd dd2 : Option Addr) (sl sl2 : Array (Option Value)) (I : Nat → Shared → Prop)
    (turn : ∀ i (h1 : i < its.size) (h2 : i < its2.size) s, I i s → wpAny (model prog w) A.in1 (eqBool its[i] its2[i]) (fun r s' => (r = true ∧ I (i + 1) s') ∨ (r = false ∧ R (.ok (.ret (.bool false))) s')) (fun e s' => R (.error e) s') s)
    (fin : ∀ s, I (min its.size its2.size) s → R (.ok (.ret (.bool (its.size == its2.size)))) s) {s : Shared} (at1 : s.heap.get? l = some { cls := .type "tuple", dict := dd, data := .seq its n, slots := sl })
    (at2 : s.heap.get? b = some { cls := .type "tuple", dict := dd2, data := .seq its2 n2, slots := sl2 }) (h : I 0 s) :
    wpAny (model prog w) A.in1 (Builtin.«tuple.__eq__» ⟨[.ref l, .ref b], []⟩) (FinOf prog w A R) (fun e s' => R (.error e) s') s := by
  have sub := AutoSeq1.sub_tuple_tuple
  have many : (its.toList.zip its2.toList).length = min its.size its2.size := by simp
  have h0 := h
  obtain ⟨hp, g, d, tk, os⟩ := s
  wp_walk using wpAny_loadPart' at1, wpAny_loadPart' at2, wpAny_forIn_list _ (fun rest b s' => b.1 = none ∧ ∃ i, rest = (its.toList.zip its2.toList).drop i ∧ i ≤ min its.size its2.size ∧ I i s') _
  case turn =>
    rintro ⟨y, x⟩ rest b s' ⟨none_, i, e, hi, hI⟩
    have lt : i < (its.toList.zip its2.toList).length := by
      refine Nat.lt_of_not_le fun le => ?_
      rw [List.drop_of_length_le le] at e
      cases e
    have lt' := lt
    rw [many] at lt'
    rw [List.drop_eq_getElem_cons lt] at e
    injection e with e1 e2
    obtain rfl : y = its[i]'(by omega) := by simpa using congrArg Prod.fst e1
    obtain rfl : x = its2[i]'(by omega) := by simpa using congrArg Prod.snd e1
    refine wpAny_bind (wpAny_mono (turn i (by omega) (by omega) s' hI) (fun r z q => ?_) fun _ _ x => x)
    rcases q with ⟨rfl, q⟩ | ⟨rfl, q⟩
    · wp_walk
      exact ⟨rfl, i + 1, e2, by omega, q⟩
    · wp_walk
      exact q
  case fin =>
    rintro ⟨b1, b2⟩ s' ⟨none_, i, e, hi, hI⟩
    simp only at none_
    subst none_
    have ge : min its.size its2.size ≤ i := by
      refine Nat.le_of_not_lt fun lt => ?_
      rw [List.drop_eq_getElem_cons (by rw [many]; exact lt)] at e
      cases e
    obtain rfl : i = min its.size its2.size := by omega
    have hR := fin s' hI
    wp_walk
    simpa [Builtin.Tuple.tupleCompareSizes] using hR
  case h => exact ⟨rfl, 0, rfl, Nat.zero_le _, h0⟩
theorem tuple_ne_any (l b : Addr) (its its2 : Array Value) (n n2 : Nat) (dd dd2 : Option Addr) (sl sl2 : Array (Option Value)) (I : Nat → Shared → Prop)
    (turn : ∀ i (h1 : i < its.size) (h2 : i < its2.size) s, I i s → wpAny (model prog w) A.in1 (eqBool its[i] its2[i]) (fun r s' => (r = true ∧ I (i + 1) s') ∨ (r = false ∧ R (.ok (.ret (.bool true))) s')) (fun e s' => R (.error e) s') s)
    (fin : ∀ s, I (min its.size its2.size) s → R (.ok (.ret (.bool (its.size != its2.size)))) s) {s : Shared} (at1 : s.heap.get? l = some { cls := .type "tuple", dict := dd, data := .seq its n, slots := sl })
    (at2 : s.heap.get? b = some { cls := .type "tuple", dict := dd2, data := .seq its2 n2, slots := sl2 }) (h : I 0 s) :
    wpAny (model prog w) A.in1 (Builtin.«tuple.__ne__» ⟨[.ref l, .ref b], []⟩) (FinOf prog w A R) (fun e s' => R (.error e) s') s := by
  have sub := AutoSeq1.sub_tuple_tuple
  have many : (its.toList.zip its2.toList).length = min its.size its2.size := by simp
  have h0 := h
  obtain ⟨hp, g, d, tk, os⟩ := s
  wp_walk using wpAny_loadPart' at1, wpAny_loadPart' at2, wpAny_forIn_list _ (fun rest b s' => b.1 = none ∧ ∃ i, rest = (its.toList.zip its2.toList).drop i ∧ i ≤ min its.size its2.size ∧ I i s') _
  case turn =>
    rintro ⟨y, x⟩ rest b s' ⟨none_, i, e, hi, hI⟩
    have lt : i < (its.toList.zip its2.toList).length := by
      refine Nat.lt_of_not_le fun le => ?_
      rw [List.drop_of_length_le le] at e
      cases e
    have lt' := lt
    rw [many] at lt'
    rw [List.drop_eq_getElem_cons lt] at e
    injection e with e1 e2
    obtain rfl : y = its[i]'(by omega) := by simpa using congrArg Prod.fst e1
    obtain rfl : x = its2[i]'(by omega) := by simpa using congrArg Prod.snd e1
    refine wpAny_bind (wpAny_mono (turn i (by omega) (by omega) s' hI) (fun r z q => ?_) fun _ _ x => x)
    rcases q with ⟨rfl, q⟩ | ⟨rfl, q⟩
    · wp_walk
      exact ⟨rfl, i + 1, e2, by omega, q⟩
    · wp_walk
      exact q
  case fin =>
    rintro ⟨b1, b2⟩ s' ⟨none_, i, e, hi, hI⟩
    simp only at none_
    subst none_
    have ge : min its.size its2.size ≤ i := by
      refine Nat.le_of_not_lt fun lt => ?_
      rw [List.drop_eq_getElem_cons (by rw [many]; exact lt)] at e
      cases e
    obtain rfl : i = min its.size its2.size := by omega
    have hR := fin s' hI
    wp_walk
    simpa [Builtin.Tuple.tupleCompareSizes] using hR
  case h => exact ⟨rfl, 0, rfl, Nat.zero_le _, h0⟩
/-- N items each at every turn, and what the i-th two answer -/
def Turns (prog : Program) (w : World) (A : Around) (R : Result → Shared → Prop) (diff : Bool) (l b : Addr) (N : Nat) (I : Nat → Shared → Prop) : Prop :=
  ∀ i s, I i s → ∃ (its its2 : Array Value) (n n2 : Nat), s.heap.get? l = some { cls := .type "list", data := .seq its n } ∧ s.heap.get? b = some { cls := .type "list", data := .seq its2 n2 } ∧ its.size = N ∧ its2.size = N ∧
    ∀ (h1 : i < its.size) (h2 : i < its2.size), wpAny (model prog w) A.in1 (eqBool its[i] its2[i]) (fun r s' => (r = true ∧ I (i + 1) s') ∨ (r = false ∧ R (.ok (.ret (.bool diff))) s' ∧ ∃ (us us2 : Array Value) (m m2 : Nat), s'.heap.get? l = some { cls := .type "list", data := .seq us m } ∧ s'.heap.get? b = some { cls := .type "list", data := .seq us2 m2 } ∧ us.size = N ∧ us2.size = N)) (fun e s' => R (.error e) s') s
theorem loop_eq (l b : Addr) (N : Nat) (I : Nat → Shared → Prop) (tu : Turns prog w A R false l b N I) (fin : ∀ s, I N s → R (.ok (.ret (.bool true))) s) (k : Nat) : ∀ i : Nat, N = i + k → ∀ s, I i s →
    wpAny (model prog w) A.in1 (Builtin.«list.__eq__.loop» ⟨[.ref l, .ref b, rawInt i, rawInt 2], []⟩) (FinOf prog w A R) (fun e s' => R (.error e) s') s := by
  induction k with
  | zero =>
    intro i e s h
    obtain rfl : N = i := e
    obtain ⟨its, its2, n, n2, at1, at2, z1, z2, _⟩ := tu _ _ h
    have hR := fin s h
    obtain ⟨hp, g, d, tk, os⟩ := s
    wp_walk using wpAny_loadPart' at1, wpAny_loadPart' at2
    have o1 : its[((N : Nat) : Int).toNat]? = none := by simp [z1]
    have o2 : its2[((N : Nat) : Int).toNat]? = none := by simp [z2]
    rw [o1, o2]
    wp_walk using wpAny_loadPart' at1, wpAny_loadPart' at2
    refine (show R (.ok (.ret (.bool (its.size == its2.size)))) _ from ?_)
    rw [z1, z2]
    simpa using hR
  | succ k ih =>
    intro i e s h
    obtain ⟨its, its2, n, n2, at1, at2, z1, z2, turn⟩ := tu _ _ h
    have lt1 : i < its.size := by omega
    have lt2 : i < its2.size := by omega
    have ht := turn lt1 lt2
    obtain ⟨hp, g, d, tk, os⟩ := s
    wp_walk using wpAny_loadPart' at1, wpAny_loadPart' at2
    have o1 : its[((i : Nat) : Int).toNat]? = some its[i] := by simp [lt1]
    have o2 : its2[((i : Nat) : Int).toNat]? = some its2[i] := by simp [lt2]
    rw [o1, o2]
    refine wpAny_bind (wpAny_mono ht (fun r z q => ?_) fun _ _ x => x)
    rcases q with ⟨rfl, q⟩ | ⟨rfl, q, us, us2, m, m2, b1, b2, y1, y2⟩
    · have rec_ := ih (i + 1) (by omega) z q
      obtain ⟨hp2, g2, d2, tk2, os2⟩ := z
      wp_walk
      rw [show ((i : Int) + 1) = ((i + 1 : Nat) : Int) by omega]
      exact ⟨plainId_quiet plain_eq_loop _, codeAny_builtin entry_eq_loop (by rw [Around.under_plainId plain_eq_loop _]; exact rec_)⟩
    · obtain ⟨hp2, g2, d2, tk2, os2⟩ := z
      wp_walk using wpAny_loadPart' b1, wpAny_loadPart' b2
      have p1 : us[((i : Nat) : Int).toNat]? = some (us[i]'(by omega)) := by simp
      have p2 : us2[((i : Nat) : Int).toNat]? = some (us2[i]'(by omega)) := by simp
      rw [p1, p2]
      wp_walk
      exact q
theorem list_eq_any (l b : Addr) (N : Nat) (I : Nat → Shared → Prop) (tu : Turns prog w A R false l b N I) (fin : ∀ s, I N s → R (.ok (.ret (.bool true))) s) {s : Shared} (h : I 0 s) :
    wpAny (model prog w) A.in1 (Builtin.«list.__eq__» ⟨[.ref l, .ref b], []⟩) (FinOf prog w A R) (fun e s' => R (.error e) s') s := by
  obtain ⟨its, its2, n, n2, at1, at2, z1, z2, _⟩ := tu _ _ h
  have rec_ := loop_eq (A := A) (R := R) l b N I tu fin N 0 (Nat.zero_add N).symm s h
  obtain ⟨hp, g, d, tk, os⟩ := s
  have sub := AutoSeq1.sub_list_list
  have ne : ¬ (its.size != its2.size) = true := by simp [z1, z2]
  wp_walk using wpAny_loadPart' at1, wpAny_loadPart' at2
  exact ⟨plainId_quiet plain_eq_loop _, codeAny_builtin entry_eq_loop (by rw [Around.under_plainId plain_eq_loop _]; exact rec_)⟩
theorem list_eq_len (l b : Addr) (its its2 : Array Value) (n n2 : Nat) (dd dd2 : Option Addr) (sl sl2 : Array (Option Value)) (ne : its.size ≠ its2.size) {s : Shared} (at1 : s.heap.get? l = some { cls := .type "list", dict := dd, data := .seq its n, slots := sl })
    (at2 : s.heap.get? b = some { cls := .type "list", dict := dd2, data := .seq its2 n2, slots := sl2 }) (fin : R (.ok (.ret (.bool false))) s) :
    wpAny (model prog w) A.in1 (Builtin.«list.__eq__» ⟨[.ref l, .ref b], []⟩) (FinOf prog w A R) (fun e s' => R (.error e) s') s := by
  obtain ⟨hp, g, d, tk, os⟩ := s
  have sub := AutoSeq1.sub_list_list
  have ne' : (its.size != its2.size) = true := by simpa using ne
  wp_walk using wpAny_loadPart' at1, wpAny_loadPart' at2
  exact fin
theorem loop_ne (l b : Addr) (N : Nat) (I : Nat → Shared → Prop) (tu : Turns prog w A R true l b N I) (fin : ∀ s, I N s → R (.ok (.ret (.bool false))) s) (k : Nat) : ∀ i : Nat, N = i + k → ∀ s, I i s →
    wpAny (model prog w) A.in1 (Builtin.«list.__eq__.loop» ⟨[.ref l, .ref b, rawInt i, rawInt 3], []⟩) (FinOf prog w A R) (fun e s' => R (.error e) s') s := by
  induction k with
  | zero =>
    intro i e s h
    obtain rfl : N = i := e
    obtain ⟨its, its2, n, n2, at1, at2, z1, z2, _⟩ := tu _ _ h
    have hR := fin s h
    obtain ⟨hp, g, d, tk, os⟩ := s
    wp_walk using wpAny_loadPart' at1, wpAny_loadPart' at2
    have o1 : its[((N : Nat) : Int).toNat]? = none := by simp [z1]
    have o2 : its2[((N : Nat) : Int).toNat]? = none := by simp [z2]
    rw [o1, o2]
    wp_walk using wpAny_loadPart' at1, wpAny_loadPart' at2
    refine (show R (.ok (.ret (.bool (its.size != its2.size)))) _ from ?_)
    rw [z1, z2]
    simpa using hR
  | succ k ih =>
    intro i e s h
    obtain ⟨its, its2, n, n2, at1, at2, z1, z2, turn⟩ := tu _ _ h
    have lt1 : i < its.size := by omega
    have lt2 : i < its2.size := by omega
    have ht := turn lt1 lt2
    obtain ⟨hp, g, d, tk, os⟩ := s
    wp_walk using wpAny_loadPart' at1, wpAny_loadPart' at2
    have o1 : its[((i : Nat) : Int).toNat]? = some its[i] := by simp [lt1]
    have o2 : its2[((i : Nat) : Int).toNat]? = some its2[i] := by simp [lt2]
    rw [o1, o2]
    refine wpAny_bind (wpAny_mono ht (fun r z q => ?_) fun _ _ x => x)
    rcases q with ⟨rfl, q⟩ | ⟨rfl, q, us, us2, m, m2, b1, b2, y1, y2⟩
    · have rec_ := ih (i + 1) (by omega) z q
      obtain ⟨hp2, g2, d2, tk2, os2⟩ := z
      wp_walk
      rw [show ((i : Int) + 1) = ((i + 1 : Nat) : Int) by omega]
      exact ⟨plainId_quiet plain_eq_loop _, codeAny_builtin entry_eq_loop (by rw [Around.under_plainId plain_eq_loop _]; exact rec_)⟩
    · obtain ⟨hp2, g2, d2, tk2, os2⟩ := z
      wp_walk using wpAny_loadPart' b1, wpAny_loadPart' b2
      have p1 : us[((i : Nat) : Int).toNat]? = some (us[i]'(by omega)) := by simp
      have p2 : us2[((i : Nat) : Int).toNat]? = some (us2[i]'(by omega)) := by simp
      rw [p1, p2]
      wp_walk
      exact q
theorem list_ne_any (l b : Addr) (N : Nat) (I : Nat → Shared → Prop) (tu : Turns prog w A R true l b N I) (fin : ∀ s, I N s → R (.ok (.ret (.bool false))) s) {s : Shared} (h : I 0 s) :
    wpAny (model prog w) A.in1 (Builtin.«list.__ne__» ⟨[.ref l, .ref b], []⟩) (FinOf prog w A R) (fun e s' => R (.error e) s') s := by
  obtain ⟨its, its2, n, n2, at1, at2, z1, z2, _⟩ := tu _ _ h
  have rec_ := loop_ne (A := A) (R := R) l b N I tu fin N 0 (Nat.zero_add N).symm s h
  obtain ⟨hp, g, d, tk, os⟩ := s
  have sub := AutoSeq1.sub_list_list
  have ne : ¬ (its.size != its2.size) = true := by simp [z1, z2]
  wp_walk using wpAny_loadPart' at1, wpAny_loadPart' at2
  exact ⟨plainId_quiet plain_eq_loop _, codeAny_builtin entry_eq_loop (by rw [Around.under_plainId plain_eq_loop _]; exact rec_)⟩
theorem list_ne_len (l b : Addr) (its its2 : Array Value) (n n2 : Nat) (dd dd2 : Option Addr) (sl sl2 : Array (Option Value)) (ne : its.size ≠ its2.size) {s : Shared} (at1 : s.heap.get? l = some { cls := .type "list", dict := dd, data := .seq its n, slots := sl })
    (at2 : s.heap.get? b = some { cls := .type "list", dict := dd2, data := .seq its2 n2, slots := sl2 }) (fin : R (.ok (.ret (.bool true))) s) :
    wpAny (model prog w) A.in1 (Builtin.«list.__ne__» ⟨[.ref l, .ref b], []⟩) (FinOf prog w A R) (fun e s' => R (.error e) s') s := by
  obtain ⟨hp, g, d, tk, os⟩ := s
  have sub := AutoSeq1.sub_list_list
  have ne' : (its.size != its2.size) = true := by simpa using ne
  wp_walk using wpAny_loadPart' at1, wpAny_loadPart' at2
  exact fin
end
section
variable {prog : Program} {w : World} {A : Around} {E : Value → Shared → Prop} {s : Shared}
theorem rc_tup_eq {l b : Addr} {its its2 : Array Value} {Q : Value → Shared → Prop} (hu : A.units < cLine) (I : Nat → Shared → Prop) (at1 : s.heap.IsTuple l its) (at2 : s.heap.IsTuple b its2)
    (turn : ∀ i (h1 : i < its.size) (h2 : i < its2.size) s, I i s → wpAny (model prog w) A.in1 (eqBool its[i] its2[i]) (fun r s' => (r = true ∧ I (i + 1) s') ∨ (r = false ∧ Q (.bool false) s')) E s)
    (fin : ∀ s, I (min its.size its2.size) s → Q (.bool (its.size == its2.size)) s) (h : I 0 s) : wpAny (model prog w) A (richCompare .Eq (.ref l) (.ref b)) Q E s := by
  obtain ⟨⟨c1, dd, da, sl⟩, o1, e1, n, f1⟩ := id at1
  obtain ⟨⟨c2, dd2, da2, sl2⟩, o2, e2, n2, f2⟩ := id at2
  simp only at e1 f1 e2 f2
  subst e1 f1 e2 f2
  refine wpAny_richCompare_same_room (op := .Eq) ⟨_, o1, rfl⟩ ⟨_, o2, rfl⟩ F.slot_tuple_eq (call_here F.slot_tuple_eq ⟨_, o1, rfl⟩ F.entry_tuple_eq (F.args_tuple_eq_2 _ _) ?_) hu
  refine tuple_eq_any (R := wants (fun v s' => v ≠ .notImplemented ∧ Q v s') E) l b its its2 n n2 dd dd2 sl sl2 I (fun i h1 h2 s q => wpAny_mono (turn i h1 h2 s q) (fun r z q => ?_) fun _ _ x => x) (fun s' q => ⟨(fun x => nomatch x), fin s' q⟩) o1 o2 h
  exact q.imp id fun ⟨q1, q2⟩ => ⟨q1, (fun x => nomatch x), q2⟩
theorem rc_list_eq {l b : Addr} {N : Nat} {Q : Value → Shared → Prop} (hu : A.units < cLine) (I : Nat → Shared → Prop) (tu : Turns prog w A (wants (fun v s' => v ≠ .notImplemented ∧ Q v s') E) false l b N I)
    (fin : ∀ s, I N s → Q (.bool true) s) (h : I 0 s) : wpAny (model prog w) A (richCompare .Eq (.ref l) (.ref b)) Q E s := by
  obtain ⟨its, its2, n, n2, at1, at2, _, _, _⟩ := tu _ _ h
  refine wpAny_richCompare_same_room (op := .Eq) ⟨_, at1, rfl⟩ ⟨_, at2, rfl⟩ F.slot_list_eq (call_here F.slot_list_eq ⟨_, at1, rfl⟩ F.entry_list_eq (F.args_list_eq_2 _ _) ?_) hu
  exact list_eq_any (R := wants (fun v s' => v ≠ .notImplemented ∧ Q v s') E) l b N I tu (fun s' q => ⟨(fun x => nomatch x), fin s' q⟩) h
theorem rc_list_len_eq {l b : Addr} {its its2 : Array Value} {Q : Value → Shared → Prop} (hu : A.units < cLine) (ne : its.size ≠ its2.size) (at1 : s.heap.IsList l its) (at2 : s.heap.IsList b its2) (fin : Q (.bool false) s) : wpAny (model prog w) A (richCompare .Eq (.ref l) (.ref b)) Q E s := by
  obtain ⟨⟨c1, dd, da, sl⟩, o1, e1, n, f1⟩ := id at1
  obtain ⟨⟨c2, dd2, da2, sl2⟩, o2, e2, n2, f2⟩ := id at2
  simp only at e1 f1 e2 f2
  subst e1 f1 e2 f2
  refine wpAny_richCompare_same_room (op := .Eq) ⟨_, o1, rfl⟩ ⟨_, o2, rfl⟩ F.slot_list_eq (call_here F.slot_list_eq ⟨_, o1, rfl⟩ F.entry_list_eq (F.args_list_eq_2 _ _) ?_) hu
  exact list_eq_len (R := wants (fun v s' => v ≠ .notImplemented ∧ Q v s') E) l b its its2 n n2 dd dd2 sl sl2 ne o1 o2 ⟨(fun x => nomatch x), fin⟩
end
section
variable {prog : Program} {w : World} {A : Around} {E : Value → Shared → Prop} {s : Shared}
theorem rc_tup_ne {l b : Addr} {its its2 : Array Value} {Q : Value → Shared → Prop} (hu : A.units < cLine) (I : Nat → Shared → Prop) (at1 : s.heap.IsTuple l its) (at2 : s.heap.IsTuple b its2)
    (turn : ∀ i (h1 : i < its.size) (h2 : i < its2.size) s, I i s → wpAny (model prog w) A.in1 (eqBool its[i] its2[i]) (fun r s' => (r = true ∧ I (i + 1) s') ∨ (r = false ∧ Q (.bool true) s')) E s)
    (fin : ∀ s, I (min its.size its2.size) s → Q (.bool (its.size != its2.size)) s) (h : I 0 s) : wpAny (model prog w) A (richCompare .NotEq (.ref l) (.ref b)) Q E s := by
  obtain ⟨⟨c1, dd, da, sl⟩, o1, e1, n, f1⟩ := id at1
  obtain ⟨⟨c2, dd2, da2, sl2⟩, o2, e2, n2, f2⟩ := id at2
  simp only at e1 f1 e2 f2
  subst e1 f1 e2 f2
  refine wpAny_richCompare_same_room (op := .NotEq) ⟨_, o1, rfl⟩ ⟨_, o2, rfl⟩ F.slot_tuple_ne (call_here F.slot_tuple_ne ⟨_, o1, rfl⟩ F.entry_tuple_ne (F.args_tuple_ne_2 _ _) ?_) hu
  refine tuple_ne_any (R := wants (fun v s' => v ≠ .notImplemented ∧ Q v s') E) l b its its2 n n2 dd dd2 sl sl2 I (fun i h1 h2 s q => wpAny_mono (turn i h1 h2 s q) (fun r z q => ?_) fun _ _ x => x) (fun s' q => ⟨(fun x => nomatch x), fin s' q⟩) o1 o2 h
  exact q.imp id fun ⟨q1, q2⟩ => ⟨q1, (fun x => nomatch x), q2⟩
theorem rc_list_ne {l b : Addr} {N : Nat} {Q : Value → Shared → Prop} (hu : A.units < cLine) (I : Nat → Shared → Prop) (tu : Turns prog w A (wants (fun v s' => v ≠ .notImplemented ∧ Q v s') E) true l b N I)
    (fin : ∀ s, I N s → Q (.bool false) s) (h : I 0 s) : wpAny (model prog w) A (richCompare .NotEq (.ref l) (.ref b)) Q E s := by
  obtain ⟨its, its2, n, n2, at1, at2, _, _, _⟩ := tu _ _ h
  refine wpAny_richCompare_same_room (op := .NotEq) ⟨_, at1, rfl⟩ ⟨_, at2, rfl⟩ F.slot_list_ne (call_here F.slot_list_ne ⟨_, at1, rfl⟩ F.entry_list_ne (F.args_list_ne_2 _ _) ?_) hu
  exact list_ne_any (R := wants (fun v s' => v ≠ .notImplemented ∧ Q v s') E) l b N I tu (fun s' q => ⟨(fun x => nomatch x), fin s' q⟩) h
theorem rc_list_len_ne {l b : Addr} {its its2 : Array Value} {Q : Value → Shared → Prop} (hu : A.units < cLine) (ne : its.size ≠ its2.size) (at1 : s.heap.IsList l its) (at2 : s.heap.IsList b its2) (fin : Q (.bool true) s) : wpAny (model prog w) A (richCompare .NotEq (.ref l) (.ref b)) Q E s := by
  obtain ⟨⟨c1, dd, da, sl⟩, o1, e1, n, f1⟩ := id at1
  obtain ⟨⟨c2, dd2, da2, sl2⟩, o2, e2, n2, f2⟩ := id at2
  simp only at e1 f1 e2 f2
  subst e1 f1 e2 f2
  refine wpAny_richCompare_same_room (op := .NotEq) ⟨_, o1, rfl⟩ ⟨_, o2, rfl⟩ F.slot_list_ne (call_here F.slot_list_ne ⟨_, o1, rfl⟩ F.entry_list_ne (F.args_list_ne_2 _ _) ?_) hu
  exact list_ne_len (R := wants (fun v s' => v ≠ .notImplemented ∧ Q v s') E) l b its its2 n n2 dd dd2 sl sl2 ne o1 o2 ⟨(fun x => nomatch x), fin⟩
end
end Se

set_option Elab.async false
set_option linter.all false
set_option maxRecDepth 100000
set_option maxHeartbeats 4000000
/-! Own layer, part E2: == and != that answer yes or no, over instances, tuples and lists, as rules. -/
namespace Se
open PySem PySem.Spec PyProof.Rows L2
/-- what == answers of two values, by the abstract heap -/
abbrev Ans := V → V → Bool → Hp → Prop
def MonA (D : Ans) : Prop := ∀ x y r H H', Ext H H' → D x y r H → D x y r H'
/-- == gives r, and only makes objects -/
def EqB (X : Cx) (n : Nat) (D : Ans) : Prop :=
  ∀ (A : Around) (pins : List (Addr × Obj)) (s : Shared) (σ : L2.St) (H : Hp) (x y : V) (u v : Value) (r : Bool), Sub X n A → Inv X pins σ H s → RelV x u → RelV y v → D x y r H →
    wpAny (model X.prog X.w) A (eqBool u v) (fun q s' => q = r ∧ LoopI X pins σ H s') X.xe s
/-- a rich comparison gives r, or its opposite -/
def RcB (X : Cx) (n : Nat) (op : CmpOp) (f : Bool → Bool) (D : Ans) : Prop :=
  ∀ (A : Around) (pins : List (Addr × Obj)) (s : Shared) (σ : L2.St) (H : Hp) (x y : V) (u v : Value) (r : Bool), Sub X n A → Inv X pins σ H s → RelV x u → RelV y v → D x y r H →
    wpAny (model X.prog X.w) A (richCompare op u v) (fun q s' => q = .bool (f r) ∧ LoopI X pins σ H s') X.xe s
/-- item by item, up to the first that differs -/
def Its (D : Ans) (H : Hp) : List V → List V → Bool → Prop
  | [], [], r => r = true
  | x :: xs, y :: ys, r => (D x y true H ∧ Its D H xs ys r) ∨ (D x y false H ∧ r = false)
  | [], _ :: _, r => r = false
  | _ :: _, [], r => r = false
theorem Its.mon {D : Ans} (m : MonA D) {H H' : Hp} (e : Ext H H') : ∀ {xs ys : List V} {r : Bool}, Its D H xs ys r → Its D H' xs ys r
  | [], [], _, h => h
  | [], _ :: _, _, h => h
  | _ :: _, [], _, h => h
  | x :: xs, y :: ys, r, h => by
    rcases h with ⟨a, b⟩ | ⟨a, b⟩
    · exact .inl ⟨m _ _ _ _ _ e a, Its.mon m e b⟩
    · exact .inr ⟨m _ _ _ _ _ e a, b⟩
theorem Its.end_ {D : Ans} {H : Hp} : ∀ {xs ys : List V} {r : Bool} (n : Nat), n = min xs.length ys.length → Its D H (xs.drop n) (ys.drop n) r → r = (xs.length == ys.length)
  | [], [], r, n, e, h => by
    rw [List.drop_nil] at h
    exact h
  | [], y :: ys, r, n, e, h => by
    obtain rfl : n = 0 := by simpa using e
    exact h
  | x :: xs, [], r, n, e, h => by
    obtain rfl : n = 0 := by simpa using e
    exact h
  | x :: xs, y :: ys, r, n, e, h => by
    obtain ⟨k, rfl⟩ : ∃ k, n = k + 1 := ⟨min xs.length ys.length, by simp at e; omega⟩
    have q := Its.end_ (xs := xs) (ys := ys) (r := r) k (by simp at e; omega) h
    rw [q]
    simp
section
variable {X : Cx} {n m : Nat} {D D' : Ans}
theorem EqB.mono (h : EqB X n D) (hn : n ≤ m) : EqB X m D := fun A pins s σ H x y u v r sb => h A pins s σ H x y u v r (sb.mono hn)
theorem EqB.or (h : EqB X n D) (h' : EqB X n D') : EqB X n (fun x y r H => D x y r H ∨ D' x y r H) := fun A pins s σ H x y u v r sb I rx ry d =>
  d.elim (h A pins s σ H x y u v r sb I rx ry) (h' A pins s σ H x y u v r sb I rx ry)
theorem EqB.imp (h : EqB X n D) (i : ∀ x y r H, D' x y r H → D x y r H) : EqB X n D' := fun A pins s σ H x y u v r sb I rx ry d => h A pins s σ H x y u v r sb I rx ry (i x y r H d)
theorem MonA.or (h : MonA D) (h' : MonA D') : MonA (fun x y r H => D x y r H ∨ D' x y r H) := fun x y r H H' e d => d.imp (h x y r H H' e) (h' x y r H H' e)
/-- flat values -/
def AFlat : Ans := fun x y r _ => flatV x = true ∧ flatV y = true ∧ eqV x y = r
theorem mon_aflat : MonA AFlat := fun _ _ _ _ _ _ d => d
theorem eqB_flat : EqB X 0 AFlat := by
  intro A pins s σ H x y u v r sb I rx ry ⟨fx, fy, e⟩
  have q := eqAt_V (A := A) (s := s) rx ry fx fy
  rw [e] at q
  exact q X.prog X.w X.xe _ ⟨rfl, H, I, Ext.rfl'⟩
/-- one turn: the i-th items -/
theorem turn_any (mo : MonA D) (h : EqB X n D) {A : Around} (sb : Sub X (n + 1) A) {pins : List (Addr × Obj)} {σ : L2.St} {H : Hp} {xs ys : List V} {its its2 : List Value} {r : Bool} (v1 : Vals xs its) (v2 : Vals ys its2) {i : Nat} (h1 : i < its.toArray.size)
    (h2 : i < its2.toArray.size) {s' : Shared} (l : LoopI X pins σ H s') (p : Its D H (xs.drop i) (ys.drop i) r) :
    wpAny (model X.prog X.w) A.in1 (eqBool its.toArray[i] its2.toArray[i]) (fun q s2 => (q = true ∧ LoopI X pins σ H s2 ∧ Its D H (xs.drop (i + 1)) (ys.drop (i + 1)) r) ∨ (q = false ∧ LoopI X pins σ H s2 ∧ r = false)) X.xe s' := by
  obtain ⟨H1, I1, e1⟩ := l
  have l1 : i < its.length := by simpa using h1
  have l2 : i < its2.length := by simpa using h2
  have k1 : i < xs.length := by rw [v1.length]; exact l1
  have k2 : i < ys.length := by rw [v2.length]; exact l2
  obtain ⟨u, hu, ru⟩ := v1.get (List.getElem?_eq_getElem k1)
  obtain ⟨v, hv, rv⟩ := v2.get (List.getElem?_eq_getElem k2)
  obtain rfl : its.toArray[i] = u := by
    rw [List.getElem?_eq_getElem l1] at hu
    simpa using hu
  obtain rfl : its2.toArray[i] = v := by
    rw [List.getElem?_eq_getElem l2] at hv
    simpa using hv
  rw [List.drop_eq_getElem_cons k1, List.drop_eq_getElem_cons k2] at p
  have step : ∀ {t : Bool}, D xs[i] ys[i] t H → wpAny (model X.prog X.w) A.in1 (eqBool its.toArray[i] its2.toArray[i]) (fun q s2 => q = t ∧ LoopI X pins σ H s2) X.xe s' := fun {t} d =>
    wpAny_mono (h A.in1 pins s' σ H1 _ _ _ _ t sb.in1 I1 ru rv (mo _ _ _ _ _ e1 d)) (fun q s2 z => ⟨z.1, let ⟨H2, I2, e2⟩ := z.2; ⟨H2, I2, e1.trans e2⟩⟩) fun _ _ x => x
  rcases p with ⟨d, rest⟩ | ⟨d, e⟩
  · exact wpAny_mono (step d) (fun q s2 z => .inl ⟨z.1, z.2, rest⟩) fun _ _ x => x
  · exact wpAny_mono (step d) (fun q s2 z => .inr ⟨z.1, z.2, e⟩) fun _ _ x => x
/-- two tuples -/
def ATup (K : PySem.W.Frag) (D : Ans) : Ans := fun x y r H => ∃ a b xs ys, x = .ref a ∧ y = .ref b ∧ SqT K H a xs ∧ SqT K H b ys ∧ Its D H xs ys r ∧ (a = b → r = true)
theorem mon_atup {K : PySem.W.Frag} (mo : MonA D) : MonA (ATup K D) := fun x y r H H' e ⟨a, b, xs, ys, hx, hy, h1, h2, p, c⟩ => ⟨a, b, xs, ys, hx, hy, h1.ext e, h2.ext e, p.mon mo e, c⟩
theorem rcB_tup_eq (mo : MonA D) (h : EqB X n D) : RcB X (n + 1) .Eq id (ATup X.K D) := by
  intro A pins s σ H x y u v r sb I rx ry ⟨a, b, xs, ys, ex, ey, ha, hb, p, _⟩
  subst ex ey
  cases rx
  cases ry
  obtain ⟨its, v1, e1, z1⟩ := I.tuple ha
  obtain ⟨its2, v2, e2, z2⟩ := I.tuple hb
  refine rc_tup_eq sb.room.units0 (fun i s' => LoopI X pins σ H s' ∧ Its D H (xs.drop i) (ys.drop i) r) e1 e2 (fun i h1 h2 s' q => wpAny_mono (turn_any mo h sb v1 v2 h1 h2 q.1 q.2) (fun t s2 z => ?_) fun _ _ x => x) (fun s' q => ⟨?_, q.1⟩) ⟨⟨H, I, Ext.rfl'⟩, p⟩
  · exact z.imp id fun ⟨z1, z2, z3⟩ => ⟨z1, by rw [z3]; rfl, z2⟩
  · have w := Its.end_ _ (by rw [v1.length, v2.length, List.size_toArray, List.size_toArray]) q.2
    rw [w, v1.length, v2.length, List.size_toArray, List.size_toArray] <;> rfl
theorem rcB_tup_ne (mo : MonA D) (h : EqB X n D) : RcB X (n + 1) .NotEq not (ATup X.K D) := by
  intro A pins s σ H x y u v r sb I rx ry ⟨a, b, xs, ys, ex, ey, ha, hb, p, _⟩
  subst ex ey
  cases rx
  cases ry
  obtain ⟨its, v1, e1, z1⟩ := I.tuple ha
  obtain ⟨its2, v2, e2, z2⟩ := I.tuple hb
  refine rc_tup_ne sb.room.units0 (fun i s' => LoopI X pins σ H s' ∧ Its D H (xs.drop i) (ys.drop i) r) e1 e2 (fun i h1 h2 s' q => wpAny_mono (turn_any mo h sb v1 v2 h1 h2 q.1 q.2) (fun t s2 z => ?_) fun _ _ x => x) (fun s' q => ⟨?_, q.1⟩) ⟨⟨H, I, Ext.rfl'⟩, p⟩
  · exact z.imp id fun ⟨z1, z2, z3⟩ => ⟨z1, by rw [z3]; rfl, z2⟩
  · have w := Its.end_ _ (by rw [v1.length, v2.length, List.size_toArray, List.size_toArray]) q.2
    rw [w, v1.length, v2.length, List.size_toArray, List.size_toArray] <;> rfl
/-- within a sequence the same object is equal to itself -/
theorem RcB.eqB (h : RcB X n .Eq id D) (hr : ∀ x y r H, D x y r H → ∃ a b, x = .ref a ∧ y = .ref b ∧ (a = b → r = true)) : EqB X n D := by
  intro A pins s σ H x y u v r sb I rx ry d
  obtain ⟨a, b, ex, ey, c⟩ := hr _ _ _ _ d
  subst ex ey
  cases rx
  cases ry
  by_cases hab : a = b
  · subst hab
    rw [c rfl]
    exact SeqAt.EqAt.same (A := A) (s := s) (.ref a) X.prog X.w X.xe _ ⟨rfl, H, I, Ext.rfl'⟩
  · exact GQ.eqBool_refG hab (wpAny_mono (h A pins s σ H (.ref a) (.ref b) _ _ r sb I rfl rfl d) (fun q s' z => ⟨r, z.1, rfl, z.2⟩) fun _ _ x => x)
theorem eqB_tup (mo : MonA D) (h : EqB X n D) : EqB X (n + 1) (ATup X.K D) := (rcB_tup_eq mo h).eqB fun _ _ _ _ ⟨a, b, _, _, hx, hy, _, _, _, c⟩ => ⟨a, b, hx, hy, c⟩
/-- x == y, x != y as expressions -/
def rB (D : Ans) (f : Bool → Bool) : R2 := fun x y H Q => ∃ r, D x y r H ∧ ∀ H', Ext H H' → Q (.bl (f r)) H'
theorem op_any {op : CmpOp} {f : Bool → Bool} (h : RcB X n op f D) (hr : Room n X.A) (same : compareOp op = fun a b => richCompare op a b := by rfl) : OpR X (compareOp op) (rB D f) := by
  intro pins s σ H x y v u Q I rx ry ⟨r, d, go⟩
  rw [same]
  refine wpAny_mono (h X.A pins s σ H x y v u r ⟨hr, rfl⟩ I rx ry d) (fun q s' z => ?_) fun _ _ x => x
  obtain ⟨e, H', I', ex⟩ := z
  subst e
  exact ⟨.bl (f r), H', I', rfl, go H' ex⟩
end
end Se

set_option Elab.async false
set_option linter.all false
set_option maxRecDepth 100000
set_option maxHeartbeats 4000000
/-! Own layer, part R5: calls within a try's body that an exception may leave: a class called, a method called; an exception of a class of the program made without arguments. -/
namespace Vr
open PySem PySem.Spec PyProof.Rows L2 Vx

section
variable {X : Cx} {CX : CXT} {k : Nat} {C f : Addr} {fd : FuncData} {ps : List Str} {sp : Sp} {ds : List Value} {dvs : List V} {E : L2.St → XK}
/-- a call of a def whose ways out may know the slots -/
theorem go_at {pins : List (Addr × Obj)} {σ : L2.St} {H : Hp} {s : Shared} {Q : VK} {us : List Value} {vs : List V} (F : FnOk X.prog X.w X.K X.mg X.base CX k f fd ps sp) (hr : Room k X.A) (hb : Binds X.K fd ps [])
    (hx : PassesAt CX X σ (E σ)) (I : Inv X pins σ H s) (r : Vals vs us) (h : sp vs H Q (E σ)) : wpAny (model X.prog X.w) X.A (call (.ref f) us) (EP X pins σ Q) X.xe s :=
  run_fnS F hr hb hx I r h
theorem make_at {pins : List (Addr × Obj)} {σ : L2.St} {H : Hp} {s : Shared} {Q : VK} {us : List Value} {vs : List V} (mk : Mk X.K C f)
    (F : FnOk X.prog X.w X.K X.mg X.base CX k f fd ps sp) (hr : Room (k + 1) X.A) (bs : Binds X.K fd ps ds) (vd : Vals dvs ds) (out : PassesAt CX X σ (E σ))
    (I : Inv X pins σ H s) (r : Vals vs us)
    (say : ∀ p dp, H p = none → H dp = none → dp ≠ p → sp (.ref p :: (vs ++ dvs)) (upd (upd H dp (.own p)) p (.ins C dp [])) (fun z G => z = .non ∧ Q (.ref p) G) (E σ)) :
    wpAny (model X.prog X.w) X.A (call (.ref C) us) (EP X pins σ Q) X.xe s := by
  have n1 := I.hok.fresh (Nat.le_succ s.heap.objs.size)
  have n2 := I.hok.fresh (Nat.le_refl s.heap.objs.size)
  have want := say _ _ n1 n2 (Nat.ne_of_lt (Nat.lt_succ_self _))
  have J := Inv.made (C := C) I
  have all : Vals (V.ref (s.heap.objs.size + 1) :: (vs ++ dvs)) (Value.ref (s.heap.objs.size + 1) :: (us ++ ds)) := .cons rfl (r.append vd)
  have len : (Value.ref (s.heap.objs.size + 1) :: us ++ ds).length = ps.length := by
    have z := all.length
    rw [F.len _ _ _ _ want] at z
    exact z.symm
  have inner := F.run _ X.stack _ _ ⟨Value.ref (s.heap.objs.size + 1) :: us, []⟩ _ _ _ (E σ) (hr.make C us []) (J.env0.make C us []) (bs _ _ J.kIn len) all want
  refine wpAny_call (make_map (f := f) I.kIn mk.makes mk.init (beq_iff_eq.mp mk.fn) (codeAny_mono inner fun res s1 z => ?_))
  match res, z with
  | .error e, z => exact out pins _ _ e s1 J z
  | .ok (.ret u), z =>
    obtain ⟨v, G, J1, rv, ev, q⟩ := J.after z
    subst ev
    exact ⟨rv, .ref _, G, J1, rfl, q⟩
end
/-- C(e1, e2) where the ways out may know the slots -/
def tMakeS (C : Addr) (sp : Sp) (E : L2.St → XK) (t : TA) : TE := fun σ H Q => t σ H fun vs H1 => ∀ p dp, H1 p = none → H1 dp = none → dp ≠ p →
  sp (.ref p :: (vs ++ [])) (upd (upd H1 dp (.own p)) p (.ins C dp [])) (fun z G => z = .non ∧ Q (.ref p) G) (E σ)
def tMethS (C : Addr) (m : Str) (sp : Sp) (E : L2.St → XK) (ta : TE) (t : TA) : TE := fun σ H Q => ta σ H fun x H1 => ∃ a dx fs, x = .ref a ∧ H1 a = some (.ins C dx fs) ∧ fs.lookup m = none ∧ t σ H1 fun vs H2 => sp (x :: vs) H2 Q (E σ)
section
variable {X : Cx} {CX : CXT} {k : Nat} {C f : Addr} {fd : FuncData} {ps : List Str} {sp : Sp} {E : L2.St → XK} {x m : Str} {p pos apos : Pos} {e o : Expr} {es : List Expr} {t : TA} {ta : TE}
theorem pe_makeS (mk : Mk X.K C f) (F : FnOk X.prog X.w X.K X.mg X.base CX k f fd ps sp) (hr : Room (k + 1) X.A) (hg : Gl X x) (hm : X.mg x = some (.ref C)) (bs : Binds X.K fd ps []) (out : ∀ σ, PassesAt CX X σ (E σ))
    (args : PA X (e :: es) t) (hdb : (x == ("__debug__" : Str)) = false := by decide) (st : starEach (e :: es) X.env = (false, eval e X.env) :: starEach es X.env := by rfl) (pl : (backTo pos (starEach es X.env)).any (·.1) = false := by rfl) :
    PE X (.Call (.Name x p) (e :: es) [] pos) (tMakeS C sp E t) :=
  ⟨fun pins s σ H Q I h => wpAny_Call_Name_kw (ld_glob I hg hm
    (PySem.W.callWith_K (h₀ := X.base) I.ok.mod.kin mk.kp (thn (args.run pos pins s σ H _ I h) fun us s1 ⟨vs, H1, J, r, q⟩ => ⟨J.kIn, make_at mk F hr bs .nil (out σ) J r q⟩) st pl) hdb)⟩
theorem pe_methS {pl : Sem Bool} (ho : PE X o ta) (c : Cls X.K C) (hm : Meth X.K C m f) (F : FnOk X.prog X.w X.K X.mg X.base CX k f fd ps sp) (hr : Room k X.A) (bs : Binds X.K fd ps []) (out : ∀ σ, PassesAt CX X σ (E σ)) (args : PA X (e :: es) t)
    (st : starEach (e :: es) X.env = (false, eval e X.env) :: starEach es X.env := by rfl) (pla : (backTo pos (starEach es X.env)).any (·.1) = false := by rfl)
    (ev : eval (.Call (.Attribute o m apos) (e :: es) [] pos) X.env = (do
      let ov ← eval o X.env
      standAt apos.atName
      let (g, first) ← holding [ov] (getMethod ov m pl)
      callWith pos g first (backTo pos (starEach (e :: es) X.env)) (backToKw pos (keywordEach [] X.env))) := by rfl) :
    PE X (.Call (.Attribute o m apos) (e :: es) [] pos) (tMethS C m sp E ta t) := by
  refine ⟨fun pins s σ H Q I h => PySem.W.methodCall_KW (pl := pl) (thn (ho.run pins s σ H _ I h) fun u s1 z => ?_) ev⟩
  obtain ⟨y, H1, J, ry, a, dx, fs, rfl, ea, no, q⟩ := z
  obtain rfl : u = Value.ref a := ry
  refine getmeth_ok J ea c hm no (PySem.W.callWith_K (first := [.ref a]) (h₀ := X.base) I.ok.mod.kin hm.kp (thn (args.run pos pins s1 σ H1 _ J q) fun us s2 w => ?_) st pla)
  obtain ⟨vs, H2, J2, r, q2⟩ := w
  exact ⟨J2.kIn, go_at (us := .ref a :: us) (vs := .ref a :: vs) F hr bs (out σ) J2 (.cons rfl r) q2⟩
end
/-- X() raised -/
theorem pmk_own0 {X : Cx} {C : Addr} {bmB : List Value} {B newId initId : String} {x : Str} {p pos : Pos} (F : ExcBaseFacts B newId initId bmB) (q : PySem.W.excIn X.K C bmB newId = true) (gC : X.mg x = some (.ref C))
    (kC : PySem.W.keepIn X.K (.ref C) = true) (r : Raises X (.ref C)) (hg : Gl X x) (hdb : (x == ("__debug__" : Str)) = false := by decide) : PMk X (.Call (.Name x p) [] [] pos) (fun _ H Q => Q (.ref C) none H) := by
  intro pins s σ H Q I h
  refine wpAny_Call_Name_kw (ld_glob I hg gC (PySem.W.callWith_K0 I.kIn kC ?_) hdb)
  show wpAny _ _ (call (.ref C) []) _ _ _
  obtain ⟨bm, N, nm, qn, bs, hdct, sn, sub, ab, col, dd, k0, k1, k2, k3, k5, mN, at_, hN, hni, T⟩ := exc_obj I.kIn q
  exact wpAny_call_exc_subT F T at_ hN hni (fun h' a made => mk_of I made r h (I.hok.gone made.new)) (Nat.zero_le _)
end Vr

set_option Elab.async false
set_option linter.all false
set_option maxRecDepth 100000
set_option maxHeartbeats 4000000
/-! Own layer, part E3: == within sequences by an own __eq__ that answers yes or no; lists; == of instances of two classes of the program. -/
namespace Se
open PySem PySem.Spec PyProof.Rows L2 Vx Vr
section
variable {X : Cx} {n k : Nat} {D : Ans} {C : Addr} {ps : List Str} {sp : Sp}
/-- instances of the class at C: what R says of the two -/
def AIns (C : Addr) (R : Addr → Addr → Bool → Hp → Prop) : Ans := fun x y r H => ∃ a b dx dy fs gs, x = .ref a ∧ y = .ref b ∧ H a = some (.ins C dx fs) ∧ H b = some (.ins C dy gs) ∧ R a b r H ∧ (a = b → r = true)
theorem mon_ains {R : Addr → Addr → Bool → Hp → Prop} (m : ∀ a b r H H', Ext H H' → R a b r H → R a b r H') : MonA (AIns C R) := fun x y r H H' e ⟨a, b, dx, dy, fs, gs, hx, hy, h1, h2, q, c⟩ => ⟨a, b, dx, dy, fs, gs, hx, hy, e _ _ h1, e _ _ h2, m a b r H H' e q, c⟩
theorem rcB_ins {R : Addr → Addr → Bool → Hp → Prop} (M : Mth X.prog X.w X.K X.mg X.base C "__eq__" k ps sp) (say : ∀ a b r H, R a b r H → sp [.ref a, .ref b] H (fun v H' => v = .bl r ∧ Ext H H') E0) : RcB X k .Eq id (AIns C R) := by
  intro A pins s σ H x y u v r sb I rx ry ⟨a, b, dx, dy, fs, gs, ex, ey, ha, hb', q, _⟩
  subst ex ey
  cases rx
  cases ry
  obtain ⟨f, fd, hs, hf, F, hb⟩ := M.ex
  obtain ⟨ox, od, J, _⟩ := inst_at I ha
  obtain ⟨oy, oe, J', _⟩ := inst_at I hb'
  obtain ⟨m, hF⟩ := I.fr
  have want := say a b r H q
  have r2 : Vals [V.ref a, V.ref b] [Value.ref a, Value.ref b] := .cons rfl (.cons rfl .nil)
  have len : ([Value.ref a, Value.ref b] ++ []).length = ps.length := by
    rw [List.append_nil, ← r2.length]
    exact F.len _ _ _ _ want
  have env : Env0 X.prog X.w X.K X.mg X.base A X.stack s H := by
    have e := I.env0
    exact ⟨by rw [sb.fr]; exact e.frames, e.mod, e.bs, e.bsz, e.funs, e.frf, e.hok, e.bare⟩
  have bound : BindsTo s fd ⟨[Value.ref a, Value.ref b], []⟩ (ps.zip [Value.ref a, Value.ref b]) := by
    have z := hb s [Value.ref a, Value.ref b] I.kIn len
    rwa [List.append_nil] at z
  refine PySem.W.cmp_K (op := .Eq) (tb := .ref C) sb.room.units0 hF I.ok.mod.kin J J'.type (by simp [PySem.W.notFirst]) hs hf (wpAny_call (codeAny_mono (F.run A X.stack s H ⟨[.ref a, .ref b], []⟩ [.ref a, .ref b] [.ref a, .ref b] _ E0 sb.room env bound r2 want) fun t z hq => ?_))
  rcases t with e | fl
  · exact False.elim hq
  rcases fl with _ | _ | _ | w0
  case ret =>
    obtain ⟨z, H', I', rz, ez, ex⟩ := I.after hq
    subst ez
    obtain rfl : w0 = .bool r := rz
    exact ⟨rfl, H', I', ex⟩
  all_goals exact False.elim hq
theorem eqB_ins {R : Addr → Addr → Bool → Hp → Prop} (M : Mth X.prog X.w X.K X.mg X.base C "__eq__" k ps sp) (say : ∀ a b r H, R a b r H → sp [.ref a, .ref b] H (fun v H' => v = .bl r ∧ Ext H H') E0) : EqB X k (AIns C R) :=
  (rcB_ins M say).eqB fun _ _ _ _ ⟨a, b, _, _, _, _, hx, hy, _, _, _, c⟩ => ⟨a, b, hx, hy, c⟩
/-- two lists -/
def ALst (D : Ans) : Ans := fun x y r H => ∃ a b xs ys, x = .ref a ∧ y = .ref b ∧ H a = some (.lst xs) ∧ H b = some (.lst ys) ∧ ((xs.length ≠ ys.length ∧ r = false) ∨ (xs.length = ys.length ∧ Its D H xs ys r)) ∧ (a = b → r = true)
theorem mon_alst (mo : MonA D) : MonA (ALst D) := fun x y r H H' e ⟨a, b, xs, ys, hx, hy, h1, h2, p, c⟩ => ⟨a, b, xs, ys, hx, hy, e _ _ h1, e _ _ h2, p.imp id fun ⟨z, q⟩ => ⟨z, q.mon mo e⟩, c⟩
/-- what a turn of two lists of one length asks -/
theorem turns_lst (mo : MonA D) (h : EqB X n D) {A : Around} (sb : Sub X (n + 1) A) {pins : List (Addr × Obj)} {σ : L2.St} {H : Hp} {a b : Addr} {xs ys : List V} {r : Bool} (ha : H a = some (.lst xs)) (hb : H b = some (.lst ys)) (len : xs.length = ys.length) (neg : Bool)
    {Q : Value → Shared → Prop} (out : ∀ s', LoopI X pins σ H s' → r = false → Q (.bool neg) s') :
    Turns X.prog X.w A (wants (fun v s' => v ≠ .notImplemented ∧ Q v s') X.xe) neg a b xs.length (fun i s' => LoopI X pins σ H s' ∧ Its D H (xs.drop i) (ys.drop i) r) := by
  have at_ : ∀ {s' : Shared}, LoopI X pins σ H s' → ∃ (its its2 : List Value) (m m2 : Nat), Vals xs its ∧ Vals ys its2 ∧ s'.heap.get? a = some { cls := .type "list", data := .seq its.toArray m } ∧ s'.heap.get? b = some { cls := .type "list", data := .seq its2.toArray m2 } := by
    intro s' ⟨H1, I1, e1⟩
    obtain ⟨_, its, m, v1, o1⟩ := (show ObjOk X.prog X.w H1 s'.heap a (.lst xs) from I1.hok a _ (e1 _ _ ha))
    obtain ⟨_, its2, m2, v2, o2⟩ := (show ObjOk X.prog X.w H1 s'.heap b (.lst ys) from I1.hok b _ (e1 _ _ hb))
    exact ⟨its, its2, m, m2, v1, v2, o1, o2⟩
  intro i s' ⟨l, p⟩
  obtain ⟨its, its2, m, m2, v1, v2, o1, o2⟩ := at_ l
  refine ⟨its.toArray, its2.toArray, m, m2, o1, o2, by rw [List.size_toArray, ← v1.length], by rw [List.size_toArray, ← v2.length, len], fun h1 h2 => ?_⟩
  refine wpAny_mono (turn_any mo h sb v1 v2 h1 h2 l p) (fun t s2 z => z.imp id fun ⟨z1, z2, z3⟩ => ⟨z1, ⟨(fun x => nomatch x), out s2 z2 z3⟩, ?_⟩) fun _ _ x => x
  obtain ⟨us, us2, k1, k2, w1, w2, q1, q2⟩ := at_ z2
  exact ⟨us.toArray, us2.toArray, k1, k2, q1, q2, by rw [List.size_toArray, ← w1.length], by rw [List.size_toArray, ← w2.length, len]⟩
theorem Its.full {H : Hp} {xs ys : List V} {r : Bool} (len : xs.length = ys.length) (p : Its D H (xs.drop xs.length) (ys.drop xs.length) r) : r = true := by
  have q := Its.end_ _ (by rw [len]; simp) p
  rw [q, len]
  simp
theorem rcB_lst_eq (mo : MonA D) (h : EqB X n D) : RcB X (n + 1) .Eq id (ALst D) := by
  intro A pins s σ H x y u v r sb I rx ry ⟨a, b, xs, ys, ex, ey, ha, hb, p, _⟩
  subst ex ey
  cases rx
  cases ry
  rcases p with ⟨ne, e⟩ | ⟨len, p⟩
  · obtain ⟨_, its, m, v1, o1⟩ := (show ObjOk X.prog X.w H s.heap a (.lst xs) from I.hok a _ ha)
    obtain ⟨_, its2, m2, v2, o2⟩ := (show ObjOk X.prog X.w H s.heap b (.lst ys) from I.hok b _ hb)
    exact rc_list_len_eq sb.room.units0 (by rw [List.size_toArray, List.size_toArray, ← v1.length, ← v2.length]; exact ne) ⟨_, o1, rfl, _, rfl⟩ ⟨_, o2, rfl, _, rfl⟩ ⟨by rw [e]; rfl, H, I, Ext.rfl'⟩
  · refine rc_list_eq sb.room.units0 _ (turns_lst mo h sb ha hb len false (r := r) fun s' l e => ⟨by rw [e]; rfl, l⟩) (fun s' q => ⟨?_, q.1⟩) ⟨⟨H, I, Ext.rfl'⟩, p⟩
    rw [Its.full len q.2] <;> rfl
theorem rcB_lst_ne (mo : MonA D) (h : EqB X n D) : RcB X (n + 1) .NotEq not (ALst D) := by
  intro A pins s σ H x y u v r sb I rx ry ⟨a, b, xs, ys, ex, ey, ha, hb, p, _⟩
  subst ex ey
  cases rx
  cases ry
  rcases p with ⟨ne, e⟩ | ⟨len, p⟩
  · obtain ⟨_, its, m, v1, o1⟩ := (show ObjOk X.prog X.w H s.heap a (.lst xs) from I.hok a _ ha)
    obtain ⟨_, its2, m2, v2, o2⟩ := (show ObjOk X.prog X.w H s.heap b (.lst ys) from I.hok b _ hb)
    exact rc_list_len_ne sb.room.units0 (by rw [List.size_toArray, List.size_toArray, ← v1.length, ← v2.length]; exact ne) ⟨_, o1, rfl, _, rfl⟩ ⟨_, o2, rfl, _, rfl⟩ ⟨by rw [e]; rfl, H, I, Ext.rfl'⟩
  · refine rc_list_ne sb.room.units0 _ (turns_lst mo h sb ha hb len true (r := r) fun s' l e => ⟨by rw [e]; rfl, l⟩) (fun s' q => ⟨?_, q.1⟩) ⟨⟨H, I, Ext.rfl'⟩, p⟩
    rw [Its.full len q.2] <;> rfl
theorem eqB_lst (mo : MonA D) (h : EqB X n D) : EqB X (n + 1) (ALst D) := (rcB_lst_eq mo h).eqB fun _ _ _ _ ⟨a, b, _, _, hx, hy, _, _, _, c⟩ => ⟨a, b, hx, hy, c⟩
/-- own == own of another class of the program, that does not come first -/
theorem op_eqTwo {C' : Addr} (M : Mth X.prog X.w X.K X.mg X.base C "__eq__" k ps sp) (after : PySem.W.notFirst X.K C (.ref C') = true) (hr : Room k X.A) :
    OpR X (compareOp .Eq) (fun x y H Q => ∃ a dx fs b dy gs, x = .ref a ∧ H a = some (.ins C dx fs) ∧ y = .ref b ∧ H b = some (.ins C' dy gs) ∧ sp [x, y] H (fun v H' => Nn v ∧ Q v H') E0) := by
  intro pins s σ H x y v u Q I rx ry ⟨a, dx, fs, b, dy, gs, ex, ha, ey, hb', q⟩
  subst ex ey
  obtain rfl : v = .ref a := rx
  obtain rfl : u = .ref b := ry
  obtain ⟨f, fd, hs, hf, F, hb⟩ := M.ex
  obtain ⟨ox, od, J, _⟩ := inst_at I ha
  obtain ⟨oy, oe, J', _⟩ := inst_at I hb'
  obtain ⟨m, hF⟩ := I.fr
  exact PySem.W.cmp_K (op := .Eq) (tb := .ref C') hr.units0 hF I.ok.mod.kin J J'.type after hs hf (calls F hr hb I (us := [.ref a, .ref b]) (vs := [.ref a, .ref b]) (.cons rfl (.cons rfl .nil)) q)
end
end Se

set_option Elab.async false
set_option linter.all false
set_option maxRecDepth 100000
set_option maxHeartbeats 4000000
set_option exponentiation.threshold 3000
/-! The law over draws for families: its drawing of numbers. -/
namespace K42
open PySem PySem.Spec PyProof.Rows L2 Vx Vr
/-- further built-in names -/
structure Bu (mg : Str → Option Value) : Prop where
  list : mg "list" = none
  tuple : mg "tuple" = none
  set : mg "set" = none
  sorted : mg "sorted" = none
  all : mg "all" = none
  repr : mg "repr" = none
/-- the tape at b -/
def Tp (H : Hp) (b : Addr) : Prop := ∃ x y : Int, H b = some (.lst [.int x, .int y]) ∧ 0 ≤ x ∧ 0 ≤ y ∧ y < 2147483647
/-- nothing but the tape has changed -/
def Keep (b : Addr) (H H' : Hp) : Prop := ∀ c o, c ≠ b → H c = some o → H' c = some o
theorem Keep.refl {b : Addr} {H : Hp} : Keep b H H := fun _ _ _ e => e
theorem Keep.trans {b : Addr} {H H1 H2 : Hp} (x : Keep b H H1) (y : Keep b H1 H2) : Keep b H H2 := fun c o n e => y c o n (x c o n e)
theorem Keep.put {b : Addr} {H : Hp} {o : HO} : Keep b H (upd H b o) := fun c u n e => by rw [upd_ne n]; exact e
theorem Keep.new {b p : Addr} {H : Hp} {o : HO} (h : H p = none) : Keep b H (upd H p o) := fun c u n e => by rw [upd_ne (ne_of_none e h)]; exact e
theorem Tp.new {b p : Addr} {H : Hp} {o : HO} (t : Tp H b) (h : H p = none) : Tp (upd H p o) b := by
  obtain ⟨x, y, e, r⟩ := t
  exact ⟨x, y, by rw [upd_ne (ne_of_none e h)]; exact e, r⟩
def spTape (K : PySem.W.Frag) : Sp := fun vs H Q _ => ∃ (a : Addr) (ns : List Int) (k : Nat), vs = [.ref a, .int k] ∧ SqL K H a (ns.map V.int) ∧ ns.length ≤ 63 ∧ k < 100 ∧
  ∀ b H', Same H H' → H b = none → Tp H' b → Q (.ref b) H'
def spPick : Sp := fun vs H Q _ => ∃ (b : Addr) (n : Int), vs = [.ref b, .int n] ∧ Tp H b ∧ 0 < n ∧ n < 1000 ∧ ∀ r H', 0 ≤ r → r < n → Keep b H H' → Tp H' b → Q (.int r) H'
section
variable {P : Program} {w : World} {K : PySem.W.Frag} {mg : Str → Option Value} {base : Heap}
theorem scTape : FnScope ["_law_script", "_law_k", "_law_cell"] ["_law_script", "_law_k"] (defScope (top 49)) := ⟨rfl, rfl, rfl, by decide +kernel, rfl, by decide +kernel, by decide +kernel⟩
theorem ok_tape {f : Addr} {fd : FuncData} (F : L2.Fun K "_law_tape" "_law_tape" (top 49) f fd) (T : Bt mg) : FnOk P w K mg base CX0 1 f fd ["_law_script", "_law_k"] (spTape K) := by
  refine F.ok scTape (fun vs H Q E h => ?_) (fun cdv A outer s H vs Q E hr h => ?_)
  · obtain ⟨a, ns, k, rfl, _⟩ := h
    rfl
  · obtain ⟨a, ns, k, rfl, hS, hl, hk, go⟩ := h
    refine ⟨_, pss_cons (ps_set (i := 2) scTape.nd rfl (.inl rfl) (pe_ifExp (pt_cmpR op_lt (pv 1) (pe_callB call_len_seq (by rfl) T.len PySem.boot_len (pa_cons (pv 0) pa_nil)) (nomark _)) (pe_ix ix_list (pv 0) (pv 1) (fun _ _ => rfl))
        (pe_op op_mod (pe_callB (cr_sum rfl) (by rfl) T.sum (by decide +kernel) (pa_cons (pe_slice sl_list (pv 0) po_none (po_some pe_int)) pa_nil)) pe_int)))
      (pss_one (ps_ret (pe_lst (pa_cons (pe_callB call_abs (by rfl) T.abs (by decide +kernel) (pa_cons (pv 2) pa_nil)) (pa_cons (pe_op op_add (pe_op op_mul pe_int (pv 1)) pe_int) pa_nil))))), ?_⟩
    have last : ∀ (c : Int) (H1 : Hp), Same H H1 → (∀ b, H1 b = none → Q (.ref b) (upd H1 b (.lst [.int (if c < 0 then -c else c), .int (7757 * (k : Int) + 104729)]))) := by
      intro c H1 s1 b hb
      refine go b _ (fun d o e => ?_) ?_ ⟨_, _, upd_same, ?_, by omega, by omega⟩
      · rw [upd_ne (ne_of_none (s1 _ _ e) hb)]
        exact s1 _ _ e
      · cases e : H b with
        | none => rfl
        | some o => rw [s1 _ _ e] at hb; cases hb
      · split <;> omega
    refine ⟨_, rfl, _, rfl, a, _, rfl, .inl hS, _, _, rfl, rfl, _, rfl, ?_⟩
    refine ite2 (fun c => ?_) (fun c => ?_)
    · have c' : k < ns.length := by
        have c2 := of_decide_eq_true c
        rw [List.length_map] at c2
        omega
      refine ⟨_, rfl, _, rfl, a, _, _, .int (ns[k]'c'), rfl, rfl, hS, atI_nat (by rw [List.getElem?_map, List.getElem?_eq_getElem c']; rfl), ?_⟩
      exact ⟨_, rfl, ns[k]'c', rfl, _, rfl, _, _, rfl, rfl, .inl ⟨by decide, by decide⟩, _, _, rfl, rfl, (by show 2 ≤ sizeLine; decide), fun b hb => last _ H (Same.refl _) b hb⟩
    · refine ⟨_, rfl, ?_⟩
      refine ⟨_, rfl, a, _, rfl, hS, fun p hp => ?_⟩
      refine ⟨p, ns.take 1, rfl, ?_, _, _, rfl, rfl, (by show (0 : Int) < 1000003; decide), ?_⟩
      · refine .inl (.inl (upd_same.trans ?_))
        congr 1
        show HO.lst (cutV (ns.map V.int) none (some 1)) = _
        congr 1
        cases ns with
        | nil => rfl
        | cons n r => simp [cutV, HT.sIx]
      · have s1 : Same H (upd H p (.lst (cutV (ns.map V.int) none (some 1)))) := fun b o e => by rw [upd_ne (ne_of_none e hp)]; exact e
        exact ⟨_, rfl, _, rfl, _, rfl, _, _, rfl, rfl, .inl ⟨by decide, by decide⟩, _, _, rfl, rfl, (by show 2 ≤ sizeLine; decide), fun b hb => last _ _ s1 b hb⟩
theorem sm_small {x : Int} (h : x.natAbs < 10 ^ 40) : Sm x := Nat.lt_trans h (by decide)
theorem scPick : FnScope ["_law_tape_here", "_law_many", "_law_digit", "_law_mixed_here"] ["_law_tape_here", "_law_many"] (defScope (top 50)) := ⟨rfl, rfl, rfl, by decide +kernel, rfl, by decide +kernel, by decide +kernel⟩
theorem ok_pick {f : Addr} {fd : FuncData} (F : L2.Fun K "_law_pick" "_law_pick" (top 50) f fd) (T : Bt mg) : FnOk P w K mg base CX0 1 f fd ["_law_tape_here", "_law_many"] spPick := by
  refine F.ok scPick (fun vs H Q E h => ?_) (fun cdv A outer s H vs Q E hr h => ?_)
  · obtain ⟨b, n, rfl, _⟩ := h
    rfl
  · obtain ⟨b, n, rfl, ⟨x, y, hb, x0, y0, y1⟩, n0, n1, go⟩ := h
    refine ⟨_, pss_cons (ps_if (pt_cmpR op_ge (pe_ix ix_list (pv 0) pe_int (fun _ _ => rfl)) (pe_op op_pow pe_int pe_int) (nomark _))
        (pss_cons (ps_set (i := 2) scPick.nd rfl (.inl rfl) (pe_op op_mod (pe_callTy call_int1 (by rfl) T.int (by decide +kernel) (pa_cons (pe_ix ix_list (pv 0) pe_int (fun _ _ => rfl)) pa_nil)) (pv 1)))
        (pss_cons (ps_asg (pe_op op_fdivW (pe_ix ix_list (pv 0) pe_int (fun _ _ => rfl)) (pv 1)) (pg_sub (pv 0) pe_int set_list))
        (pss_one (ps_ret (pv 2))))) pss_nil)
      (pss_cons (ps_asg (pe_op op_mod (pe_callTy call_int1 (by rfl) T.int (by decide +kernel) (pa_cons (pe_op op_add (pe_op op_add (pe_op op_mulW (pe_ix ix_list (pv 0) pe_int (fun _ _ => rfl)) pe_int) (pe_op op_mulW (pe_ix ix_list (pv 0) pe_int (fun _ _ => rfl)) pe_int)) pe_int) pa_nil)) pe_int) (pg_sub (pv 0) pe_int set_list))
      (pss_cons (ps_set (i := 3) scPick.nd rfl (.inl rfl) (pe_op op_mod (pe_callTy call_int1 (by rfl) T.int (by decide +kernel) (pa_cons (pe_op op_add (pe_op op_add (pe_op op_mulW (pe_ix ix_list (pv 0) pe_int (fun _ _ => rfl)) (pe_ix ix_list (pv 0) pe_int (fun _ _ => rfl))) (pe_op op_mulW (pe_ix ix_list (pv 0) pe_int (fun _ _ => rfl)) pe_int)) pe_int) pa_nil)) pe_int))
      (pss_one (ps_ret (pe_op op_mod (pe_callTy call_int1 (by rfl) T.int (by decide +kernel) (pa_cons (pe_op op_fdiv (pv 3) pe_int) pa_nil)) (pv 1)))))), ?_⟩
    have lg : n.natAbs.log2 < 9000 := Nat.lt_of_lt_of_le (PySem.Flt.log2_lt_of (k := 40) (by decide) (by omega)) (by decide)
    refine ⟨_, rfl, b, _, 0, .int x, rfl, rfl, SqL.of hb, rfl, _, _, rfl, rfl, ⟨by decide, by decide, by decide⟩, _, _, rfl, rfl, _, rfl, ?_⟩
    refine ite2 (fun c => ?_) (fun c => ?_)
    · refine ⟨_, rfl, b, _, 0, .int x, rfl, rfl, SqL.of hb, rfl, .inl ⟨_, rfl, _, rfl, _, _, rfl, rfl, n0, ?_⟩⟩
      refine ⟨_, rfl, b, _, 0, .int x, rfl, rfl, SqL.of hb, rfl, _, rfl, _, _, rfl, rfl, ⟨n0, lg⟩, _, rfl, b, _, 0, 0, rfl, rfl, hb, rfl, _, rfl, ?_⟩
      exact go _ _ (Int.emod_nonneg x (by omega)) (Int.emod_lt_of_pos x n0) Keep.put ⟨_, _, upd_same, Int.ediv_nonneg x0 (by omega), y0, y1⟩
    · have xs : x < 10 ^ 18 := by
        have q := of_decide_eq_false (Bool.eq_false_iff.mpr c)
        exact Int.not_le.mp q
      refine ⟨_, rfl, b, _, 1, .int y, rfl, rfl, SqL.of hb, rfl, _, _, rfl, rfl, cmul (sm_small (by omega)) (sm_small (by decide)), ?_⟩
      refine ⟨_, rfl, b, _, 0, .int x, rfl, rfl, SqL.of hb, rfl, _, _, rfl, rfl, cmul (sm_small (by omega)) (sm_small (by decide)), _, _, rfl, rfl, _, _, rfl, rfl, .inl ⟨_, rfl, _, _, rfl, rfl, (by show (0 : Int) < 2147483647; decide), _, rfl, b, _, 1, 1, rfl, rfl, hb, rfl, ?_⟩⟩
      show tSeq _ _ _ _ (upd H b (.lst [.int x, .int ((y * 48271 + x * 69621 + 11) % 2147483647)]))
      generalize em : (y * 48271 + x * 69621 + 11) % 2147483647 = m
      have m0 : 0 ≤ m := by rw [← em]; exact Int.emod_nonneg _ (by decide)
      have m1 : m < 2147483647 := by rw [← em]; exact Int.emod_lt_of_pos _ (by decide)
      have tp : Tp (upd H b (.lst [.int x, .int m])) b := ⟨x, m, upd_same, x0, m0, m1⟩
      have kp : Keep b H (upd H b (.lst [.int x, .int m])) := Keep.put
      have hb1 : (upd H b (.lst [.int x, .int m])) b = some (.lst [.int x, .int m]) := upd_same
      generalize upd H b (.lst [.int x, .int m]) = H1 at tp kp hb1 ⊢
      refine ⟨_, rfl, b, _, 1, .int m, rfl, rfl, SqL.of hb1, rfl, _, rfl, b, _, 1, .int m, rfl, rfl, SqL.of hb1, rfl, _, _, rfl, rfl, cmul (sm_small (by omega)) (sm_small (by omega)), ?_⟩
      refine ⟨_, rfl, b, _, 1, .int m, rfl, rfl, SqL.of hb1, rfl, _, _, rfl, rfl, cmul (sm_small (by omega)) (sm_small (by decide)), _, _, rfl, rfl, _, _, rfl, rfl, .inl ⟨_, rfl, _, _, rfl, rfl, (by show (0 : Int) < 2147483399; decide), ?_⟩⟩
      refine ⟨_, rfl, _, _, rfl, rfl, ⟨by decide, by decide⟩, .inl ⟨_, rfl, _, rfl, _, _, rfl, rfl, n0, ?_⟩⟩
      exact go _ _ (Int.emod_nonneg _ (by omega)) (Int.emod_lt_of_pos _ n0) kp tp
end
end K42

set_option Elab.async false
set_option linter.all false
set_option maxRecDepth 100000
set_option maxHeartbeats 4000000
set_option exponentiation.threshold 3000
/-! The law over draws for families: items in a drawn order. -/
namespace K42
open PySem PySem.Spec PyProof.Rows L2 Vx Vr
theorem Keep.other {b p : Addr} {H H1 H2 : Hp} {o : HO} (k : Keep b H H1) (h : H p = none) (e : H2 = upd H1 p o) : Keep b H H2 := fun c u n z => by
  rw [e, upd_ne (ne_of_none z h)]
  exact k c u n z
theorem Tp.other {b p : Addr} {H : Hp} {o : HO} (t : Tp H b) (h : p ≠ b) : Tp (upd H p o) b := by
  obtain ⟨x, y, e, r⟩ := t
  exact ⟨x, y, by rw [upd_ne (Ne.symm h)]; exact e, r⟩
theorem Tp.is {b : Addr} {H : Hp} (t : Tp H b) : H b ≠ none := by
  obtain ⟨x, y, e, r⟩ := t
  rw [e]
  exact fun z => nomatch z
theorem perm_pick {α : Type} (found left : List α) (k : Nat) (y : α) (h : left[k]? = some y) : ((found ++ [y]) ++ left.eraseIdx k).Perm (found ++ left) := by
  have q := L2.erase_perm left k y h
  rw [List.append_assoc]
  exact List.Perm.append_left found q
/-- the items, in some order -/
def spMixed (K : PySem.W.Frag) : Sp := fun vs H Q _ => ∃ (b l : Addr) (xs : List V), vs = [.ref b, .ref l] ∧ Tp H b ∧ (SqL K H l xs ∨ SqT K H l xs) ∧ xs.length < 1000 ∧
  ∀ p ys H', ys.Perm xs → Keep b H H' → Tp H' b → H p = none → H' p = some (.lst ys) → Q (.ref p) H'
section
variable {P : Program} {w : World} {K : PySem.W.Frag} {mg : Str → Option Value} {base : Heap}
abbrev NMixed : List Str := ["_law_tape_here", "_law_items", "_law_left", "_law_found", "_law_k"]
theorem scMixed : FnScope NMixed ["_law_tape_here", "_law_items"] (defScope (top 51)) := ⟨rfl, rfl, rfl, by decide +kernel, rfl, by decide +kernel, by decide +kernel⟩
theorem ok_mixed {f : Addr} {fd : FuncData} (F : L2.Fun K "_law_mixed" "_law_mixed" (top 51) f fd) (T : Bt mg) (U : Bu mg) (TK : Cal P w K mg base "_law_pick" 1 ["_law_tape_here", "_law_many"] spPick) : FnOk P w K mg base CX0 2 f fd ["_law_tape_here", "_law_items"] (spMixed K) := by
  refine F.ok scMixed (fun vs H Q E h => ?_) (fun cdv A outer s H vs Q E hr h => ?_)
  · obtain ⟨b, l, xs, rfl, _⟩ := h
    rfl
  · obtain ⟨b, l, xs, rfl, tp, hl, few, go⟩ := h
    have h1 := hr.mono (show 1 ≤ 1 by decide)
    refine ⟨_, pss_cons (ps_set (i := 2) scMixed.nd rfl (.inl rfl) (pe_callTy call_list_of (by rfl) U.list (by decide +kernel) (pa_cons (pv 1) pa_nil)))
      (pss_cons (ps_set (i := 3) scMixed.nd rfl (.inl rfl) (pe_lst pa_nil))
      (pss_cons (ps_for PassesOwn.never rfl (pi_range1 rfl T.range (pa_cons (pe_callB call_len_seq (by rfl) T.len PySem.boot_len (pa_cons (pv 1) pa_nil)) pa_nil)) (pg_name (i := 4) scMixed.nd rfl (.inl rfl))
        (pss_one (ps_expr (pe_bm PySem.F.plainAttrs_list PySem.F.slot_list_append PySem.F.type_list_append mt_append (pv 3) (pa_cons (pe_bm PySem.F.plainAttrs_list PySem.F.slot_list_pop PySem.F.type_list_pop mt_popAt (pv 2)
          (pa_cons (pe_cal TK h1 (pa_cons (pv 0) (pa_cons (pe_callB call_len_seq (by rfl) T.len PySem.boot_len (pa_cons (pv 2) pa_nil)) pa_nil))) pa_nil)) pa_nil)))))
      (pss_one (ps_ret (pv 3))))), ?_⟩
    have bn := tp.is
    refine ⟨_, rfl, l, xs, rfl, hl, fun p2 n2 => ?_⟩
    have s2 : Same H (upd H p2 (.lst xs)) := same_new n2
    have t2 := tp.new (o := .lst xs) n2
    have a2 : (upd H p2 (.lst xs)) p2 = some (.lst xs) := upd_same
    have k2 : Keep b H (upd H p2 (.lst xs)) := Keep.new n2
    have b2 : p2 ≠ b := fun e => bn (e ▸ n2)
    show tSeq _ _ _ _ (upd H p2 (.lst xs))
    generalize upd H p2 (.lst xs) = H2 at s2 t2 a2 k2 ⊢
    refine ⟨by show 0 ≤ sizeLine; decide, fun p3 n3 => ?_⟩
    have s3 : Same H (upd H2 p3 (.lst [])) := s2.trans (same_new n3)
    have t3 := t2.new (o := .lst []) n3
    have k3 : Keep b H (upd H2 p3 (.lst [])) := k2.trans (Keep.new n3)
    have a3 : (upd H2 p3 (.lst [])) p3 = some (.lst []) := upd_same
    have p23 : p2 ≠ p3 := ne_of_none a2 n3
    have c3 : (upd H2 p3 (.lst [])) p2 = some (.lst xs) := by rw [upd_ne p23]; exact a2
    have b3 : p3 ≠ b := fun e => t2.is (e ▸ n3)
    have m3 : H p3 = none := by
      cases e : H p3 with
      | none => rfl
      | some o => rw [s2 _ _ e] at n3; cases n3
    show tSeq _ _ _ _ (upd H2 p3 (.lst []))
    generalize upd H2 p3 (.lst []) = H3 at s3 t3 k3 a3 c3 ⊢
    have hl3 : SqL K H3 l xs ∨ SqT K H3 l xs := hl.imp (fun h => SqL.ext h s3) fun h => SqT.ext h s3
    refine ⟨_, rfl, l, xs, rfl, hl3, _, rfl, by omega, by omega, for_range (fun i σ H9 => ∃ v4 found left, σ = [some (.ref b), some (.ref l), some (.ref p2), some (.ref p3), v4] ∧ Keep b H H9 ∧ Tp H9 b ∧ H9 p2 = some (.lst left) ∧ H9 p3 = some (.lst found) ∧ (found ++ left).Perm xs ∧ left.length + i = xs.length)
      ⟨_, [], xs, rfl, k3, t3, c3, a3, List.Perm.refl _, rfl⟩ ?_ ?_⟩
    · rintro i σ H9 hi ⟨v4, found, left, rfl, k9, t9, l9, f9, pm, sz⟩
      have hi' : i < xs.length := by simpa using hi
      have lp : 0 < left.length := by omega
      refine ⟨_, rfl, .inl ⟨rfl, _, SqL.of f9⟩, _, rfl, .inl ⟨rfl, _, SqL.of l9⟩, _, rfl, _, rfl, p2, left, rfl, .inl (SqL.of l9), b, (left.length : Int), rfl, t9, by omega, by omega, fun r H4 r0 r1 k4 t4 => ?_⟩
      have l4 := k4 _ _ b2 l9
      have f4 := k4 _ _ b3 f9
      have rl : r.toNat < left.length := by omega
      have at_ : left[r.toNat]? = some (left[r.toNat]'rl) := List.getElem?_eq_getElem rl
      have fl : found.length < sizeLine := by
        have q := pm.length_eq
        rw [List.length_append] at q
        rw [sizeLine_eq]
        omega
      have m2 : H p2 = none := n2
      have f5 : (upd H4 p2 (.lst (left.eraseIdx r.toNat))) p3 = some (.lst found) := by rw [upd_ne (Ne.symm p23)]; exact f4
      refine ⟨p2, left, r, r.toNat, _, rfl, rfl, l4, by omega, by omega, PySem.seqIndex_of r0 r1, at_, p3, found, _, rfl, rfl, f5, fl, ?_⟩
      refine ⟨_, found ++ [left[r.toNat]'rl], left.eraseIdx r.toNat, rfl, ?_, ?_, ?_, upd_same, (perm_pick found left r.toNat _ at_).trans pm, ?_⟩
      · exact ((k9.trans k4).other m2 rfl).other m3 rfl
      · exact (t4.other b2).other b3
      · rw [upd_ne p23]
        exact upd_same
      · rw [List.length_eraseIdx_of_lt rl]
        omega
    · rintro σ H9 ⟨v4, found, left, rfl, k9, t9, l9, f9, pm, sz⟩
      have z : left = [] := by
        have q := Int.toNat_natCast xs.length
        exact List.length_eq_zero_iff.mp (by omega)
      rw [z, List.append_nil] at pm
      exact ⟨_, rfl, go p3 found H9 pm k9 t9 m3 f9⟩
end
end K42

set_option Elab.async false
set_option linter.all false
set_option maxRecDepth 100000
set_option maxHeartbeats 4000000
set_option exponentiation.threshold 3000
/-! The law over draws for families: all lots of some names. -/
namespace K42
open PySem PySem.Spec PyProof.Rows L2 Vx Vr
/-- lists of texts, at most n each -/
def Lots (H : Hp) (n : Nat) (rs : List Addr) : Prop := ∀ q ∈ rs, ∃ lot : List Str, H q = some (.lst (lot.map V.str)) ∧ lot.length ≤ n
theorem Lots.same {H H' : Hp} {n : Nat} {rs : List Addr} (h : Lots H n rs) (s : Same H H') : Lots H' n rs := fun q hq => let ⟨lot, e, l⟩ := h q hq; ⟨lot, s _ _ e, l⟩
theorem Lots.mono {H : Hp} {n m : Nat} {rs : List Addr} (h : Lots H n rs) (l : n ≤ m) : Lots H m rs := fun q hq => let ⟨lot, e, z⟩ := h q hq; ⟨lot, e, Nat.le_trans z l⟩
theorem Lots.app {H : Hp} {n : Nat} {rs ss : List Addr} (h : Lots H n rs) (g : Lots H n ss) : Lots H n (rs ++ ss) := fun q hq => (List.mem_append.mp hq).elim (h q) (g q)
def spLots (K : PySem.W.Frag) : Sp := fun vs H Q _ => ∃ (l : Addr) (names : List Str), vs = [.ref l] ∧ SqL K H l (names.map V.str) ∧ names.length ≤ 6 ∧
  ∀ p rs H', Same H H' → H' p = some (.lst (rs.map V.ref)) → Lots H' 6 rs → rs.length ≤ 64 → Q (.ref p) H'
section
variable {P : Program} {w : World} {K : PySem.W.Frag} {mg : Str → Option Value} {base : Heap}
abbrev NLots : List Str := ["_law_names", "_law_found", "_law_name", "_law_lot"]
theorem scLots : FnScope NLots ["_law_names"] (defScope (top 52)) := ⟨rfl, rfl, rfl, by decide +kernel, rfl, by decide +kernel, by decide +kernel⟩
theorem ok_lots {f : Addr} {fd : FuncData} (F : L2.Fun K "_law_lots" "_law_lots" (top 52) f fd) (T : Bt mg) : FnOk P w K mg base CX0 1 f fd ["_law_names"] (spLots K) := by
  refine F.ok scLots (fun vs H Q E h => ?_) (fun cdv A outer s H vs Q E hr h => ?_)
  · obtain ⟨l, names, rfl, _⟩ := h
    rfl
  · obtain ⟨l, names, rfl, hl, few, go⟩ := h
    refine ⟨_, pss_cons (ps_set (i := 1) scLots.nd rfl (.inl rfl) (pe_lst (pa_cons (pe_lst pa_nil) pa_nil)))
      (pss_cons (ps_for PassesOwn.never rfl (pi_list (pv 0)) (pg_name (i := 2) scLots.nd rfl (.inr rfl)) (pss_one (ps_set (i := 1) scLots.nd rfl (.inl rfl) (pe_op op_cat (pv 1)
        (pe_lc (own := [("_law_lot", 3)]) (g := gName 3) (tt := tYes) rfl scLots.nd (pi_list (pv 1)) (blkOk_by (N := NLots) (sc := defScope (top 52)) (by decide +kernel)) (fun _ _ _ _ _ => pg_name (i := 3) scLots.nd rfl (Or.inl rfl)) (fun _ _ _ _ _ => pts_nil)
          (fun _ _ _ _ _ => pe_op op_cat (pv 3) (pe_lst (pa_cons (pv 2) pa_nil))))))))
      (pss_one (ps_ret (pv 1)))), ?_⟩
    refine ⟨by show 0 ≤ sizeLine; decide, fun p0 n0 => ⟨by show 1 ≤ sizeLine; decide, fun p1 n1 => ?_⟩⟩
    have s1 : Same H (upd (upd H p0 (.lst [])) p1 (.lst [.ref p0])) := (same_new n0).trans (same_new n1)
    have a1 : (upd (upd H p0 (.lst [])) p1 (.lst [.ref p0])) p1 = some (.lst [.ref p0]) := upd_same
    have a0 : (upd (upd H p0 (.lst [])) p1 (.lst [.ref p0])) p0 = some (.lst []) := by
      rw [upd_ne (ne_of_none upd_same n1)]
      exact upd_same
    show tSeq _ _ _ _ (upd (upd H p0 (.lst [])) p1 (.lst [.ref p0]))
    generalize upd (upd H p0 (.lst [])) p1 (.lst [.ref p0]) = H1 at s1 a1 a0 ⊢
    refine ⟨_, rfl, l, rfl, ⟨_, SqL.ext hl s1⟩, for_list (K := K) (a := l) (xs := names.map V.str) (fun i σ H2 => ∃ p rs v2 v3, σ = [some (.ref l), some (.ref p), v2, v3] ∧ Same H H2 ∧ H2 p = some (.lst (rs.map V.ref)) ∧ Lots H2 i rs ∧ rs.length = 2 ^ i)
      ⟨p1, [p0], _, _, rfl, s1, a1, fun q hq => ⟨[], by rw [List.mem_singleton.mp hq]; exact a0, Nat.le_refl _⟩, rfl⟩ (fun i σ H2 _ ⟨p, rs, v2, v3, _, s2, _⟩ => SqL.ext hl s2) ?_ ?_⟩
    · rintro i x σ H2 hx ⟨p, rs, v2, v3, rfl, s2, a2, lo, sz⟩
      have hi : i < names.length := by
        have := (List.getElem?_eq_some_iff.mp hx).1
        rwa [List.length_map] at this
      rw [List.getElem?_map] at hx
      obtain ⟨y, hy, rfl⟩ := Option.map_eq_some_iff.mp hx
      refine ⟨_, rfl, _, rfl, p, rfl, ⟨_, SqL.of a2⟩, fun D hD => ?_⟩
      refine lc_list (K := K) (a := p) (xs := rs.map V.ref) (fun j H3 => ∃ ss : List Addr, H3 D = some (.lst (ss.map V.ref)) ∧ Same H2 H3 ∧ Lots H3 (i + 1) ss ∧ ss.length = j ∧ ∀ q ∈ ss, q ≠ D)
        ⟨[], upd_same, same_new hD, (fun q hq => nomatch hq), rfl, fun q hq => nomatch hq⟩ (fun j H3 _ ⟨ss, _, s3, _⟩ => SqL.of (s3 _ _ a2)) ?_ ?_
      · rintro j z H3 hz ⟨ss, d3, s3, lo3, sz3, out3⟩
        rw [List.getElem?_map] at hz
        obtain ⟨q, hq, rfl⟩ := Option.map_eq_some_iff.mp hz
        obtain ⟨lot, e, ll⟩ := lo q (List.mem_of_getElem? hq)
        have hj : j < rs.length := (List.getElem?_eq_some_iff.mp hq).1
        have e3 := s3 _ _ e
        have big : (1000 : Nat) ≤ sizeLine := by decide
        have two : 2 ^ i ≤ 2 ^ 6 := Nat.pow_le_pow_right (by decide) (by omega)
        refine ⟨rfl, iteT (B := True) ⟨_, rfl, _, rfl, (by show 1 ≤ sizeLine; omega), fun t nt => ?_⟩⟩
        have e4 : (upd H3 t (.lst [.str y])) q = some (.lst (lot.map V.str)) := (same_new nt) _ _ e3
        have d4 : (upd H3 t (.lst [.str y])) D = some (.lst (ss.map V.ref)) := (same_new nt) _ _ d3
        have s4 : Same H2 (upd H3 t (.lst [.str y])) := s3.trans (same_new nt)
        have lo4 : Lots (upd H3 t (.lst [.str y])) (i + 1) ss := lo3.same (same_new nt)
        have y4 : (upd H3 t (.lst [.str y])) t = some (.lst [.str y]) := upd_same
        generalize upd H3 t (.lst [.str y]) = H4 at e4 d4 s4 lo4 y4 ⊢
        refine ⟨_, _, _, _, rfl, rfl, e4, y4, by rw [List.length_map]; show lot.length + 1 ≤ sizeLine; omega, fun u nu => ?_⟩
        have out5 : ∀ q ∈ ss ++ [u], q ≠ D := fun q hq => (List.mem_append.mp hq).elim (out3 q) fun hq => by
          rw [List.mem_singleton.mp hq]
          exact Ne.symm (ne_of_none d4 nu)
        have d5 : (upd H4 u (.lst (lot.map V.str ++ [.str y]))) D = some (.lst (ss.map V.ref)) := (same_new nu) _ _ d4
        have s5 : Same H2 (upd H4 u (.lst (lot.map V.str ++ [.str y]))) := s4.trans (same_new nu)
        have lo5 : Lots (upd H4 u (.lst (lot.map V.str ++ [.str y]))) (i + 1) (ss ++ [u]) := (lo4.same (same_new nu)).app fun q hq => ⟨lot ++ [y], by rw [List.mem_singleton.mp hq, List.map_append]; exact upd_same, by rw [List.length_append]; show _ + 1 ≤ _; omega⟩
        generalize upd H4 u (.lst (lot.map V.str ++ [.str y])) = H5 at d5 s5 lo5 ⊢
        have nD : ∀ {q : Addr} {o : HO}, H5 q = some o → q ≠ D → (upd H5 D (.lst (ss.map V.ref ++ [.ref u]))) q = some o := fun e n => by rw [upd_ne n]; exact e
        refine ⟨_, d5, by rw [List.length_map]; omega, ss ++ [u], by rw [List.map_append]; exact upd_same, fun b o e => nD (s5 _ _ e) (ne_of_none e hD), fun q hq => ?_, by rw [List.length_append, sz3] <;> rfl, out5⟩
        obtain ⟨lt, e, l⟩ := lo5 q hq
        exact ⟨lt, nD e (out5 q hq), l⟩
      · rintro H3 ⟨ss, d3, s3, lo3, sz3, _⟩
        rw [List.length_map] at sz3
        have big : (1000 : Nat) ≤ sizeLine := by decide
        have two : 2 ^ i ≤ 2 ^ 6 := Nat.pow_le_pow_right (by decide) (by omega)
        refine ⟨_, _, _, _, rfl, rfl, s3 _ _ a2, d3, by rw [List.length_map, List.length_map]; omega, fun u nu => ?_⟩
        have s5 : Same H (upd H3 u (.lst (rs.map V.ref ++ ss.map V.ref))) := (s2.trans s3).trans (same_new nu)
        exact ⟨u, rs ++ ss, _, _, rfl, s5, by rw [List.map_append]; exact upd_same, ((lo.mono (Nat.le_succ i)).same (s3.trans (same_new nu))).app (lo3.same (same_new nu)), by rw [List.length_append, sz3, sz, Nat.pow_succ]; omega⟩
    · rintro σ H2 ⟨p, rs, v2, v3, rfl, s2, a2, lo, sz⟩
      rw [List.length_map] at lo sz
      refine ⟨_, rfl, go p rs H2 s2 a2 (lo.mono few) ?_⟩
      rw [sz]
      exact Nat.pow_le_pow_right (by decide) few
end
end K42

set_option Elab.async false
set_option linter.all false
set_option maxRecDepth 100000
set_option maxHeartbeats 4000000
set_option exponentiation.threshold 3000
/-! The law over draws for families: drawn sets of people. -/
namespace K42
open PySem PySem.Spec PyProof.Rows L2 Vx Vr
/-- lists of different names -/
def Sets (H : Hp) (names : List Str) (rs : List Addr) : Prop := ∀ q ∈ rs, ∃ lot : List Str, H q = some (.lst (lot.map V.str)) ∧ lot.Nodup ∧ ∀ x ∈ lot, x ∈ names
theorem tp_ne {b q : Addr} {H : Hp} {lot : List Str} (t : Tp H b) (e : H q = some (.lst (lot.map V.str))) : q ≠ b := by
  rintro rfl
  obtain ⟨x, y, z, _⟩ := t
  rw [z] at e
  cases lot with
  | nil => cases e
  | cons a r => cases e
theorem tp_ne_refs {b q : Addr} {H : Hp} {rs : List Addr} (t : Tp H b) (e : H q = some (.lst (rs.map V.ref))) : q ≠ b := by
  rintro rfl
  obtain ⟨x, y, z, _⟩ := t
  rw [z] at e
  cases rs with
  | nil => cases e
  | cons a r => cases e
theorem Sets.keep {b : Addr} {H H' : Hp} {names : List Str} {rs : List Addr} (h : Sets H names rs) (t : Tp H b) (k : Keep b H H') : Sets H' names rs := fun q hq => let ⟨lot, e, z⟩ := h q hq; ⟨lot, k _ _ (tp_ne t e) e, z⟩
theorem Sets.app {H : Hp} {names : List Str} {rs ss : List Addr} (h : Sets H names rs) (g : Sets H names ss) : Sets H names (rs ++ ss) := fun q hq => (List.mem_append.mp hq).elim (h q) (g q)
theorem Sets.sub {H : Hp} {names : List Str} {rs ss : List Addr} (h : Sets H names rs) (g : ∀ q ∈ ss, q ∈ rs) : Sets H names ss := fun q hq => h q (g q hq)
theorem strs_perm {ys : List V} {names : List Str} (p : ys.Perm (names.map V.str)) : ∃ zs : List Str, zs.Perm names ∧ ys = zs.map V.str := by
  let back : V → Str := fun v => match v with | .str x => x | _ => Str.empty
  have e : (names.map V.str).map back = names := by
    rw [List.map_map]
    exact List.map_id'' (fun _ => rfl) _
  refine ⟨ys.map back, by have q := p.map back; rwa [e] at q, ?_⟩
  rw [List.map_map]
  conv => lhs; rw [← List.map_id ys]
  refine List.map_congr_left fun v hv => ?_
  obtain ⟨x, _, rfl⟩ := List.mem_map.mp (p.mem_iff.mp hv)
  rfl
theorem refs_perm {ys : List V} {rs : List Addr} (p : ys.Perm (rs.map V.ref)) : ∃ zs : List Addr, zs.Perm rs ∧ ys = zs.map V.ref := by
  let back : V → Addr := fun v => match v with | .ref x => x | _ => 0
  have e : (rs.map V.ref).map back = rs := by
    rw [List.map_map]
    exact List.map_id'' (fun _ => rfl) _
  refine ⟨ys.map back, by have q := p.map back; rwa [e] at q, ?_⟩
  rw [List.map_map]
  conv => lhs; rw [← List.map_id ys]
  refine List.map_congr_left fun v hv => ?_
  obtain ⟨x, _, rfl⟩ := List.mem_map.mp (p.mem_iff.mp hv)
  rfl
theorem cut_map {α : Type} (f : α → V) (zs : List α) (lo hi : Option Int) : ∃ ws : List α, cutV (zs.map f) lo hi = ws.map f ∧ ws.Sublist zs := by
  unfold cutV
  rw [← List.map_drop, ← List.map_take]
  exact ⟨_, rfl, (List.take_sublist _ _).trans (List.drop_sublist _ _)⟩
theorem pe_revLK {X : Cx} {e : Expr} {te : TE} {k : Nat} {p1 p2 p3 pos : Pos} (K : PySem.W.Frag) (hK : X.K = K) (he : PE X e te) : PE X (.Subscript e (.Slice none none (some (.UnaryOp .USub (.Constant (.int 1) k p1) p2)) p3) pos) (tRevL K te) := by
  subst hK
  exact pe_revL he
theorem cut_one (xs : List V) : cutV xs none (some 1) = xs.take 1 := by
  cases xs with
  | nil => rfl
  | cons x r => simp [cutV, HT.sIx]
theorem Keep.free {b v : Addr} {H H' : Hp} (k : Keep b H H') (t : Tp H' b) (n : H' v = none) : H v = none := by
  cases e : H v with
  | none => rfl
  | some o =>
    have vb : v ≠ b := fun z => t.is (z ▸ n)
    rw [k v o vb e] at n
    cases n
def spDrawn : Sp := fun vs H Q _ => ∃ (b l : Addr) (names : List Str), vs = [.ref b, .ref l] ∧ Tp H b ∧ H l = some (.lst (names.map V.str)) ∧ names.Nodup ∧ names.length ≤ 6 ∧
  ∀ p rs H', Keep b H H' → Tp H' b → H p = none → H' p = some (.lst (rs.map V.ref)) → Sets H' names rs → rs.length ≤ 6 → Q (.ref p) H'
section
variable {P : Program} {w : World} {K : PySem.W.Frag} {mg : Str → Option Value} {base : Heap}
abbrev NDr : List Str := ["_law_tape_here", "_law_folk_told", "_law_found", "_law_k", "_law_size", "_law_lot"]
theorem scDr : FnScope NDr ["_law_tape_here", "_law_folk_told"] (defScope (top 55)) := ⟨rfl, rfl, rfl, by decide +kernel, rfl, by decide +kernel, by decide +kernel⟩
theorem ok_drawn {f : Addr} {fd : FuncData} (F : L2.Fun K "_law_drawn_sets" "_law_drawn_sets" (top 55) f fd) (T : Bt mg) (TK : Cal P w K mg base "_law_pick" 1 ["_law_tape_here", "_law_many"] spPick) (MX : Cal P w K mg base "_law_mixed" 2 ["_law_tape_here", "_law_items"] (spMixed K)) :
    FnOk P w K mg base CX0 3 f fd ["_law_tape_here", "_law_folk_told"] spDrawn := by
  refine F.ok scDr (fun vs H Q E h => ?_) (fun cdv A outer s H vs Q E hr h => ?_)
  · obtain ⟨b, l, xs, rfl, _⟩ := h
    rfl
  · obtain ⟨b, l, names, rfl, tp, hl, nd, few, go⟩ := h
    have h1 := hr.mono (show 1 ≤ 2 by decide)
    have h2 := hr.mono (show 2 ≤ 2 by decide)
    refine ⟨_, pss_cons (ps_set (i := 2) scDr.nd rfl (.inl rfl) (pe_lst pa_nil))
      (Evl.pss_cut (ps_for PassesOwn.never rfl (pi_range1 rfl T.range (pa_cons (pe_cal TK h1 (pa_cons (pv 0) (pa_cons pe_int pa_nil))) pa_nil)) (pg_name (i := 3) scDr.nd rfl (.inl rfl))
        (pss_cons (ps_set (i := 4) scDr.nd rfl (.inl rfl) (pe_ix ix_list (pe_lst (pa_cons pe_int (pa_cons pe_int (pa_cons pe_int (pa_cons pe_int (pa_cons (pe_callB call_len_seq (by rfl) T.len PySem.boot_len (pa_cons (pv 1) pa_nil)) pa_nil)))))) (pe_cal TK h1 (pa_cons (pv 0) (pa_cons pe_int pa_nil))) (fun _ _ => rfl)))
        (pss_one (ps_expr (pe_bm PySem.F.plainAttrs_list PySem.F.slot_list_append PySem.F.type_list_append mt_append (pv 2) (pa_cons (pe_slice sl_list (pe_cal MX h2 (pa_cons (pv 0) (pa_cons (pv 1) pa_nil))) po_none (po_some (pv 4))) pa_nil))))))
      (Evl.pss_cut (ps_if (pt_cmpR op_eq (pe_cal TK h1 (pa_cons (pv 0) (pa_cons pe_int pa_nil))) pe_int (nomark _))
        (pss_one (ps_expr (pe_bm PySem.F.plainAttrs_list PySem.F.slot_list_append PySem.F.type_list_append mt_append (pv 2) (pa_cons (pe_lst pa_nil) pa_nil)))) pss_nil)
      (Evl.pss_cut (ps_if (pt_cmpR op_eq (pe_cal TK h1 (pa_cons (pv 0) (pa_cons pe_int pa_nil))) pe_int (nomark _))
        (pss_one (ps_set (i := 2) scDr.nd rfl (.inl rfl) (pe_op op_cat (pv 2)
          (pe_lc (own := [("_law_lot", 5)]) (g := gName 5) (tt := tYes) rfl scDr.nd (pi_list (pe_slice sl_list (pv 2) po_none (po_some pe_int))) (blkOk_by (N := NDr) (sc := defScope (top 55)) (by decide +kernel)) (fun _ _ _ _ _ => pg_name (i := 5) scDr.nd rfl (Or.inl rfl)) (fun _ _ _ _ _ => pts_nil)
            (fun _ _ _ _ _ => pe_revLK K rfl (pv 5)))))) pss_nil)
      (pss_one (ps_ret (pe_cal MX h2 (pa_cons (pv 0) (pa_cons (pv 2) pa_nil)))))))), ?_⟩
    let Mid : Nat → L2.St → Hp → Prop := fun n σ H9 => ∃ p v3 v4 v5 rs, σ = [some (.ref b), some (.ref l), some (.ref p), v3, v4, v5] ∧ Keep b H H9 ∧ Tp H9 b ∧ H p = none ∧ H9 p = some (.lst (rs.map V.ref)) ∧ Sets H9 names rs ∧ rs.length ≤ n
    -- a set more
    have more : ∀ {H9 H8 : Hp} {p u : Addr} {rs : List Addr} {lot : List Str}, Keep b H H9 → Tp H9 b → H p = none → H9 p = some (.lst (rs.map V.ref)) → Sets H9 names rs → H9 u = none → H8 = upd (upd H9 u (.lst (lot.map V.str))) p (.lst (rs.map V.ref ++ [.ref u])) → lot.Nodup → (∀ x ∈ lot, x ∈ names) →
        Keep b H H8 ∧ Tp H8 b ∧ H8 p = some (.lst ((rs ++ [u]).map V.ref)) ∧ Sets H8 names (rs ++ [u]) := by
      intro H9 H8 p u rs lot k t np e se nu eq ln li
      have up : u ≠ p := Ne.symm (ne_of_none e nu)
      have pb : p ≠ b := tp_ne_refs t e
      have ex : ∀ {q : Addr} {z : List Str}, H9 q = some (.lst (z.map V.str)) → q ∈ rs → q ≠ p := by
        rintro q z f hq rfl
        rw [e] at f
        cases rs with
        | nil => cases hq
        | cons r0 rs0 => cases z <;> cases f
      subst eq
      refine ⟨(k.trans (Keep.new nu)).other np rfl, (t.new nu).other pb, by rw [List.map_append]; exact upd_same, fun q hq => ?_⟩
      rcases List.mem_append.mp hq with hq | hq
      · obtain ⟨z, f, g⟩ := se q hq
        exact ⟨z, by rw [upd_ne (ex f hq), upd_ne (ne_of_none f nu)]; exact f, g⟩
      · rw [List.mem_singleton.mp hq]
        exact ⟨lot, by rw [upd_ne up]; exact upd_same, ln, li⟩
    refine ⟨by show 0 ≤ sizeLine; decide, fun p0 n0 => ?_⟩
    have bn := tp.is
    have a0 : (upd H p0 (.lst [])) p0 = some (.lst []) := upd_same
    have t0 := tp.new (o := .lst []) n0
    have k0 : Keep b H (upd H p0 (.lst [])) := Keep.new n0
    show Evl.tCut _ _ _ _ (upd H p0 (.lst []))
    generalize upd H p0 (.lst []) = H0 at a0 t0 k0 ⊢
    have big : (1000 : Nat) ≤ sizeLine := by decide
    have lb : l ≠ b := tp_ne tp hl
    refine ⟨Mid 4, ?_, ?_⟩
    · refine ⟨_, rfl, b, 5, rfl, t0, by decide, by decide, fun r H1 r0 r1 k1 t1 => ⟨_, rfl, by omega, by omega, for_range (fun i σ H9 => i ≤ r.toNat ∧ Mid i σ H9) ?_ ?_ ?_⟩⟩
      · exact ⟨by omega, p0, _, _, _, [], rfl, k0.trans k1, t1, n0, k1 _ _ (fun e => bn (e ▸ n0)) a0, (fun q hq => nomatch hq), Nat.le_refl _⟩
      · rintro i σ H9 hi ⟨il, p, v3, v4, v5, rs, rfl, k9, t9, np, e9, se, sz⟩
        have i4 : i < 4 := by omega
        have hl9 := k9 _ _ lb hl
        refine ⟨_, rfl, l, _, rfl, .inl (SqL.of hl9), by show 5 ≤ sizeLine; omega, fun l5 n5 => ?_⟩
        have kk : Keep b H (upd H9 l5 (.lst [.int 1, .int 2, .int 2, .int 3, .int ((names.map V.str).length : Nat)])) := k9.trans (Keep.new n5)
        have tt := t9.new (o := .lst [.int 1, .int 2, .int 2, .int 3, .int ((names.map V.str).length : Nat)]) n5
        have e5 : (upd H9 l5 (.lst [.int 1, .int 2, .int 2, .int 3, .int ((names.map V.str).length : Nat)])) l5 = some (.lst [.int 1, .int 2, .int 2, .int 3, .int ((names.map V.str).length : Nat)]) := upd_same
        have ep : (upd H9 l5 (.lst [.int 1, .int 2, .int 2, .int 3, .int ((names.map V.str).length : Nat)])) p = some (.lst (rs.map V.ref)) := (Keep.new n5 : Keep b _ _) _ _ (tp_ne_refs t9 e9) e9
        have ss : Sets (upd H9 l5 (.lst [.int 1, .int 2, .int 2, .int 3, .int ((names.map V.str).length : Nat)])) names rs := se.keep t9 (Keep.new n5)
        have b5 : l5 ≠ b := fun e => t9.is (e ▸ n5)
        generalize upd H9 l5 (.lst [.int 1, .int 2, .int 2, .int 3, .int ((names.map V.str).length : Nat)]) = Ha at kk tt e5 ep ss ⊢
        refine ⟨_, rfl, b, 5, rfl, tt, by decide, by decide, fun r H1 r0 r1 k1 t1 => ?_⟩
        have e51 := k1 _ _ b5 e5
        have ep1 := k1 _ _ (tp_ne_refs tt ep) ep
        have s1 := ss.keep tt k1
        have k91 := kk.trans k1
        obtain ⟨z, hz⟩ : ∃ z : Int, atI [V.int 1, .int 2, .int 2, .int 3, .int ((names.map V.str).length : Nat)] r = some (.int z) := by
          rcases (by omega : r = 0 ∨ r = 1 ∨ r = 2 ∨ r = 3 ∨ r = 4) with e | e | e | e | e <;> subst e <;> exact ⟨_, rfl⟩
        refine ⟨l5, _, r, .int z, rfl, rfl, SqL.of e51, hz, ?_⟩
        refine ⟨_, rfl, .inl ⟨rfl, _, SqL.of ep1⟩, _, rfl, _, rfl, b, l, _, rfl, t1, .inl (SqL.of (k91 _ _ lb hl)), by rw [List.length_map]; omega, fun q ys H2 pm k2 t2 nq eq => ?_⟩
        obtain ⟨zs, pz, rfl⟩ := strs_perm pm
        obtain ⟨ws, ew, sw⟩ := cut_map V.str zs none (some z)
        refine ⟨_, rfl, _, rfl, q, _, rfl, SqL.of eq, fun u nu => ?_⟩
        rw [ew]
        have ep2 := k2 _ _ (tp_ne_refs t1 ep1) ep1
        have s2 := s1.keep t1 k2
        have ndz : zs.Nodup := pz.nodup_iff.mpr nd
        have q0 := more (k91.trans k2) t2 np ep2 s2 nu rfl (List.Pairwise.sublist sw ndz) fun x hx => pz.mem_iff.mp (sw.subset hx)
        have up : p ≠ u := ne_of_none ep2 nu
        refine ⟨p, _, .ref u, rfl, rfl, by rw [upd_ne up]; exact ep2, by rw [List.length_map]; omega, ?_⟩
        exact ⟨by omega, p, _, _, _, rs ++ [u], rfl, q0.1, q0.2.1, np, q0.2.2.1, q0.2.2.2, by rw [List.length_append]; show _ + 1 ≤ _; omega⟩
      · rintro σ H9 ⟨hi, p, v3, v4, v5, rs, rfl, k9, t9, np, e9, se, sz⟩
        exact ⟨p, v3, v4, v5, rs, rfl, k9, t9, np, e9, se, by omega⟩
    rintro σ H9 ⟨p, v3, v4, v5, rs, rfl, k9, t9, np, e9, se, sz⟩
    refine ⟨Mid 5, ?_, ?_⟩
    · refine ⟨_, rfl, b, 9, rfl, t9, by decide, by decide, fun r H1 r0 r1 k1 t1 => ⟨by trivial, _, rfl, ite2 (fun c => ?_) (fun c => ?_)⟩⟩
      · have ep1 := k1 _ _ (tp_ne_refs t9 e9) e9
        refine ⟨_, rfl, .inl ⟨rfl, _, SqL.of ep1⟩, by show 0 ≤ sizeLine; omega, fun u nu => ?_⟩
        have q0 := more (lot := []) (k9.trans k1) t1 np ep1 (se.keep t9 k1) nu rfl List.nodup_nil fun x hx => nomatch hx
        refine ⟨p, _, .ref u, rfl, rfl, by rw [upd_ne (ne_of_none ep1 nu)]; exact ep1, by rw [List.length_map]; omega, ?_⟩
        exact ⟨p, _, _, _, rs ++ [u], rfl, q0.1, q0.2.1, np, q0.2.2.1, q0.2.2.2, by rw [List.length_append]; show _ + 1 ≤ _; omega⟩
      · exact ⟨p, _, _, _, rs, rfl, k9.trans k1, t1, np, k1 _ _ (tp_ne_refs t9 e9) e9, se.keep t9 k1, by omega⟩
    rintro σ H9 ⟨p, v3, v4, v5, rs, rfl, k9, t9, np, e9, se, sz⟩
    refine ⟨Mid 6, ?_, ?_⟩
    · refine ⟨_, rfl, b, 4, rfl, t9, by decide, by decide, fun r H1 r0 r1 k1 t1 => ⟨by trivial, _, rfl, ite2 (fun c => ?_) (fun c => ?_)⟩⟩
      · have ep1 := k1 _ _ (tp_ne_refs t9 e9) e9
        have s1 := se.keep t9 k1
        refine ⟨_, rfl, _, rfl, _, rfl, p, _, rfl, SqL.of ep1, fun u nu => ?_⟩
        rw [cut_one, ← List.map_take]
        have k2 : Same H1 (upd H1 u (.lst ((rs.take 1).map V.ref))) := same_new nu
        have t2 := t1.new (o := .lst ((rs.take 1).map V.ref)) nu
        have e2 : (upd H1 u (.lst ((rs.take 1).map V.ref))) u = some (.lst ((rs.take 1).map V.ref)) := upd_same
        generalize upd H1 u (.lst ((rs.take 1).map V.ref)) = H2 at k2 t2 e2 ⊢
        refine ⟨u, rfl, ⟨_, SqL.of e2⟩, fun D hD => ?_⟩
        refine lc_list (K := K) (a := u) (xs := (rs.take 1).map V.ref) (fun j H3 => ∃ ss : List Addr, H3 D = some (.lst (ss.map V.ref)) ∧ Same H2 H3 ∧ Sets H3 names ss ∧ ss.length = j ∧ ∀ q ∈ ss, q ≠ D)
          ⟨[], upd_same, same_new hD, (fun q hq => nomatch hq), rfl, fun q hq => nomatch hq⟩ (fun j H3 _ ⟨ss, _, s3, _⟩ => SqL.of (s3 _ _ e2)) ?_ ?_
        · rintro j z H3 hz ⟨ss, d3, s3, lo3, sz3, out3⟩
          rw [List.getElem?_map] at hz
          obtain ⟨q, hq, rfl⟩ := Option.map_eq_some_iff.mp hz
          have hj := (List.getElem?_eq_some_iff.mp hq).1
          rw [List.length_take] at hj
          obtain ⟨lot, e, ln, li⟩ := s1 q (List.mem_of_mem_take (List.mem_of_getElem? hq))
          have e3 := s3 _ _ (k2 _ _ e)
          refine ⟨rfl, iteT (B := True) ⟨_, rfl, q, _, rfl, SqL.of e3, fun v nv => ?_⟩⟩
          rw [← List.map_reverse]
          have d5 : (upd H3 v (.lst (lot.reverse.map V.str))) D = some (.lst (ss.map V.ref)) := (same_new nv) _ _ d3
          have s5 : Same H2 (upd H3 v (.lst (lot.reverse.map V.str))) := s3.trans (same_new nv)
          have v5 : (upd H3 v (.lst (lot.reverse.map V.str))) v = some (.lst (lot.reverse.map V.str)) := upd_same
          have l5 : Sets (upd H3 v (.lst (lot.reverse.map V.str))) names ss := fun q hq => let ⟨z, f, g⟩ := lo3 q hq; ⟨z, (same_new nv) _ _ f, g⟩
          have vD : v ≠ D := Ne.symm (ne_of_none d3 nv)
          generalize upd H3 v (.lst (lot.reverse.map V.str)) = H5 at d5 s5 v5 l5 ⊢
          have nD : ∀ {q : Addr} {o : HO}, H5 q = some o → q ≠ D → (upd H5 D (.lst (ss.map V.ref ++ [.ref v]))) q = some o := fun e n => by rw [upd_ne n]; exact e
          refine ⟨_, d5, by rw [List.length_map]; omega, ss ++ [v], by rw [List.map_append]; exact upd_same, fun b o e => nD (s5 _ _ e) (ne_of_none e hD), fun q hq => ?_, by rw [List.length_append, sz3] <;> rfl, fun q hq => ?_⟩
          · rcases List.mem_append.mp hq with hq | hq
            · obtain ⟨z, f, g⟩ := l5 q hq
              exact ⟨z, nD f (out3 q hq), g⟩
            · rw [List.mem_singleton.mp hq]
              exact ⟨lot.reverse, nD v5 vD, (List.reverse_perm lot).nodup_iff.mpr ln, fun x hx => li x (List.mem_reverse.mp hx)⟩
          · rcases List.mem_append.mp hq with hq | hq
            · exact out3 q hq
            · rw [List.mem_singleton.mp hq]
              exact vD
        · rintro H3 ⟨ss, d3, s3, lo3, sz3, _⟩
          rw [List.length_map, List.length_take] at sz3
          have e3 := s3 _ _ (k2 _ _ ep1)
          refine ⟨_, _, _, _, rfl, rfl, e3, d3, by rw [List.length_map, List.length_map]; omega, fun v nv => ?_⟩
          have k3 : Keep b H1 (upd H3 v (.lst (rs.map V.ref ++ ss.map V.ref))) := fun c o n e => (same_new nv) _ _ (s3 _ _ (k2 _ _ e))
          have t3 : Tp (upd H3 v (.lst (rs.map V.ref ++ ss.map V.ref))) b := by
            obtain ⟨x, y, e, r⟩ := t2
            exact ⟨x, y, (same_new nv) _ _ (s3 _ _ e), r⟩
          have kf : Keep b H (upd H3 v (.lst (rs.map V.ref ++ ss.map V.ref))) := (k9.trans k1).trans k3
          have nf : H v = none := by
            have t3' : Tp H3 b := by
              obtain ⟨x, y, e, r⟩ := t2
              exact ⟨x, y, s3 _ _ e, r⟩
            exact Keep.free ((k9.trans k1).trans fun c o n e => s3 _ _ (k2 _ _ e)) t3' nv
          exact ⟨v, _, _, _, rs ++ ss, rfl, kf, t3, nf, by rw [List.map_append]; exact upd_same, (s1.keep t1 k3).app fun q hq => let ⟨z, f, g⟩ := lo3 q hq; ⟨z, (same_new nv) _ _ f, g⟩, by rw [List.length_append, sz3]; omega⟩
      · exact ⟨p, _, _, _, rs, rfl, k9.trans k1, t1, np, k1 _ _ (tp_ne_refs t9 e9) e9, se.keep t9 k1, by omega⟩
    rintro σ H9 ⟨p, v3, v4, v5, rs, rfl, k9, t9, np, e9, se, sz⟩
    refine ⟨_, rfl, _, rfl, b, p, _, rfl, t9, .inl (SqL.of e9), by rw [List.length_map]; omega, fun q ys H2 pm k2 t2 nq eq => ?_⟩
    obtain ⟨zs, pz, rfl⟩ := refs_perm pm
    exact go q zs H2 (k9.trans k2) t2 (k9.free t9 nq) eq ((se.keep t9 k2).sub fun x hx => pz.mem_iff.mp hx) (by rw [pz.length_eq]; exact sz)
end
end K42

set_option Elab.async false
set_option linter.all false
set_option maxRecDepth 100000
set_option maxHeartbeats 4000000
set_option exponentiation.threshold 3000
/-! The law over draws for families: draws of fair turns as data; who forces yes. -/
namespace K42
open PySem PySem.Spec PyProof.Rows L2 Vx Vr
inductive Dr where
  | fin (nm : Str)
  | turn (who : Str) (x y : Dr)
def Dr.deep : Dr → Nat
  | .fin _ => 0
  | .turn _ x y => max x.deep y.deep + 1
/-- whether some people force yes -/
def frc (who : List Str) : Dr → Bool
  | .fin nm => decide (nm = "yes")
  | .turn p x y => if p ∈ who then frc who x || frc who y else frc who x && frc who y
/-- what further attributes say -/
abbrev Rest := Dr → List (Str × V) → Hp → Prop
def IsD (K : PySem.W.Frag) (CE CR C : Addr) (M : Rest) (H : Hp) : Addr → Dr → Prop
  | a, .fin nm => ∃ dx fs g dr, H a = some (.ins CE dx fs) ∧ fs.lookup ("_word" : Str) = some (.str nm) ∧ fs.lookup ("_givers" : Str) = some (.ref g) ∧ fs.lookup ("_draws" : Str) = some (.ref dr) ∧ SqT K H g [] ∧ SqT K H dr [] ∧ M (.fin nm) fs H
  | a, .turn who x y => ∃ dx fs g g1 sh r1 r2 dr a1 a2, H a = some (.ins CR dx fs) ∧ fs.lookup ("_word" : Str) = some (.str "open") ∧ fs.lookup ("_givers" : Str) = some (.ref g) ∧ fs.lookup ("_draws" : Str) = some (.ref dr) ∧
      SqT K H g [.ref g1] ∧ SqT K H g1 [.str who, .ref sh, .int 0] ∧ SqT K H sh [.ref r1, .ref r2] ∧ Rt C H r1 1 2 ∧ Rt C H r2 1 2 ∧ SqT K H dr [.ref a1, .ref a2] ∧ IsD K CE CR C M H a1 x ∧ IsD K CE CR C M H a2 y ∧ M (.turn who x y) fs H
def MonR (M : Rest) : Prop := ∀ d fs H H', Same H H' → M d fs H → M d fs H'
theorem IsD.same {K : PySem.W.Frag} {CE CR C : Addr} {M : Rest} (mo : MonR M) {H H' : Hp} (s : Same H H') : ∀ {d : Dr} {a : Addr}, IsD K CE CR C M H a d → IsD K CE CR C M H' a d
  | .fin nm, a, ⟨dx, fs, g, dr, h1, h2, h3, h4, h5, h6, h7⟩ => ⟨dx, fs, g, dr, s _ _ h1, h2, h3, h4, SqT.ext h5 s, SqT.ext h6 s, mo _ _ _ _ s h7⟩
  | .turn who x y, a, ⟨dx, fs, g, g1, sh, r1, r2, dr, a1, a2, h1, h2, h3, h4, h5, h6, h7, h8, h9, h10, h11, h12, h13⟩ =>
    ⟨dx, fs, g, g1, sh, r1, r2, dr, a1, a2, s _ _ h1, h2, h3, h4, SqT.ext h5 s, SqT.ext h6 s, SqT.ext h7 s, h8.same s, h9.same s, SqT.ext h10 s, IsD.same mo s h11, IsD.same mo s h12, mo _ _ _ _ s h13⟩
/-- what the classes must be -/
structure Dk (P : Program) (w : World) (K : PySem.W.Frag) (mg : Str → Option Value) (base : Heap) (CE CR : Addr) : Prop where
  ownE : Own K CE
  ownR : Own K CR
  haE : PySem.W.findIn K (.ref CE) "__class__" = some (some (.builtin "object.__class__"))
  haR : PySem.W.findIn K (.ref CR) "__class__" = some (some (.builtin "object.__class__"))
  hn : PySem.W.specialIn K (.builtin "object.__class__") "__get__" = some (some (.builtin "getset_descriptor.__get__"))
  tk : PySem.W.takesIn K (.builtin "object.__class__") = some true
  iEE : PySem.W.kitOne K (.ref CE) (.ref CE) = some true
  iRE : PySem.W.kitOne K (.ref CR) (.ref CE) = some false
  iRR : PySem.W.kitOne K (.ref CR) (.ref CR) = some true
  iER : PySem.W.kitOne K (.ref CE) (.ref CR) = some false
  gE : mg "End" = some (.ref CE)
  gR : mg "Round" = some (.ref CR)
  name : ∃ (p g : Addr) (fd : FuncData), PropOf K CE "name" p g ∧ FnOk P w K mg base CX0 1 g fd ["self"] (getSp CE "_word") ∧ Binds K fd ["self"] []
  kind : ∃ (p g : Addr) (fd : FuncData), PropOf K CR "kind" p g ∧ FnOk P w K mg base CX0 1 g fd ["self"] (getSp CR "_word") ∧ Binds K fd ["self"] []
  givers : ∃ (p g : Addr) (fd : FuncData), PropOf K CR "givers" p g ∧ FnOk P w K mg base CX0 1 g fd ["self"] (getSp CR "_givers") ∧ Binds K fd ["self"] []
  draws : ∃ (p g : Addr) (fd : FuncData), PropOf K CR "draws" p g ∧ FnOk P w K mg base CX0 1 g fd ["self"] (getSp CR "_draws") ∧ Binds K fd ["self"] []
section
variable {X : Cx} {CE CR : Addr} {e : Expr} {ta : TE} {pos : Pos}
theorem Dk.tyE {P : Program} {w : World} {K : PySem.W.Frag} {mg : Str → Option Value} {base : Heap} (D : Dk P w K mg base CE CR) {H : Hp} {a dx : Addr} {fs : List (Str × V)} (h : H a = some (.ins CE dx fs)) : TyX K H (.ref a) (.ref CE) := .base (.ins h D.ownE.cls D.haE D.hn D.tk D.ownE.obj)
theorem Dk.tyR {P : Program} {w : World} {K : PySem.W.Frag} {mg : Str → Option Value} {base : Heap} (D : Dk P w K mg base CE CR) {H : Hp} {a dx : Addr} {fs : List (Str × V)} (h : H a = some (.ins CR dx fs)) : TyX K H (.ref a) (.ref CR) := .base (.ins h D.ownR.cls D.haR D.hn D.tk D.ownR.obj)
theorem pe_name (D : Dk X.prog X.w X.K X.mg X.base CE CR) (hr : Room 2 X.A) (he : PE X e ta) (hab : attributeBase e "name" X.env (eval e X.env) = eval e X.env := by rfl) : PE X (.Attribute e "name" pos) (tProp CE (getSp CE "_word") [] E0 ta) := by
  obtain ⟨p, g, fd, Pr, F, b⟩ := D.name
  exact pe_prop he D.ownE.cls Pr F hr b .nil pass0 hab
theorem pe_kind (D : Dk X.prog X.w X.K X.mg X.base CE CR) (hr : Room 2 X.A) (he : PE X e ta) (hab : attributeBase e "kind" X.env (eval e X.env) = eval e X.env := by rfl) : PE X (.Attribute e "kind" pos) (tProp CR (getSp CR "_word") [] E0 ta) := by
  obtain ⟨p, g, fd, Pr, F, b⟩ := D.kind
  exact pe_prop he D.ownR.cls Pr F hr b .nil pass0 hab
theorem pe_givers (D : Dk X.prog X.w X.K X.mg X.base CE CR) (hr : Room 2 X.A) (he : PE X e ta) (hab : attributeBase e "givers" X.env (eval e X.env) = eval e X.env := by rfl) : PE X (.Attribute e "givers" pos) (tProp CR (getSp CR "_givers") [] E0 ta) := by
  obtain ⟨p, g, fd, Pr, F, b⟩ := D.givers
  exact pe_prop he D.ownR.cls Pr F hr b .nil pass0 hab
theorem pe_draws (D : Dk X.prog X.w X.K X.mg X.base CE CR) (hr : Room 2 X.A) (he : PE X e ta) (hab : attributeBase e "draws" X.env (eval e X.env) = eval e X.env := by rfl) : PE X (.Attribute e "draws" pos) (tProp CR (getSp CR "_draws") [] E0 ta) := by
  obtain ⟨p, g, fd, Pr, F, b⟩ := D.draws
  exact pe_prop he D.ownR.cls Pr F hr b .nil pass0 hab
end
def spYes (K : PySem.W.Frag) (CE CR C : Addr) (M : Rest) (n : Nat) : Sp := fun vs H Q _ => ∃ (a wl : Addr) (d : Dr) (who : List Str), vs = [.ref a, .ref wl] ∧ IsD K CE CR C M H a d ∧ d.deep < n ∧ SqL K H wl (who.map V.str) ∧ ∀ H', Same H H' → Q (.bl (frc who d)) H'
section
variable {P : Program} {w : World} {K : PySem.W.Frag} {mg : Str → Option Value} {base : Heap} {CE CR C : Addr} {M : Rest}
abbrev NYes : List Str := ["_law_draw", "_law_who", "_law_parts", "_law_one"]
theorem scYes : FnScope NYes ["_law_draw", "_law_who"] (defScope (top 54)) := ⟨rfl, rfl, rfl, by decide +kernel, rfl, by decide +kernel, by decide +kernel⟩
theorem flat_all {who : List Str} : (who.map V.str).all flatV = true := L2.flat_strs who
theorem inV_str (x : Str) (who : List Str) : inV (.str x) (who.map V.str) = decide (x ∈ who) := by
  unfold inV
  rw [List.any_map, Bool.eq_iff_iff, List.any_eq_true, decide_eq_true_eq]
  constructor
  · rintro ⟨y, hy, e⟩
    have : y = x := by simpa [eqV] using e
    exact this ▸ hy
  · intro h
    exact ⟨x, h, by simp [eqV]⟩
end
end K42

set_option Elab.async false
set_option linter.all false
set_option maxRecDepth 100000
set_option maxHeartbeats 4000000
set_option exponentiation.threshold 3000
/-! The law over draws for families: who forces yes, by the law's own walk. -/
namespace K42
open PySem PySem.Spec PyProof.Rows L2 Vx Vr
section
variable {P : Program} {w : World} {K : PySem.W.Frag} {mg : Str → Option Value} {base : Heap} {CE CR C : Addr} {M : Rest}
theorem ok_yes {f : Addr} {fd : FuncData} (F : L2.Fun K "_law_yes" "_law_yes" (top 54) f fd) (T : Bt mg) (D : Dk P w K mg base CE CR) (mo : MonR M) (own : mg "_law_yes" = some (.ref f)) (kp : PySem.W.keepIn K (.ref f) = true) (bd : Binds K fd ["_law_draw", "_law_who"] []) :
    ∀ n, FnOk P w K mg base CX0 (n + 2) f fd ["_law_draw", "_law_who"] (spYes K CE CR C M n) := by
  intro n
  induction n with
  | zero => exact ⟨fun vs H Q E ⟨a, wl, d, who, _, _, lt, _⟩ => absurd lt (Nat.not_lt_zero _), fun A outer s H args us vs Q E _ _ _ _ ⟨a, wl, d, who, _, _, lt, _⟩ => absurd lt (Nat.not_lt_zero _)⟩
  | succ n ih =>
    have S : Cal P w K mg base "_law_yes" (n + 2) ["_law_draw", "_law_who"] (spYes K CE CR C M n) := ⟨f, fd, ih, own, kp, bd⟩
    refine F.ok scYes (fun vs H Q E h => ?_) (fun cdv A outer s H vs Q E hr h => ?_)
    · obtain ⟨a, wl, d, who, rfl, _⟩ := h
      rfl
    · obtain ⟨a, wl, d, who, rfl, isd, lt, hw, go⟩ := h
      have h2 := hr.mono (show 2 ≤ n + 2 by omega)
      refine ⟨_, pss_cons (ps_if (pt_val (pe_callB call_isi (by rfl) T.isi (by decide +kernel) (pa_cons (pv 0) (pa_cons (pe_glob (v := .ref CE) (by rfl) D.gE rfl) pa_nil)))) (pss_one (ps_ret (pe_cmpR op_eq (pe_name D h2 (pv 0)) pe_str (nomark _)))) pss_nil)
        (pss_cons (ps_setLc (i := 2) (own := [("_law_one", 3)]) (g := gName 3) (tt := tYes) rfl scYes.nd rfl rfl (sw_true rfl rfl rfl (by decide +kernel)) (pi_tup (pe_draws D h2 (pv 0))) (blkOk_by (N := NYes) (sc := defScope (top 54)) (by decide +kernel))
            (fun _ _ _ _ _ => pg_name (i := 3) scYes.nd rfl (Or.inl rfl)) (fun _ _ _ _ _ => pts_nil) (fun _ _ _ _ _ => pe_cal S hr (pa_cons (pv 3) (pa_cons (pv 1) pa_nil))))
        (pss_one (ps_ret (pe_ifExp (pt_cmpR op_in_seq (pe_ix ix_tup (pe_ix ix_tup (pe_givers D h2 (pv 0)) pe_int (fun _ _ => rfl)) pe_int (fun _ _ => rfl)) (pv 1) (by rfl)) (pe_cmpR op_in_seq pe_bl (pv 2) (by rfl)) (pe_cmpR op_notIn_seq pe_bl (pv 2) (by rfl)))))), ?_⟩
      cases d with
      | fin nm =>
        obtain ⟨dx, fs, g, dr, e, lw, _⟩ := id isd
        refine ⟨_, rfl, .ref a, .ref CE, .ref CE, _, _, rfl, .own CE, D.tyE e, D.iEE, _, rfl, iteT ?_⟩
        refine ⟨_, rfl, a, dx, fs, rfl, e, a, dx, fs, _, rfl, e, lw, by trivial, ?_⟩
        show Q (V.bl (decide (V.str nm = V.str ("yes" : Str)))) H
        have eq : decide (V.str nm = V.str ("yes" : Str)) = frc who (.fin nm) := by
          unfold frc
          rw [decide_eq_decide]
          exact ⟨fun z => V.str.inj z, fun z => by rw [z]⟩
        rw [eq]
        exact go H (Same.refl _)
      | turn p x y =>
        obtain ⟨dx, fs, g, g1, sh, r1, r2, dr, a1, a2, e, lw, lg, ld, eg, eg1, esh, _, _, edr, i1, i2, _⟩ := id isd
        refine ⟨_, rfl, .ref a, .ref CE, .ref CR, _, _, rfl, .own CE, D.tyR e, D.iRE, _, rfl, iteF ?_⟩
        refine ⟨_, rfl, a, dx, fs, rfl, e, a, dx, fs, _, rfl, e, ld, dr, rfl, ⟨_, edr⟩, fun L nL => ?_⟩
        have dx' : x.deep < n := by
          unfold Dr.deep at lt
          omega
        have dy' : y.deep < n := by
          unfold Dr.deep at lt
          omega
        refine lc_tup (K := K) (a := dr) (xs := [.ref a1, .ref a2]) (fun j H3 => H3 L = some (.lst (([frc who x, frc who y].take j).map V.bl)) ∧ Same H H3) ⟨upd_same, same_new nL⟩ (fun j H3 _ q => SqT.ext edr q.2) ?_ ?_
        · rintro j z H3 hz ⟨e3, s3⟩
          have put : ∀ {H4 : Hp} {acc : List V} {v : V} {o : HO}, Same H H4 → H4 L = some o → Same H (upd H4 L (.lst (acc ++ [v]))) := fun s4 e4 b o e => by rw [upd_ne (ne_of_none e nL)]; exact s4 _ _ e
          have big : (1000 : Nat) ≤ sizeLine := by decide
          rcases j with _ | _ | j
          · obtain rfl : z = .ref a1 := by simpa using hz.symm
            exact ⟨rfl, iteT (B := True) ⟨_, rfl, _, rfl, a1, wl, x, who, rfl, i1.same mo s3, dx', SqL.ext hw s3, fun H4 s4 => ⟨_, s4 _ _ e3, by show 0 < sizeLine; omega, upd_same, put (s3.trans s4) (s4 _ _ e3)⟩⟩⟩
          · obtain rfl : z = .ref a2 := by simpa using hz.symm
            exact ⟨rfl, iteT (B := True) ⟨_, rfl, _, rfl, a2, wl, y, who, rfl, i2.same mo s3, dy', SqL.ext hw s3, fun H4 s4 => ⟨_, s4 _ _ e3, by show 1 < sizeLine; omega, upd_same, put (s3.trans s4) (s4 _ _ e3)⟩⟩⟩
          · simp at hz
        · rintro H3 ⟨e3, s3⟩
          have e3' : H3 L = some (.lst [.bl (frc who x), .bl (frc who y)]) := e3
          refine ⟨_, rfl, a, dx, fs, rfl, s3 _ _ e, a, dx, fs, _, rfl, s3 _ _ e, lg, g, _, 0, .ref g1, rfl, rfl, SqT.ext eg s3, rfl, g1, _, 0, .str p, rfl, rfl, SqT.ext eg1 s3, rfl, _, rfl, wl, _, rfl, .inl (SqL.ext hw s3), rfl, flat_all, _, rfl, ?_⟩
          refine ite2 (fun c => ?_) (fun c => ?_)
          · refine ⟨_, rfl, L, _, rfl, .inl (SqL.of e3'), rfl, rfl, ?_⟩
            have pin : p ∈ who := by
              have q : inV (.str p) (who.map V.str) = true := c
              rw [inV_str] at q
              exact of_decide_eq_true q
            have eq : inV (.bl true) [.bl (frc who x), .bl (frc who y)] = frc who (.turn p x y) := by
              show _ = if p ∈ who then _ else _
              rw [if_pos pin]
              cases frc who x <;> cases frc who y <;> rfl
            show Q (.bl (inV (.bl true) [.bl (frc who x), .bl (frc who y)])) H3
            rw [eq]
            exact go H3 s3
          · refine ⟨_, rfl, L, _, rfl, .inl (SqL.of e3'), rfl, rfl, ?_⟩
            have pin : ¬ p ∈ who := fun z => c (by
              show inV (.str p) (who.map V.str) = true
              rw [inV_str]
              exact decide_eq_true z)
            have eq : (!inV (.bl false) [.bl (frc who x), .bl (frc who y)]) = frc who (.turn p x y) := by
              show _ = if p ∈ who then _ else _
              rw [if_neg pin]
              cases frc who x <;> cases frc who y <;> rfl
            show Q (.bl (!inV (.bl false) [.bl (frc who x), .bl (frc who y)])) H3
            rw [eq]
            exact go H3 s3
end
end K42

set_option Elab.async false
set_option linter.all false
set_option maxRecDepth 100000
set_option maxHeartbeats 4000000
set_option exponentiation.threshold 3000
/-! The law over draws for families: whether a draw consists of fair turns. -/
namespace K42
open PySem PySem.Spec PyProof.Rows L2 Vx Vr
/-- ends no and yes, givers out of the folk -/
def Dr.fair (folk : List Str) : Dr → Prop
  | .fin nm => nm = "no" ∨ nm = "yes"
  | .turn p x y => p ∈ folk ∧ x.fair folk ∧ y.fair folk
/-- two Ratios -/
abbrev RR (C : Addr) : Addr → Addr → Bool → Hp → Prop := fun a b r H => ∃ n d m e, Rt C H a n d ∧ Rt C H b m e ∧ r = (decide (n = m) && decide (d = e))
theorem mon_RR {C : Addr} : Se.MonA (Se.AIns C (RR C)) := Se.mon_ains fun a b r H H' s ⟨n, d, m, e, h1, h2, h3⟩ => ⟨n, d, m, e, h1.same s, h2.same s, h3⟩
theorem eqB_RR {X : Cx} {C : Addr} (M : Mth X.prog X.w X.K X.mg X.base C "__eq__" 3 ["self", "other"] (spEq X.K C)) : Se.EqB X 3 (Se.AIns C (RR C)) :=
  Se.eqB_ins M fun a b r H ⟨n, d, m, e, h1, h2, h3⟩ => ⟨a, n, d, .ref b, rfl, h1, .inl ⟨m, e, .inr ⟨b, rfl, h2⟩, fun H' s => ⟨by rw [h3], s⟩⟩⟩
theorem rd_at {C : Addr} {N D : Int} {H : Hp} {R : VK} {vs : List V} {x dx : Addr} (hx : H x = none) (hdx : H dx = none) (_ne : dx ≠ x) (e : vs = [.int N, .int D]) (hD : D ≠ 0) (lD : Lg D)
    (k : ∀ H3 n d, Same H H3 → Rt C H3 x n d → Norm N D n d → R .non H3) : spInit C (.ref x :: vs) (upd (upd H dx (.own x)) x (.ins C dx [])) R E0 := by
  subst e
  refine ⟨x, dx, N, D, rfl, upd_same, hD, lD, fun n d nm => k _ n d (fun b o e => ?_) ⟨dx, upd_same⟩ nm⟩
  rw [upd_ne (ne_of_none e hx), upd_ne (ne_of_none e hx), upd_ne (ne_of_none e hx), upd_ne (ne_of_none e hdx)]
  exact e
def spFair (K : PySem.W.Frag) (CE CR C : Addr) (M : Rest) (n : Nat) : Sp := fun vs H Q _ => ∃ (a l : Addr) (k : Nat) (d : Dr) (folk : List Str), vs = [.ref a, .ref l, .int k] ∧ IsD K CE CR C M H a d ∧ d.deep < n ∧ d.deep ≤ k ∧ d.fair folk ∧ H l = some (.lst (folk.map V.str)) ∧ ∀ H', Same H H' → Q (.bl true) H'
section
variable {P : Program} {w : World} {K : PySem.W.Frag} {mg : Str → Option Value} {base : Heap} {CE CR C : Addr} {M : Rest}
abbrev NFair : List Str := ["_law_draw", "_law_folk_told", "_law_deep", "_law_person", "_law_parts", "_law_spare", "_law_one"]
theorem scFair : FnScope NFair ["_law_draw", "_law_folk_told", "_law_deep"] (defScope (top 53)) := ⟨rfl, rfl, rfl, by decide +kernel, rfl, by decide +kernel, by decide +kernel⟩
theorem ok_fair {f : Addr} {fd : FuncData} (F : L2.Fun K "_law_is_fair" "_law_is_fair" (top 53) f fd) (T : Bt mg) (U : Bu mg) (MK : Mkr P w K mg base C) (EQ : Mth P w K mg base C "__eq__" 3 ["self", "other"] (spEq K C)) (D : Dk P w K mg base CE CR) (mo : MonR M) (own : mg "_law_is_fair" = some (.ref f)) (kp : PySem.W.keepIn K (.ref f) = true)
    (bd : Binds K fd ["_law_draw", "_law_folk_told", "_law_deep"] []) : ∀ n, FnOk P w K mg base CX0 (n + 5) f fd ["_law_draw", "_law_folk_told", "_law_deep"] (spFair K CE CR C M n) := by
  intro n
  induction n with
  | zero => exact ⟨fun vs H Q E ⟨a, l, k, d, folk, _, _, lt, _⟩ => absurd lt (Nat.not_lt_zero _), fun A outer s H args us vs Q E _ _ _ _ ⟨a, l, k, d, folk, _, _, lt, _⟩ => absurd lt (Nat.not_lt_zero _)⟩
  | succ n ih =>
    have S : Cal P w K mg base "_law_is_fair" (n + 5) ["_law_draw", "_law_folk_told", "_law_deep"] (spFair K CE CR C M n) := ⟨f, fd, ih, own, kp, bd⟩
    refine F.ok scFair (fun vs H Q E h => ?_) (fun cdv A outer s H vs Q E hr h => ?_)
    · obtain ⟨a, l, k, d, folk, rfl, _⟩ := h
      rfl
    · obtain ⟨a, l, k, d, folk, rfl, isd, lt, lk, fr, hf, go⟩ := h
      have h2 := hr.mono (show 2 ≤ n + 5 by omega)
      have h4 := hr.mono (show 4 ≤ n + 5 by omega)
      refine ⟨_, pss_cons (ps_if (pt_val (pe_callB call_isi (by rfl) T.isi (by decide +kernel) (pa_cons (pv 0) (pa_cons (pe_glob (v := .ref CE) (by rfl) D.gE rfl) pa_nil)))) (pss_one (ps_ret (pe_cmpR op_in_seq (pe_name D h2 (pv 0)) (pe_lst (pa_cons pe_str (pa_cons pe_str pa_nil))) (by rfl)))) pss_nil)
        (pss_cons (ps_if (PW.pt (pw_or (pt_not (pt_val (pe_callB call_isi (by rfl) T.isi (by decide +kernel) (pa_cons (pv 0) (pa_cons (pe_glob (v := .ref CR) (by rfl) D.gR rfl) pa_nil))))) (pw_or (pt_cmpR op_eq (pv 2) pe_int (nomark _)) (pw_or (pt_cmpR op_ne (pe_kind D h2 (pv 0)) pe_str (nomark _))
            (pw_or1 (pt_cmpR op_ne (pe_callB call_len_seq (by rfl) T.len PySem.boot_len (pa_cons (pe_givers D h2 (pv 0)) pa_nil)) pe_int (nomark _))))))) (pss_one (ps_ret pe_bl)) pss_nil)
        (pss_cons (ps_asg (pe_ix ix_tup (pe_givers D h2 (pv 0)) pe_int (fun _ _ => rfl)) (pg_tup (by rfl) (pgs_cons (pg_name (i := 3) scFair.nd rfl (.inl rfl)) (pgs_cons (pg_name (i := 4) scFair.nd rfl (.inl rfl)) (pgs_cons (pg_name (i := 5) scFair.nd rfl (.inl rfl)) pgs_nil)))))
        (pss_cons (ps_if (PW.pt (pw_or (pt_cmpR op_notIn_seq (pv 3) (pv 1) (by rfl)) (pw_or (pt_cmpR (Se.op_any (Se.rcB_lst_ne mon_RR (eqB_RR EQ)) h4) (pe_callTy call_list_of (by rfl) U.list (by decide +kernel) (pa_cons (pv 4) pa_nil)) (pe_lst (pa_cons (pe_rat MK h2 pe_int pe_int) (pa_cons (pe_rat MK h2 pe_int pe_int) pa_nil))) (nomark _))
            (pw_or1 (pt_cmpR op_ne (pv 5) pe_int (nomark _)))))) (pss_one (ps_ret pe_bl)) pss_nil)
        (pss_one (ps_ret (pe_cmpR (op_eqD hr.units) (pe_lc (own := [("_law_one", 6)]) (g := gName 6) rfl scFair.nd (pi_tup (pe_draws D h2 (pv 0))) (blkOk_by (N := NFair) (sc := defScope (top 53)) (by decide +kernel)) (fun _ _ _ _ _ => pg_name (i := 6) scFair.nd rfl (Or.inl rfl))
            (fun _ _ _ _ _ => pts_one (pt_not (pt_val (pe_cal S hr (pa_cons (pv 6) (pa_cons (pv 1) (pa_cons (pe_op op_sub (pv 2) pe_int) pa_nil))))))) (fun _ _ _ _ _ => pv 6)) (pe_lst pa_nil) (nomark _))))))), ?_⟩
      cases d with
      | fin nm =>
        obtain ⟨dx, fs, g, dr, e, lw, _⟩ := id isd
        refine ⟨_, rfl, .ref a, .ref CE, .ref CE, _, _, rfl, .own CE, D.tyE e, D.iEE, _, rfl, iteT ?_⟩
        refine ⟨_, rfl, a, dx, fs, rfl, e, a, dx, fs, _, rfl, e, lw, by show 2 ≤ sizeLine; decide, fun L nL => ⟨L, _, rfl, .inl (SqL.of upd_same), rfl, rfl, ?_⟩⟩
        show Q (.bl (inV (.str nm) [.str "no", .str "yes"])) (upd H L (.lst [.str "no", .str "yes"]))
        have eq : inV (.str nm) [.str "no", .str "yes"] = true := by
          rcases fr with rfl | rfl
          · rfl
          · rfl
        rw [eq]
        exact go _ (same_new nL)
      | turn p x y =>
        obtain ⟨dx, fs, g, g1, sh, r1, r2, dr, a1, a2, e, lw, lg, ld, eg, eg1, esh, q1, q2, edr, i1, i2, _⟩ := id isd
        obtain ⟨pf, fx, fy⟩ := fr
        unfold Dr.deep at lt lk
        refine ⟨_, rfl, .ref a, .ref CE, .ref CR, _, _, rfl, .own CE, D.tyR e, D.iRE, _, rfl, iteF ?_⟩
        refine ⟨_, rfl, .ref a, .ref CR, .ref CR, _, _, rfl, .own CR, D.tyR e, D.iRR, _, rfl, ?_⟩
        refine iteF ⟨_, rfl, by trivial, _, rfl, ?_⟩
        rw [show decide (V.int (k : Int) = V.int 0) = false from decide_eq_false fun z => by
          have q := V.int.inj z
          omega]
        refine iteF ⟨_, rfl, a, dx, fs, rfl, e, a, dx, fs, _, rfl, e, lw, by trivial, _, rfl, ?_⟩
        rw [show (!decide (V.str ("open" : Str) = V.str ("open" : Str))) = false from by rw [decide_eq_true rfl] <;> rfl]
        refine iteF ⟨_, rfl, a, dx, fs, rfl, e, a, dx, fs, _, rfl, e, lg, g, _, rfl, .inr eg, by trivial, _, rfl, ?_⟩
        have s0 : Same H H := Same.refl _
        rw [show (!decide (V.int (([V.ref g1].length : Nat) : Int) = V.int 1)) = false from by rw [Bool.not_eq_false', decide_eq_true_eq] <;> rfl]
        refine iteF ⟨_, rfl, a, dx, fs, rfl, e, a, dx, fs, _, rfl, e, lg, g, _, 0, .ref g1, rfl, rfl, eg, rfl, g1, _, rfl, eg1, rfl, _, _, rfl, _, _, rfl, _, _, rfl, rfl, ?_⟩
        refine ⟨_, rfl, _, rfl, l, _, rfl, .inl (SqL.of hf), rfl, flat_all, _, rfl, ?_⟩
        have i1' : (!inV (.str p) (folk.map V.str)) = false := by
          rw [inV_str, decide_eq_true pf] <;> rfl
        show (if (!inV (.str p) (folk.map V.str)) = true then _ else _)
        rw [i1']
        refine iteF ⟨_, rfl, sh, _, rfl, .inr esh, fun L nL => ?_⟩
        have s1 : Same H (upd H L (.lst [.ref r1, .ref r2])) := same_new nL
        have eL : (upd H L (.lst [.ref r1, .ref r2])) L = some (.lst [.ref r1, .ref r2]) := upd_same
        generalize upd H L (.lst [.ref r1, .ref r2]) = H1 at s1 eL ⊢
        have one : ∀ {n1 d1 : Int}, Norm 1 2 n1 d1 → n1 = 1 ∧ d1 = 2 := fun {n1 d1} nm => by
          obtain ⟨q1, q2, _, _, q5⟩ := nm
          omega
        have lg2 : Lg 2 := by show (2 : Int).natAbs < 2 ^ 2100; decide
        intro px pd hx hd ne
        refine rd_at hx hd ne (by rfl) (by decide) lg2 fun H2 n1 d1 s2 t1 nm1 => ⟨rfl, ?_⟩
        obtain ⟨rfl, rfl⟩ := one nm1
        intro py pe hy he ne2
        refine rd_at hy he ne2 (by rfl) (by decide) lg2 fun H3 n2 d2 s3 t2 nm2 => ⟨rfl, ?_⟩
        obtain ⟨rfl, rfl⟩ := one nm2
        refine ⟨by show 2 ≤ sizeLine; decide, fun L2 nL2 => ?_⟩
        have s4 : Same H3 (upd H3 L2 (.lst [.ref px, .ref py])) := same_new nL2
        have eL2 : (upd H3 L2 (.lst [.ref px, .ref py])) L2 = some (.lst [.ref px, .ref py]) := upd_same
        generalize upd H3 L2 (.lst [.ref px, .ref py]) = H4 at s4 eL2 ⊢
        have s14 : Same H H4 := ((s1.trans s2).trans s3).trans s4
        have pair : ∀ {u v : Addr}, Rt C H4 u 1 2 → Rt C H4 v 1 2 → Se.AIns C (RR C) (.ref u) (.ref v) true H4 := fun {u v} ⟨du, hu⟩ ⟨dv, hv⟩ => ⟨u, v, du, dv, _, _, rfl, rfl, hu, hv, ⟨1, 2, 1, 2, ⟨du, hu⟩, ⟨dv, hv⟩, rfl⟩, fun _ => rfl⟩
        refine ⟨true, ⟨L, L2, _, _, rfl, rfl, s4 _ _ (s3 _ _ (s2 _ _ eL)), eL2, .inr ⟨rfl, .inl ⟨pair (q1.same s14) (t1.same (s3.trans s4)), .inl ⟨pair (q2.same s14) (t2.same s4), rfl⟩⟩⟩, fun _ => rfl⟩, fun H5 s5 => ⟨_, rfl, ?_⟩⟩
        refine iteF ⟨_, rfl, by trivial, _, rfl, ?_⟩
        rw [show (!decide (V.int 0 = V.int 0)) = false from rfl]
        have s15 : Same H H5 := s14.trans s5
        refine iteF ⟨_, rfl, a, dx, fs, rfl, s15 _ _ e, a, dx, fs, _, rfl, s15 _ _ e, ld, dr, rfl, ⟨_, SqT.ext edr s15⟩, fun L3 nL3 => ?_⟩
        have less : ∀ c : Addr, [V.ref c, V.ref l, V.int ((k : Int) - 1)] = [V.ref c, V.ref l, V.int ((k - 1 : Nat) : Int)] := fun c => by
          rw [show (k : Int) - 1 = ((k - 1 : Nat) : Int) by omega]
        refine lc_tup (K := K) (a := dr) (xs := [.ref a1, .ref a2]) (fun j H6 => H6 L3 = some (.lst []) ∧ Same H5 H6) ⟨upd_same, same_new nL3⟩ (fun j H6 _ q => SqT.ext edr (s15.trans q.2)) ?_ ?_
        · rintro j z H6 hz ⟨e6, s6⟩
          have s16 := s15.trans s6
          rcases j with _ | _ | j
          · obtain rfl : z = .ref a1 := by simpa using hz.symm
            exact ⟨rfl, _, rfl, _, rfl, _, rfl, _, _, rfl, rfl, a1, l, k - 1, x, folk, less a1, i1.same mo s16, by omega, by omega, fx, s16 _ _ hf, fun H7 s7 => ⟨_, rfl, iteF ⟨s7 _ _ e6, s6.trans s7⟩⟩⟩
          · obtain rfl : z = .ref a2 := by simpa using hz.symm
            exact ⟨rfl, _, rfl, _, rfl, _, rfl, _, _, rfl, rfl, a2, l, k - 1, y, folk, less a2, i2.same mo s16, by omega, by omega, fy, s16 _ _ hf, fun H7 s7 => ⟨_, rfl, iteF ⟨s7 _ _ e6, s6.trans s7⟩⟩⟩
          · simp at hz
        · rintro H6 ⟨e6, s6⟩
          refine ⟨by show 0 ≤ sizeLine; decide, fun L4 nL4 => ?_⟩
          refine ⟨_, _, .lst (SqL.of ((same_new nL4) _ _ e6)) .nil, .lst (SqL.of upd_same) .nil, rfl, rfl, ?_⟩
          exact go _ ((s15.trans s6).trans (same_new nL4))
end
end K42

set_option Elab.async false
set_option linter.all false
set_option maxRecDepth 100000
set_option maxHeartbeats 4000000
set_option exponentiation.threshold 3000
/-! The law over draws for families: total. -/
namespace K42
open PySem PySem.Spec PyProof.Rows L2 Vx Vr
/-- lowest terms are told by the quotient alone -/
theorem norm_eq {N D n d n' d' : Int} (hD : D ≠ 0) (h : Norm N D n d) (h' : Norm N D n' d') : n = n' ∧ d = d' := by
  obtain ⟨a1, a2, a3, _⟩ := h
  obtain ⟨b1, b2, b3, _⟩ := h'
  have cop : ∀ {k m j : Int}, k ∣ m * j → Int.gcd m k = 1 → k ∣ j := fun {k m j} h g => by
    have h1 : k.natAbs ∣ m.natAbs * j.natAbs := by
      rw [← Int.natAbs_mul]
      exact Int.natAbs_dvd_natAbs.mpr h
    have h2 : Nat.Coprime k.natAbs m.natAbs := by
      rw [Nat.coprime_comm]
      exact g
    exact Int.natAbs_dvd_natAbs.mp (h2.dvd_of_dvd_mul_left h1)
  have x : n * d' = n' * d := by
    have k : D * (n * d') = D * (n' * d) := by grind
    exact Int.eq_of_mul_eq_mul_left hD k
  have v1 : d ∣ d' := cop (m := n) ⟨n', by rw [x, Int.mul_comm]⟩ a3
  have v2 : d' ∣ d := cop (m := n') ⟨n, by rw [← x, Int.mul_comm]⟩ b3
  have e : d = d' := Int.dvd_antisymm (by omega) (by omega) v1 v2
  subst e
  exact ⟨Int.eq_of_mul_eq_mul_right (by omega) x, rfl⟩
theorem norm_int {m n d : Int} (h : Norm m 1 n d) : n = m ∧ d = 1 := norm_eq (by decide) h ⟨rfl, by decide, by simp, Nat.le_refl _, Nat.le_refl _⟩
/-- from a / b on, each number added, in lowest terms: n / d at the end -/
def TotFrom : Int → Int → List (Int × Int) → Int → Int → Prop
  | a, b, [], n, d => n = a ∧ d = b
  | a, b, q :: r, n, d => ∃ a' b', Norm (a * q.2 + q.1 * b) (b * q.2) a' b' ∧ TotFrom a' b' r n d
/-- the numbers' values -/
def Nums (C : Addr) (H : Hp) (vs : List V) (qs : List (Int × Int)) : Prop := vs.length = qs.length ∧ ∀ (k : Nat) (v : V) (q : Int × Int), vs[k]? = some v → qs[k]? = some q → Nu C H v q.1 q.2 ∧ q.1.natAbs < 2 ^ 100 ∧ q.2.natAbs < 2 ^ 100 ∧ 0 < q.2
theorem Nums.same {C : Addr} {H H' : Hp} {vs : List V} {qs : List (Int × Int)} (s : Same H H') (h : Nums C H vs qs) : Nums C H' vs qs :=
  ⟨h.1, fun k v q e1 e2 => ⟨(h.2 k v q e1 e2).1.same s, (h.2 k v q e1 e2).2⟩⟩
def Bd (k : Nat) (x : Int) : Prop := x.natAbs < 2 ^ (102 * k + 1)
theorem Bd.sm {k : Nat} {x : Int} (h : Bd k x) (hk : k ≤ 9) : Sm x := Nat.lt_of_lt_of_le h (Nat.pow_le_pow_right (by decide) (by omega))
theorem bd_step {k : Nat} {a b m e : Int} (ha : Bd k a) (hb : Bd k b) (hm : m.natAbs < 2 ^ 100) (he : e.natAbs < 2 ^ 100) {a' b' : Int} (nm : Norm (a * e + m * b) (b * e) a' b') : Bd (k + 1) a' ∧ Bd (k + 1) b' := by
  have p1 : (a * e).natAbs < 2 ^ (102 * k + 101) := by
    have := wide_lt (a := 102 * k + 1) (b := 100) ha he
    rwa [show 102 * k + 1 + 100 = 102 * k + 101 by omega] at this
  have p2 : (m * b).natAbs < 2 ^ (102 * k + 101) := by
    have := wide_lt (a := 100) (b := 102 * k + 1) hm hb
    rwa [show 100 + (102 * k + 1) = 102 * k + 101 by omega] at this
  have p3 : (b * e).natAbs < 2 ^ (102 * k + 101) := by
    have := wide_lt (a := 102 * k + 1) (b := 100) hb he
    rwa [show 102 * k + 1 + 100 = 102 * k + 101 by omega] at this
  have q1 : 2 ^ (102 * k + 101) + 2 ^ (102 * k + 101) ≤ 2 ^ (102 * (k + 1) + 1) := by
    have : 2 ^ (102 * k + 101) + 2 ^ (102 * k + 101) = 2 ^ (102 * k + 102) := (Nat.two_mul _).symm.trans Nat.pow_succ'.symm
    rw [this]
    exact Nat.pow_le_pow_right (by decide) (by omega)
  have l1 := nm.2.2.2.1
  have l2 := nm.2.2.2.2
  constructor
  · show a'.natAbs < _
    generalize 2 ^ (102 * k + 101) = z at *
    generalize 2 ^ (102 * (k + 1) + 1) = y at *
    omega
  · show b'.natAbs < _
    generalize 2 ^ (102 * k + 101) = z at *
    generalize 2 ^ (102 * (k + 1) + 1) = y at *
    omega
theorem SqT.same {K : PySem.W.Frag} {H H' : Hp} {a : Addr} {xs : List V} (s : Same H H') (h : SqT K H a xs) : SqT K H' a xs := L2.SqT.ext h s
def spTotal (K : PySem.W.Frag) (C : Addr) : Sp := fun vs H Q _ => ∃ a xs qs, vs = [.ref a] ∧ (SqL K H a xs ∨ SqT K H a xs) ∧ Nums C H xs qs ∧ qs.length ≤ 9 ∧ ∀ p H' n d, Same H H' → Rt C H' p n d → TotFrom 0 1 qs n d → Q (.ref p) H'
section
variable {P : Program} {w : World} {K : PySem.W.Frag} {mg : Str → Option Value} {base : Heap} {C : Addr}
theorem scTotal : FnScope ["numbers", "added", "number"] ["numbers"] (defScope (top 27)) := ⟨rfl, rfl, rfl, by decide +kernel, rfl, by decide +kernel, by decide +kernel⟩
theorem ok_total {f : Addr} {fd : FuncData} (F : L2.Fun K "total" "total" (top 27) f fd) (O : Ops P w K mg base C) : FnOk P w K mg base CX0 4 f fd ["numbers"] (spTotal K C) := by
  refine F.ok scTotal (fun vs H Q E h => ?_) (fun cdv A outer s H vs Q E hr h => ?_)
  · obtain ⟨a, xs, qs, rfl, _⟩ := h
    rfl
  · obtain ⟨a, xs, qs, rfl, hs, hn, hl, go⟩ := h
    have turn : ∀ (k : Nat) (v : V) (H1 : Hp) (p : Addr) (x y : Int), xs[k]? = some v → Same H H1 → Rt C H1 p x y → Bd k x → Bd k y → 0 < y → (∀ n d, TotFrom x y (qs.drop k) n d → TotFrom 0 1 qs n d) →
        ∀ Qv : VK, (∀ p' H' x' y', Same H H' → Rt C H' p' x' y' → Bd (k + 1) x' → Bd (k + 1) y' → 0 < y' → (∀ n d, TotFrom x' y' (qs.drop (k + 1)) n d → TotFrom 0 1 qs n d) → Qv (.ref p') H') →
        rNum C (fun n d m e => n * e + m * d) (fun _ d _ e => d * e) (.ref p) v H1 Qv := by
      intro k v H1 p x y hv s1 r bx by_ y0 cont Qv kk
      have hk : k < qs.length := by
        have := (List.getElem?_eq_some_iff.mp hv).1
        rw [hn.1] at this
        exact this
      obtain ⟨q, hq⟩ : ∃ q, qs[k]? = some q := ⟨_, List.getElem?_eq_getElem hk⟩
      obtain ⟨nu, b1, b2, q0⟩ := hn.2 k v q hv hq
      have sm : ∀ {z : Int}, z.natAbs < 2 ^ 100 → Sm z := fun h => Nat.lt_trans h (Nat.pow_lt_pow_right (by decide) (by decide))
      refine ⟨p, x, y, q.1, q.2, rfl, r, nu.same s1, bx.sm (by omega), by_.sm (by omega), sm b1, sm b2, Int.mul_ne_zero (by omega) (by omega), fun p' H' n' d' s2 r' nm => ?_⟩
      obtain ⟨c1, c2⟩ := bd_step bx by_ b1 b2 nm
      refine kk p' H' n' d' (s1.trans s2) r' c1 c2 nm.2.1 fun n d t => cont n d ?_
      have : qs.drop k = q :: qs.drop (k + 1) := by
        rw [List.drop_eq_getElem_cons hk]
        congr 1
        have := List.getElem?_eq_getElem hk
        rw [hq] at this
        exact (Option.some.inj this).symm
      rw [this]
      exact ⟨n', d', nm, t⟩
    have st0 : Bd 0 0 ∧ Bd 0 1 := ⟨by show (0 : Nat) < 2 ^ 1; decide, by show (1 : Nat) < 2 ^ 1; decide⟩
    rcases hs with hs | hs
    · refine ⟨_, pss_cons (ps_set (i := 1) scTotal.nd rfl (.inl rfl) (pe_rat1 O.us.mkr (hr.mono (by decide)) pe_int))
        (pss_cons (ps_for PassesOwn.never rfl (pi_list (pv 0)) (pg_name (i := 2) scTotal.nd rfl (.inl rfl)) (pss_one (ps_set (i := 1) scTotal.nd rfl (.inl rfl) (pe_op (op_addN O (hr.mono (by decide))) (pv 1) (pv 2)))))
        (pss_one (ps_ret (pv 1)))), ?_⟩
      intro p0 dx0 h0 hd0 ne0
      refine rd_at h0 hd0 ne0 rfl (by decide) (sm_lg sm1) fun H1 n d s1 r nm => ⟨rfl, ?_⟩
      obtain ⟨rfl, rfl⟩ := norm_int nm
      refine ⟨_, rfl, a, rfl, ⟨_, s1.seq hs⟩, ?_⟩
      refine for_list (K := K) (a := a) (xs := xs) (fun k σ H9 => ∃ p x y v, σ = [some (.ref a), some (.ref p), v] ∧ Same H H9 ∧ Rt C H9 p x y ∧ Bd k x ∧ Bd k y ∧ 0 < y ∧ (∀ n d, TotFrom x y (qs.drop k) n d → TotFrom 0 1 qs n d))
        ⟨_, _, _, _, rfl, s1, r, st0.1, st0.2, by decide, fun _ _ t => t⟩ (fun _ _ H9 _ h => by
          obtain ⟨_, _, _, _, _, s9, _⟩ := h
          exact s9.seq hs) ?_ ?_
      · rintro k v σ H9 hv ⟨p, x, y, v0, rfl, s9, r9, bx, by_, y0, ct⟩
        exact ⟨_, rfl, _, rfl, turn k v H9 p x y hv s9 r9 bx by_ y0 ct _ fun p' H' x' y' s' r' b1 b2 b3 ct' => ⟨p', x', y', _, rfl, s', r', b1, b2, b3, ct'⟩⟩
      · rintro σ H9 ⟨p, x, y, v0, rfl, s9, r9, bx, by_, y0, ct⟩
        refine ⟨_, rfl, go p H9 x y s9 r9 (ct x y ?_)⟩
        rw [List.drop_of_length_le (by rw [hn.1]; exact Nat.le_refl _)]
        exact ⟨rfl, rfl⟩
    · refine ⟨_, pss_cons (ps_set (i := 1) scTotal.nd rfl (.inl rfl) (pe_rat1 O.us.mkr (hr.mono (by decide)) pe_int))
        (pss_cons (ps_for PassesOwn.never rfl (pi_tup (pv 0)) (pg_name (i := 2) scTotal.nd rfl (.inl rfl)) (pss_one (ps_set (i := 1) scTotal.nd rfl (.inl rfl) (pe_op (op_addN O (hr.mono (by decide))) (pv 1) (pv 2)))))
        (pss_one (ps_ret (pv 1)))), ?_⟩
      intro p0 dx0 h0 hd0 ne0
      refine rd_at h0 hd0 ne0 rfl (by decide) (sm_lg sm1) fun H1 n d s1 r nm => ⟨rfl, ?_⟩
      obtain ⟨rfl, rfl⟩ := norm_int nm
      refine ⟨_, rfl, a, rfl, ⟨_, SqT.same s1 hs⟩, ?_⟩
      refine for_tup (K := K) (a := a) (xs := xs) (fun k σ H9 => ∃ p x y v, σ = [some (.ref a), some (.ref p), v] ∧ Same H H9 ∧ Rt C H9 p x y ∧ Bd k x ∧ Bd k y ∧ 0 < y ∧ (∀ n d, TotFrom x y (qs.drop k) n d → TotFrom 0 1 qs n d))
        ⟨_, _, _, _, rfl, s1, r, st0.1, st0.2, by decide, fun _ _ t => t⟩ (fun _ _ H9 _ h => by
          obtain ⟨_, _, _, _, _, s9, _⟩ := h
          exact SqT.same s9 hs) ?_ ?_
      · rintro k v σ H9 hv ⟨p, x, y, v0, rfl, s9, r9, bx, by_, y0, ct⟩
        exact ⟨_, rfl, _, rfl, turn k v H9 p x y hv s9 r9 bx by_ y0 ct _ fun p' H' x' y' s' r' b1 b2 b3 ct' => ⟨p', x', y', _, rfl, s', r', b1, b2, b3, ct'⟩⟩
      · rintro σ H9 ⟨p, x, y, v0, rfl, s9, r9, bx, by_, y0, ct⟩
        refine ⟨_, rfl, go p H9 x y s9 r9 (ct x y ?_)⟩
        rw [List.drop_of_length_le (by rw [hn.1]; exact Nat.le_refl _)]
        exact ⟨rfl, rfl⟩
end
end K42

set_option Elab.async false
set_option linter.all false
set_option maxRecDepth 100000
set_option maxHeartbeats 4000000
set_option exponentiation.threshold 3000
/-! The law over draws for families: lists, names. -/
namespace K42
open PySem PySem.Spec PyProof.Rows L2 Vx Vr
theorem kitAny_seq {K : PySem.W.Frag} : ∀ T ∈ ["NoneType", "bool", "int", "str", "list", "tuple", "dict"], PySem.W.kitAny K (.type T) [.type "list", .type "tuple"] = some (T == "list" || T == "tuple") := by
  intro T h
  have nil : PySem.W.kitAny K (.type T) [] = some false := rfl
  simp only [List.mem_cons, List.not_mem_nil, or_false] at h
  rcases h with h | h | h | h | h | h | h <;> subst h
  · exact kitAny_cons (b := false) (kit_ty (by decide +kernel)) (fun _ => kitAny_cons (b := false) (kit_ty (by decide +kernel)) (fun _ => nil) fun z => nomatch z) fun z => nomatch z
  · exact kitAny_cons (b := false) (kit_ty (by decide +kernel)) (fun _ => kitAny_cons (b := false) (kit_ty (by decide +kernel)) (fun _ => nil) fun z => nomatch z) fun z => nomatch z
  · exact kitAny_cons (b := false) (kit_ty (by decide +kernel)) (fun _ => kitAny_cons (b := false) (kit_ty (by decide +kernel)) (fun _ => nil) fun z => nomatch z) fun z => nomatch z
  · exact kitAny_cons (b := false) (kit_ty (by decide +kernel)) (fun _ => kitAny_cons (b := false) (kit_ty (by decide +kernel)) (fun _ => nil) fun z => nomatch z) fun z => nomatch z
  · exact kitAny_cons (b := true) (kit_ty (by decide +kernel)) (fun z => nomatch z) fun _ => rfl
  · exact kitAny_cons (b := false) (kit_ty (by decide +kernel)) (fun _ => kitAny_cons (b := true) (kit_ty (by decide +kernel)) (fun z => nomatch z) fun _ => rfl) fun z => nomatch z
  · exact kitAny_cons (b := false) (kit_ty (by decide +kernel)) (fun _ => kitAny_cons (b := false) (kit_ty (by decide +kernel)) (fun _ => nil) fun z => nomatch z) fun z => nomatch z
theorem Oth.keep {K : PySem.W.Frag} {H H' : Hp} {v : V} {T : String} (s : Same H H') (o : Oth K H v T) : Oth K H' v T := by
  cases o with
  | non => exact .non
  | bl b => exact .bl b
  | int i => exact .int i
  | str x => exact .str x
  | lst e => exact .lst (s _ _ e)
  | tup e => exact .tup (s _ _ e)
  | dK e => exact .dK (s _ _ e)
def spIsL (K : PySem.W.Frag) : Sp := fun vs H Q _ => ∃ v T, vs = [v] ∧ Oth K H v T ∧ ∀ H', Same H H' → Q (.bl (T == "list" || T == "tuple")) H'
/-- a name -/
def Nm (x : Str) : Prop := 1 ≤ x.length ∧ x.length ≤ 8 ∧ ∀ c ∈ x.cps.toList, 97 ≤ c ∧ c ≤ 122
def spName : Sp := fun vs H Q _ => ∃ x : Str, vs = [.str x] ∧ Nm x ∧ ∀ H', Same H H' → Q (.bl true) H'
section
variable {P : Program} {w : World} {K : PySem.W.Frag} {mg : Str → Option Value} {base : Heap}
theorem scIsL : FnScope ["value"] ["value"] (defScope (top 5)) := ⟨rfl, rfl, rfl, by decide +kernel, rfl, by decide +kernel, by decide +kernel⟩
theorem ok_isL {f : Addr} {fd : FuncData} (F : L2.Fun K "is_list" "is_list" (top 5) f fd) (T : Bt mg) (U : Bu mg) : FnOk P w K mg base CX0 1 f fd ["value"] (spIsL K) := by
  refine F.ok scIsL (fun vs H Q E h => ?_) (fun cdv A outer s H vs Q E hr h => ?_)
  · obtain ⟨v, T, rfl, _⟩ := h
    rfl
  · obtain ⟨v, S, rfl, o, go⟩ := h
    refine ⟨_, pss_one (ps_ret (pe_callB call_isiT (by rfl) T.isi (by decide +kernel) (pa_cons (pv 0) (pa_cons (pe_tup (pa_cons (pe_bltn (v := .ty "list") (by rfl) U.list (by decide +kernel) rfl) (pa_cons (pe_bltn (v := .ty "tuple") (by rfl) U.tuple (by decide +kernel) rfl) pa_nil))) pa_nil)))), ?_⟩
    refine ⟨_, rfl, by show 2 ≤ sizeLine; decide, fun t nt => ?_⟩
    exact ⟨v, t, _, .type S, _, _, rfl, upd_same, .cons (.ty "list") (.cons (.ty "tuple") .nil), ty_oth (Oth.keep (same_new nt) o), kitAny_seq S o.mem, go _ (same_new nt)⟩
theorem scName : FnScope ["value", "letter"] ["value"] (defScope (top 6)) := ⟨rfl, rfl, rfl, by decide +kernel, rfl, by decide +kernel, by decide +kernel⟩
theorem letters_in {c : Nat} (h : 97 ≤ c ∧ c ≤ 122) : c ∈ (Str.ofString "abcdefghijklmnopqrstuvwxyz").cps.toList := by
  have all : ∀ c : Fin 123, 97 ≤ c.val → c.val ∈ (Str.ofString "abcdefghijklmnopqrstuvwxyz").cps.toList := by decide
  exact all ⟨c, by omega⟩ h.1
theorem ok_name {f : Addr} {fd : FuncData} (F : L2.Fun K "is_name" "is_name" (top 6) f fd) (T : Bt mg) (U : Bu mg) (tk : Tok) (LT : mg "LETTERS" = some (.str "abcdefghijklmnopqrstuvwxyz" tk)) : FnOk P w K mg base CX0 1 f fd ["value"] spName := by
  refine F.ok scName (fun vs H Q E h => ?_) (fun cdv A outer s H vs Q E hr h => ?_)
  · obtain ⟨v, rfl, _⟩ := h
    rfl
  · obtain ⟨x, rfl, ⟨l1, l8, al⟩, go⟩ := h
    refine ⟨_, pss_cons (ps_if (PW.pt (pw_or (pt_not (pt_val (pe_callB call_isi (by rfl) T.isi (by decide +kernel) (pa_cons (pv 0) (pa_cons (pe_bltn (v := .ty "str") (by rfl) T.str (by decide +kernel) rfl) pa_nil)))))
        (pw_or1 (pt_not (pt_chain op_le op_le pe_int (pe_callB call_len_str (by rfl) T.len PySem.boot_len (pa_cons (pv 0) pa_nil)) pe_int))))) (pss_one (ps_ret pe_bl)) pss_nil)
      (pss_one (ps_ret (pe_callB (cr_all rfl) (by rfl) U.all (by decide +kernel) (pa_cons (pe_lc (own := [("letter", 1)]) (g := gName 1) (tt := tYes) rfl scName.nd (pi_str (pv 0)) (blkOk_by (N := ["value", "letter"]) (sc := defScope (top 6)) (by decide +kernel)) (fun _ _ _ _ _ => pg_name (i := 1) scName.nd rfl (Or.inl rfl)) (fun _ _ _ _ _ => pts_nil)
        (fun _ _ _ _ _ => pe_cmpR op_in_sign (pv 1) (pe_glob (v := .str "abcdefghijklmnopqrstuvwxyz") rfl LT ⟨_, rfl⟩) (by rfl))) pa_nil)))), ?_⟩
    have big : (1000 : Nat) ≤ sizeLine := by decide
    refine ⟨_, rfl, .str x, .ty "str", .type "str", _, true, rfl, .ty "str", ty_oth (.str x), kit_ty (by decide +kernel), _, rfl, iteF ?_⟩
    refine ⟨_, rfl, x, rfl, by omega, _, _, rfl, rfl, _, rfl, ?_⟩
    rw [if_pos (decide_eq_true (by omega : (1 : Int) ≤ x.length))]
    refine ⟨_, _, rfl, rfl, _, rfl, ?_⟩
    rw [decide_eq_true (by omega : ((x.length : Nat) : Int) ≤ 8)]
    refine iteF ⟨_, rfl, x, rfl, fun D hD => lc_it walk_str (fun i H1 => H1 D = some (.lst ((List.replicate i true).map V.bl)) ∧ Same H H1) ⟨upd_same, same_new hD⟩ (fun _ _ _ _ => trivial) ?_ ?_⟩
    · rintro i z H1 H2 hi ⟨e1, s1⟩ ⟨rfl, c, hc, rfl⟩
      have hm : c ∈ x.cps.toList := List.mem_of_getElem? (by rw [Array.getElem?_toList]; exact hc)
      have lim : x.cps.size ≤ 8 := l8
      refine ⟨rfl, iteT (B := True) ⟨_, rfl, c, _, rfl, rfl, ?_⟩⟩
      rw [decide_eq_true (letters_in (al c hm))]
      refine ⟨_, e1, by rw [List.length_map, List.length_replicate]; omega, ?_, fun b o e => by rw [upd_ne (ne_of_none e hD)]; exact s1 _ _ e⟩
      rw [List.replicate_succ', List.map_append]
      exact upd_same
    · rintro H1 ⟨e1, s1⟩
      refine ⟨D, List.replicate x.cps.size true, rfl, SqL.of e1, ?_⟩
      have all : (List.replicate x.cps.size true).all id = true := by simp
      rw [all]
      exact go H1 s1
end
end K42

set_option Elab.async false
set_option linter.all false
set_option maxRecDepth 100000
set_option maxHeartbeats 4000000
set_option exponentiation.threshold 3000
/-! The law over draws for families: lists of names, some of them (made by gen_k42m.py). -/
namespace K42
open PySem PySem.Spec PyProof.Rows L2 Vx Vr
/-- a list or a tuple that was laid -/
def Seq (H : Hp) (a : Addr) (xs : List V) : Prop := H a = some (.lst xs) ∨ H a = some (.tup xs)
theorem Seq.keep {H H' : Hp} {a : Addr} {xs : List V} (s : Same H H') (h : Seq H a xs) : Seq H' a xs := h.imp (s _ _) (s _ _)
theorem Seq.sq {K : PySem.W.Frag} {H : Hp} {a : Addr} {xs : List V} (h : Seq H a xs) : SqL K H a xs ∨ SqT K H a xs := h.imp SqL.of SqT.of
theorem Seq.oth {K : PySem.W.Frag} {H : Hp} {a : Addr} {xs : List V} (h : Seq H a xs) : ∃ T, Oth K H (.ref a) T ∧ (T == "list" || T == "tuple") = true := by
  rcases h with h | h
  · exact ⟨"list", .lst h, rfl⟩
  · exact ⟨"tuple", .tup h, rfl⟩
def spNames : Sp := fun vs H Q _ => ∃ (a : Addr) (names : List Str), vs = [.ref a, .int 6] ∧ Seq H a (names.map V.str) ∧ 1 ≤ names.length ∧ names.length ≤ 6 ∧ names.Nodup ∧ (∀ x ∈ names, Nm x) ∧ ∀ H', Same H H' → Q (.bl true) H'
def spSome (K : PySem.W.Frag) : Sp := fun vs H Q _ => ∃ (a b : Addr) (lot names : List Str), vs = [.ref a, .ref b] ∧ Seq H a (lot.map V.str) ∧ (SqL K H b (names.map V.str) ∨ SqT K H b (names.map V.str)) ∧ lot.length ≤ 6 ∧ lot.Nodup ∧ (∀ x ∈ lot, x ∈ names) ∧ ∀ H', Same H H' → Q (.bl true) H'
theorem op_inK {X : Cx} (K : PySem.W.Frag) (hK : X.K = K) : OpR X (compareOp .In) (rIn K false) := by
  subst hK
  exact op_in_seq
section
variable {P : Program} {w : World} {K : PySem.W.Frag} {mg : Str → Option Value} {base : Heap}
theorem scNames : FnScope ["value", "most", "item"] ["value", "most"] (defScope (top 7)) := ⟨rfl, rfl, rfl, by decide +kernel, rfl, by decide +kernel, by decide +kernel⟩
theorem scSome : FnScope ["value", "allowed", "item"] ["value", "allowed"] (defScope (top 8)) := ⟨rfl, rfl, rfl, by decide +kernel, rfl, by decide +kernel, by decide +kernel⟩
theorem ok_names {f : Addr} {fd : FuncData} (F : L2.Fun K "are_names" "are_names" (top 7) f fd) (T : Bt mg) (U : Bu mg) (IL : Cal P w K mg base "is_list" 1 ["value"] (spIsL K)) (NA : Cal P w K mg base "is_name" 1 ["value"] spName) : FnOk P w K mg base CX0 2 f fd ["value", "most"] spNames := by
  refine F.ok scNames (fun vs H Q E h => ?_) (fun cdv A outer s H vs Q E hr h => ?_)
  · obtain ⟨a, names, rfl, _⟩ := h
    rfl
  · obtain ⟨a, names, rfl, hs, l1, l6, nd, nm, go⟩ := h
    have h1 := hr.mono (show 1 ≤ 1 by decide)
    have big : (1000 : Nat) ≤ sizeLine := by decide
    have sb : (1000 : Nat) ≤ scanBound := by decide
    obtain ⟨S, os, tr⟩ := Seq.oth (K := K) hs
    rcases id hs with hs' | hs'
    · refine ⟨_, pss_cons (ps_if (PW.pt (pw_or (pt_not (pt_val (pe_cal IL h1 (pa_cons (pv 0) pa_nil)))) (pw_or1 (pt_not (pt_chain op_le op_le pe_int (pe_callB call_len_seq (by rfl) T.len PySem.boot_len (pa_cons (pv 0) pa_nil)) (pv 1)))))) (pss_one (ps_ret pe_bl)) pss_nil)
        (pss_one (ps_ret (pe_and (pe_callB (cr_all rfl) (by rfl) U.all (by decide +kernel) (pa_cons (pe_lc (own := [("item", 2)]) (g := gName 2) (tt := tYes) rfl scNames.nd (pi_list (pv 0)) (blkOk_by (N := ["value", "most", "item"]) (sc := defScope (top 7)) (by decide +kernel))
            (fun _ _ _ _ _ => pg_name (i := 2) scNames.nd rfl (Or.inl rfl)) (fun _ _ _ _ _ => pts_nil) (fun _ _ _ _ _ => pe_cal NA h1 (pa_cons (pv 2) pa_nil))) pa_nil))
          (pe_one (pe_cmpR op_eq (pe_callB Sx.cr_lenX (by rfl) T.len PySem.boot_len (pa_cons (pe_callTy (Sx.cr_setOfS rfl) (by rfl) U.set (by decide +kernel) (pa_cons (pv 0) pa_nil)) pa_nil)) (pe_callB call_len_seq (by rfl) T.len PySem.boot_len (pa_cons (pv 0) pa_nil)) (nomark _)))))), ?_⟩
      refine ⟨_, rfl, .ref a, S, rfl, os, fun H1 s1 => ⟨_, rfl, ?_⟩⟩
      rw [tr]
      refine iteF ⟨_, rfl, a, _, rfl, (hs.keep s1).sq, _, _, rfl, rfl, _, rfl, ?_⟩
      rw [if_pos (decide_eq_true (by rw [List.length_map]; omega : (1 : Int) ≤ ((names.map V.str).length : Nat)))]
      refine ⟨_, rfl, _, _, rfl, rfl, _, rfl, ?_⟩
      rw [decide_eq_true (by rw [List.length_map]; omega : (((names.map V.str).length : Nat) : Int) ≤ 6)]
      refine iteF ⟨_, rfl, a, rfl, ⟨_, SqL.of (s1 _ _ hs')⟩, fun D hD => ?_⟩
      refine lc_list (K := K) (a := a) (xs := names.map V.str) (fun i H2 => H2 D = some (.lst ((List.replicate i true).map V.bl)) ∧ Same H1 H2) ⟨upd_same, same_new hD⟩ (fun i H2 _ q => SqL.of (q.2 _ _ (s1 _ _ hs'))) ?_ ?_
      · rintro i z H2 hz ⟨e2, s2⟩
        have hi : i < names.length := by
          have := (List.getElem?_eq_some_iff.mp hz).1
          rwa [List.length_map] at this
        rw [List.getElem?_map] at hz
        obtain ⟨y, hy, rfl⟩ := Option.map_eq_some_iff.mp hz
        refine ⟨rfl, iteT (B := True) ⟨_, rfl, y, rfl, nm y (List.mem_of_getElem? hy), fun H3 s3 => ?_⟩⟩
        refine ⟨_, s3 _ _ e2, by rw [List.length_map, List.length_replicate]; omega, ?_, fun b o e => by rw [upd_ne (ne_of_none e hD)]; exact s3 _ _ (s2 _ _ e)⟩
        rw [List.replicate_succ', List.map_append]
        exact upd_same
      · rintro H2 ⟨e2, s2⟩
        rw [List.length_map] at e2
        refine ⟨D, List.replicate names.length true, rfl, SqL.of e2, ?_⟩
        rw [show (List.replicate names.length true).all id = true from by simp]
        have s12 := s1.trans s2
        refine ⟨_, rfl, iteT ⟨_, rfl, a, names, rfl, (hs.keep s12).sq, by omega, fun u nu => ⟨u, _, _, rfl, upd_same, ?_⟩⟩⟩
        have s3 : Same H2 (upd H2 u (Sx.SetXO P w u (fun k => decide (k ∈ names)) (Sx.met names names.length))) := same_new nu
        refine ⟨_, rfl, a, _, rfl, (hs.keep (s12.trans s3)).sq, by trivial, ?_⟩
        have eq : decide (V.int ((Sx.met names names.length : Nat) : Int) = V.int (((names.map V.str).length : Nat) : Int)) = true := by
          rw [(Sx.met_iff names).mpr nd, List.length_map]
          exact decide_eq_true rfl
        show Q (.bl (decide (V.int ((Sx.met names names.length : Nat) : Int) = V.int (((names.map V.str).length : Nat) : Int)))) _
        rw [eq]
        exact go _ (s12.trans s3)
    · refine ⟨_, pss_cons (ps_if (PW.pt (pw_or (pt_not (pt_val (pe_cal IL h1 (pa_cons (pv 0) pa_nil)))) (pw_or1 (pt_not (pt_chain op_le op_le pe_int (pe_callB call_len_seq (by rfl) T.len PySem.boot_len (pa_cons (pv 0) pa_nil)) (pv 1)))))) (pss_one (ps_ret pe_bl)) pss_nil)
        (pss_one (ps_ret (pe_and (pe_callB (cr_all rfl) (by rfl) U.all (by decide +kernel) (pa_cons (pe_lc (own := [("item", 2)]) (g := gName 2) (tt := tYes) rfl scNames.nd (pi_tup (pv 0)) (blkOk_by (N := ["value", "most", "item"]) (sc := defScope (top 7)) (by decide +kernel))
            (fun _ _ _ _ _ => pg_name (i := 2) scNames.nd rfl (Or.inl rfl)) (fun _ _ _ _ _ => pts_nil) (fun _ _ _ _ _ => pe_cal NA h1 (pa_cons (pv 2) pa_nil))) pa_nil))
          (pe_one (pe_cmpR op_eq (pe_callB Sx.cr_lenX (by rfl) T.len PySem.boot_len (pa_cons (pe_callTy (Sx.cr_setOfS rfl) (by rfl) U.set (by decide +kernel) (pa_cons (pv 0) pa_nil)) pa_nil)) (pe_callB call_len_seq (by rfl) T.len PySem.boot_len (pa_cons (pv 0) pa_nil)) (nomark _)))))), ?_⟩
      refine ⟨_, rfl, .ref a, S, rfl, os, fun H1 s1 => ⟨_, rfl, ?_⟩⟩
      rw [tr]
      refine iteF ⟨_, rfl, a, _, rfl, (hs.keep s1).sq, _, _, rfl, rfl, _, rfl, ?_⟩
      rw [if_pos (decide_eq_true (by rw [List.length_map]; omega : (1 : Int) ≤ ((names.map V.str).length : Nat)))]
      refine ⟨_, rfl, _, _, rfl, rfl, _, rfl, ?_⟩
      rw [decide_eq_true (by rw [List.length_map]; omega : (((names.map V.str).length : Nat) : Int) ≤ 6)]
      refine iteF ⟨_, rfl, a, rfl, ⟨_, SqT.of (s1 _ _ hs')⟩, fun D hD => ?_⟩
      refine lc_tup (K := K) (a := a) (xs := names.map V.str) (fun i H2 => H2 D = some (.lst ((List.replicate i true).map V.bl)) ∧ Same H1 H2) ⟨upd_same, same_new hD⟩ (fun i H2 _ q => SqT.of (q.2 _ _ (s1 _ _ hs'))) ?_ ?_
      · rintro i z H2 hz ⟨e2, s2⟩
        have hi : i < names.length := by
          have := (List.getElem?_eq_some_iff.mp hz).1
          rwa [List.length_map] at this
        rw [List.getElem?_map] at hz
        obtain ⟨y, hy, rfl⟩ := Option.map_eq_some_iff.mp hz
        refine ⟨rfl, iteT (B := True) ⟨_, rfl, y, rfl, nm y (List.mem_of_getElem? hy), fun H3 s3 => ?_⟩⟩
        refine ⟨_, s3 _ _ e2, by rw [List.length_map, List.length_replicate]; omega, ?_, fun b o e => by rw [upd_ne (ne_of_none e hD)]; exact s3 _ _ (s2 _ _ e)⟩
        rw [List.replicate_succ', List.map_append]
        exact upd_same
      · rintro H2 ⟨e2, s2⟩
        rw [List.length_map] at e2
        refine ⟨D, List.replicate names.length true, rfl, SqL.of e2, ?_⟩
        rw [show (List.replicate names.length true).all id = true from by simp]
        have s12 := s1.trans s2
        refine ⟨_, rfl, iteT ⟨_, rfl, a, names, rfl, (hs.keep s12).sq, by omega, fun u nu => ⟨u, _, _, rfl, upd_same, ?_⟩⟩⟩
        have s3 : Same H2 (upd H2 u (Sx.SetXO P w u (fun k => decide (k ∈ names)) (Sx.met names names.length))) := same_new nu
        refine ⟨_, rfl, a, _, rfl, (hs.keep (s12.trans s3)).sq, by trivial, ?_⟩
        have eq : decide (V.int ((Sx.met names names.length : Nat) : Int) = V.int (((names.map V.str).length : Nat) : Int)) = true := by
          rw [(Sx.met_iff names).mpr nd, List.length_map]
          exact decide_eq_true rfl
        show Q (.bl (decide (V.int ((Sx.met names names.length : Nat) : Int) = V.int (((names.map V.str).length : Nat) : Int)))) _
        rw [eq]
        exact go _ (s12.trans s3)
theorem ok_some {f : Addr} {fd : FuncData} (F : L2.Fun K "are_some_of" "are_some_of" (top 8) f fd) (T : Bt mg) (U : Bu mg) (IL : Cal P w K mg base "is_list" 1 ["value"] (spIsL K)) : FnOk P w K mg base CX0 2 f fd ["value", "allowed"] (spSome K) := by
  refine F.ok scSome (fun vs H Q E h => ?_) (fun cdv A outer s H vs Q E hr h => ?_)
  · obtain ⟨a, b, lot, names, rfl, _⟩ := h
    rfl
  · obtain ⟨a, b, lot, names, rfl, hs, hb, l6, nd, sub, go⟩ := h
    have h1 := hr.mono (show 1 ≤ 1 by decide)
    have big : (1000 : Nat) ≤ sizeLine := by decide
    have sb : (1000 : Nat) ≤ scanBound := by decide
    obtain ⟨S, os, tr⟩ := Seq.oth (K := K) hs
    rcases id hs with hs' | hs'
    · refine ⟨_, pss_cons (ps_if (PW.pt (pw_or (pt_not (pt_val (pe_cal IL h1 (pa_cons (pv 0) pa_nil)))) (pw_or1 (pt_not (pt_val (pe_callB (cr_all rfl) (by rfl) U.all (by decide +kernel) (pa_cons (pe_lc (own := [("item", 2)]) (g := gName 2) (tt := tYes) rfl scSome.nd (pi_list (pv 0)) (blkOk_by (N := ["value", "allowed", "item"]) (sc := defScope (top 8)) (by decide +kernel))
            (fun _ _ _ _ _ => pg_name (i := 2) scSome.nd rfl (Or.inl rfl)) (fun _ _ _ _ _ => pts_nil) (fun _ _ _ _ _ => pe_cmpR (op_inK K rfl) (pv 2) (pv 1) (by rfl))) pa_nil))))))) (pss_one (ps_ret pe_bl)) pss_nil)
        (pss_one (ps_ret (pe_cmpR op_eq (pe_callB Sx.cr_lenX (by rfl) T.len PySem.boot_len (pa_cons (pe_callTy (Sx.cr_setOfS rfl) (by rfl) U.set (by decide +kernel) (pa_cons (pv 0) pa_nil)) pa_nil)) (pe_callB call_len_seq (by rfl) T.len PySem.boot_len (pa_cons (pv 0) pa_nil)) (nomark _)))), ?_⟩
      refine ⟨_, rfl, .ref a, S, rfl, os, fun H1 s1 => ⟨_, rfl, ?_⟩⟩
      rw [tr]
      refine iteF ⟨_, rfl, a, rfl, ⟨_, SqL.of (s1 _ _ hs')⟩, fun D hD => ?_⟩
      refine lc_list (K := K) (a := a) (xs := lot.map V.str) (fun i H2 => H2 D = some (.lst ((List.replicate i true).map V.bl)) ∧ Same H1 H2) ⟨upd_same, same_new hD⟩ (fun i H2 _ q => SqL.of (q.2 _ _ (s1 _ _ hs'))) ?_ ?_
      · rintro i z H2 hz ⟨e2, s2⟩
        have hi : i < lot.length := by
          have := (List.getElem?_eq_some_iff.mp hz).1
          rwa [List.length_map] at this
        rw [List.getElem?_map] at hz
        obtain ⟨y, hy, rfl⟩ := Option.map_eq_some_iff.mp hz
        have s12 := s1.trans s2
        refine ⟨rfl, iteT (B := True) ⟨_, rfl, _, rfl, b, _, rfl, hb.imp (fun h => SqL.ext h s12) (fun h => SqT.ext h s12), rfl, flat_all, ?_⟩⟩
        have eq : inV (.str y) (names.map V.str) = true := by
          rw [inV_str]
          exact decide_eq_true (sub y (List.mem_of_getElem? hy))
        refine ⟨_, e2, by rw [List.length_map, List.length_replicate]; omega, ?_, fun b o e => by rw [upd_ne (ne_of_none e hD)]; exact s2 _ _ e⟩
        rw [List.replicate_succ', List.map_append]
        refine upd_same.trans ?_
        rw [if_neg (by decide), eq]
        rfl
      · rintro H2 ⟨e2, s2⟩
        rw [List.length_map] at e2
        refine ⟨D, List.replicate lot.length true, rfl, SqL.of e2, ?_⟩
        rw [show (List.replicate lot.length true).all id = true from by simp]
        have s12 := s1.trans s2
        refine ⟨_, rfl, iteF ⟨_, rfl, a, lot, rfl, (hs.keep s12).sq, by omega, fun u nu => ⟨u, _, _, rfl, upd_same, ?_⟩⟩⟩
        have s3 : Same H2 (upd H2 u (Sx.SetXO P w u (fun k => decide (k ∈ lot)) (Sx.met lot lot.length))) := same_new nu
        refine ⟨_, rfl, a, _, rfl, (hs.keep (s12.trans s3)).sq, by trivial, ?_⟩
        have eq : decide (V.int ((Sx.met lot lot.length : Nat) : Int) = V.int (((lot.map V.str).length : Nat) : Int)) = true := by
          rw [(Sx.met_iff lot).mpr nd, List.length_map]
          exact decide_eq_true rfl
        show Q (.bl (decide (V.int ((Sx.met lot lot.length : Nat) : Int) = V.int (((lot.map V.str).length : Nat) : Int)))) _
        rw [eq]
        exact go _ (s12.trans s3)
    · refine ⟨_, pss_cons (ps_if (PW.pt (pw_or (pt_not (pt_val (pe_cal IL h1 (pa_cons (pv 0) pa_nil)))) (pw_or1 (pt_not (pt_val (pe_callB (cr_all rfl) (by rfl) U.all (by decide +kernel) (pa_cons (pe_lc (own := [("item", 2)]) (g := gName 2) (tt := tYes) rfl scSome.nd (pi_tup (pv 0)) (blkOk_by (N := ["value", "allowed", "item"]) (sc := defScope (top 8)) (by decide +kernel))
            (fun _ _ _ _ _ => pg_name (i := 2) scSome.nd rfl (Or.inl rfl)) (fun _ _ _ _ _ => pts_nil) (fun _ _ _ _ _ => pe_cmpR (op_inK K rfl) (pv 2) (pv 1) (by rfl))) pa_nil))))))) (pss_one (ps_ret pe_bl)) pss_nil)
        (pss_one (ps_ret (pe_cmpR op_eq (pe_callB Sx.cr_lenX (by rfl) T.len PySem.boot_len (pa_cons (pe_callTy (Sx.cr_setOfS rfl) (by rfl) U.set (by decide +kernel) (pa_cons (pv 0) pa_nil)) pa_nil)) (pe_callB call_len_seq (by rfl) T.len PySem.boot_len (pa_cons (pv 0) pa_nil)) (nomark _)))), ?_⟩
      refine ⟨_, rfl, .ref a, S, rfl, os, fun H1 s1 => ⟨_, rfl, ?_⟩⟩
      rw [tr]
      refine iteF ⟨_, rfl, a, rfl, ⟨_, SqT.of (s1 _ _ hs')⟩, fun D hD => ?_⟩
      refine lc_tup (K := K) (a := a) (xs := lot.map V.str) (fun i H2 => H2 D = some (.lst ((List.replicate i true).map V.bl)) ∧ Same H1 H2) ⟨upd_same, same_new hD⟩ (fun i H2 _ q => SqT.of (q.2 _ _ (s1 _ _ hs'))) ?_ ?_
      · rintro i z H2 hz ⟨e2, s2⟩
        have hi : i < lot.length := by
          have := (List.getElem?_eq_some_iff.mp hz).1
          rwa [List.length_map] at this
        rw [List.getElem?_map] at hz
        obtain ⟨y, hy, rfl⟩ := Option.map_eq_some_iff.mp hz
        have s12 := s1.trans s2
        refine ⟨rfl, iteT (B := True) ⟨_, rfl, _, rfl, b, _, rfl, hb.imp (fun h => SqL.ext h s12) (fun h => SqT.ext h s12), rfl, flat_all, ?_⟩⟩
        have eq : inV (.str y) (names.map V.str) = true := by
          rw [inV_str]
          exact decide_eq_true (sub y (List.mem_of_getElem? hy))
        refine ⟨_, e2, by rw [List.length_map, List.length_replicate]; omega, ?_, fun b o e => by rw [upd_ne (ne_of_none e hD)]; exact s2 _ _ e⟩
        rw [List.replicate_succ', List.map_append]
        refine upd_same.trans ?_
        rw [if_neg (by decide), eq]
        rfl
      · rintro H2 ⟨e2, s2⟩
        rw [List.length_map] at e2
        refine ⟨D, List.replicate lot.length true, rfl, SqL.of e2, ?_⟩
        rw [show (List.replicate lot.length true).all id = true from by simp]
        have s12 := s1.trans s2
        refine ⟨_, rfl, iteF ⟨_, rfl, a, lot, rfl, (hs.keep s12).sq, by omega, fun u nu => ⟨u, _, _, rfl, upd_same, ?_⟩⟩⟩
        have s3 : Same H2 (upd H2 u (Sx.SetXO P w u (fun k => decide (k ∈ lot)) (Sx.met lot lot.length))) := same_new nu
        refine ⟨_, rfl, a, _, rfl, (hs.keep (s12.trans s3)).sq, by trivial, ?_⟩
        have eq : decide (V.int ((Sx.met lot lot.length : Nat) : Int) = V.int (((lot.map V.str).length : Nat) : Int)) = true := by
          rw [(Sx.met_iff lot).mpr nd, List.length_map]
          exact decide_eq_true rfl
        show Q (.bl (decide (V.int ((Sx.met lot lot.length : Nat) : Int) = V.int (((lot.map V.str).length : Nat) : Int)))) _
        rw [eq]
        exact go _ (s12.trans s3)
end
end K42

set_option Elab.async false
set_option linter.all false
set_option maxRecDepth 100000
set_option maxHeartbeats 4000000
set_option exponentiation.threshold 3000
/-! The law over draws for families: two halves are shares. -/
namespace K42
open PySem PySem.Spec PyProof.Rows L2 Vx Vr
def spShares (C : Addr) : Sp := fun vs H Q _ => ∃ (a r1 r2 : Addr), vs = [.ref a] ∧ H a = some (.lst [.ref r1, .ref r2]) ∧ Rt C H r1 1 2 ∧ Rt C H r2 1 2 ∧ ∀ H', Same H H' → Q (.bl true) H'
theorem op_eqI {X : Cx} {C : Addr} (M : Mth X.prog X.w X.K X.mg X.base C "__eq__" 3 ["self", "other"] (spEq X.K C)) (far : Far X.K C) (hr : Room 3 X.A) : OpR X (compareOp .Eq) (rEqN X.K C) := by
  refine OpR.imp (op_eqOwn M far hr) fun x y H Q h => ?_
  obtain ⟨a, n, d, rfl, ⟨dx, ha⟩, h⟩ := h
  refine ⟨a, dx, _, rfl, ha, ?_, a, n, d, y, rfl, ⟨dx, ha⟩, ?_⟩
  · rcases h with ⟨m, e, ⟨rfl, rfl⟩ | ⟨b, rfl, dy, hb⟩, _⟩ | ⟨T, o, _⟩
    · exact .inr ⟨"int", .int m⟩
    · exact .inl ⟨b, dy, _, rfl, hb⟩
    · exact .inr ⟨T, o⟩
  · rcases h with ⟨m, e, nu, go⟩ | ⟨T, o, ne, go⟩
    · exact .inl ⟨m, e, nu, fun H' s => ⟨.inr ⟨_, rfl⟩, go H' s⟩⟩
    · exact .inr ⟨T, o, ne, .inr ⟨_, rfl⟩, go⟩
section
variable {P : Program} {w : World} {K : PySem.W.Frag} {mg : Str → Option Value} {base : Heap} {C : Addr}
abbrev NSh : List Str := ["value", "nothing", "share"]
theorem scSh : FnScope NSh ["value"] (defScope (top 35)) := ⟨rfl, rfl, rfl, by decide +kernel, rfl, by decide +kernel, by decide +kernel⟩
theorem ok_shares {f fb : Addr} {fd fdb : FuncData} (F : L2.Fun K "_are_shares" "_are_shares" (top 35) f fd) (T : Bt mg) (U : Bu mg) (US : Us P w K mg base C) (IL : Cal P w K mg base "is_list" 1 ["value"] (spIsL K)) (TO : Cal P w K mg base "total" 4 ["numbers"] (spTotal K C))
    (EQ : Mth P w K mg base C "__eq__" 3 ["self", "other"] (spEq K C)) (Mb : Meth K C "below" fb) (Fb : FnOk P w K mg base CX0 3 fb fdb ["self", "number"] (spBelow C)) (bb : Binds K fdb ["self", "number"] []) : FnOk P w K mg base CX0 6 f fd ["value"] (spShares C) := by
  refine F.ok scSh (fun vs H Q E h => ?_) (fun cdv A outer s H vs Q E hr h => ?_)
  · obtain ⟨a, r1, r2, rfl, _⟩ := h
    rfl
  · obtain ⟨a, r1, r2, rfl, hs, q1, q2, go⟩ := h
    have h1 := hr.mono (show 1 ≤ 5 by decide)
    have h2 := hr.mono (show 2 ≤ 5 by decide)
    have h3 := hr.mono (show 3 ≤ 5 by decide)
    have h4 := hr.mono (show 4 ≤ 5 by decide)
    have cl := US.rc.own.cls
    have big : (1000 : Nat) ≤ sizeLine := by decide
    refine ⟨_, pss_cons (ps_if (PW.pt (pw_or (pt_not (pt_val (pe_cal IL h1 (pa_cons (pv 0) pa_nil)))) (pw_or1 (pt_not (pt_chain op_le op_le pe_int (pe_callB call_len_seq (by rfl) T.len PySem.boot_len (pa_cons (pv 0) pa_nil)) pe_int))))) (pss_one (ps_ret pe_bl)) pss_nil)
      (pss_cons (ps_if (pt_not (pt_val (pe_callB (cr_all rfl) (by rfl) U.all (by decide +kernel) (pa_cons (pe_lc (own := [("share", 2)]) (g := gName 2) (tt := tYes) rfl scSh.nd (pi_list (pv 0)) (blkOk_by (N := NSh) (sc := defScope (top 35)) (by decide +kernel)) (fun _ _ _ _ _ => pg_name (i := 2) scSh.nd rfl (Or.inl rfl)) (fun _ _ _ _ _ => pts_nil)
          (fun _ _ _ _ _ => pe_cal US.num h2 (pa_cons (pv 2) pa_nil))) pa_nil)))) (pss_one (ps_ret pe_bl)) pss_nil)
      (pss_cons (ps_set (i := 1) scSh.nd rfl (.inr rfl) (pe_rat1 US.mkr h2 pe_int))
      (pss_one (ps_ret (pe_and (pe_callB (cr_all rfl) (by rfl) U.all (by decide +kernel) (pa_cons (pe_lc (own := [("share", 2)]) (g := gName 2) (tt := tYes) rfl scSh.nd (pi_list (pv 0)) (blkOk_by (N := NSh) (sc := defScope (top 35)) (by decide +kernel)) (fun _ _ _ _ _ => pg_name (i := 2) scSh.nd rfl (Or.inl rfl)) (fun _ _ _ _ _ => pts_nil)
          (fun _ _ _ _ _ => pe_meth (pv 1) cl Mb Fb h3 bb .nil pass0 (pa_cons (pv 2) pa_nil))) pa_nil))
        (pe_one (pe_cmpR (op_eqI EQ US.rc.far h3) (pe_cal TO h4 (pa_cons (pv 0) pa_nil)) pe_int (nomark _)))))))), ?_⟩
    have one : ∀ {H1 : Hp} {r : Addr}, Rt C H1 r 1 2 → Nu C H1 (.ref r) 1 2 := fun h => .inr ⟨_, rfl, h⟩
    have s12 : Sm 1 ∧ Sm 2 := ⟨sm_small (by decide), sm_small (by decide)⟩
    have s0 : Sm 0 := sm_small (by decide)
    refine ⟨_, rfl, .ref a, "list", rfl, .lst hs, fun H1 s1 => ⟨_, rfl, iteF ?_⟩⟩
    refine ⟨_, rfl, a, _, rfl, .inl (SqL.of (s1 _ _ hs)), _, _, rfl, rfl, _, rfl, ?_⟩
    rw [if_pos (decide_eq_true (by show (2 : Int) ≤ 2; decide : (2 : Int) ≤ (([V.ref r1, V.ref r2].length : Nat) : Int)))]
    refine ⟨_, _, rfl, rfl, _, rfl, ?_⟩
    rw [decide_eq_true (by show (2 : Int) ≤ 4; decide : (([V.ref r1, V.ref r2].length : Nat) : Int) ≤ 4)]
    refine iteF ⟨_, rfl, a, rfl, ⟨_, SqL.of (s1 _ _ hs)⟩, fun D hD => ?_⟩
    refine lc_list (K := K) (a := a) (xs := [.ref r1, .ref r2]) (fun i H2 => H2 D = some (.lst ((List.replicate i true).map V.bl)) ∧ Same H1 H2) ⟨upd_same, same_new hD⟩ (fun i H2 _ q => SqL.of (q.2 _ _ (s1 _ _ hs))) ?_ ?_
    · rintro i z H2 hz ⟨e2, s2⟩
      have hi : i < 2 := (List.getElem?_eq_some_iff.mp hz).1
      obtain ⟨r, ez, hr'⟩ : ∃ r, z = .ref r ∧ Rt C H r 1 2 := by
        rcases i with _ | _ | i
        · exact ⟨r1, by simpa using hz.symm, q1⟩
        · exact ⟨r2, by simpa using hz.symm, q2⟩
        · omega
      subst ez
      refine ⟨rfl, iteT (B := True) ⟨_, rfl, ?_⟩⟩
      dsimp only [tNil]
      refine rd_num (one (hr'.same (s1.trans s2))) rfl ?_
      refine ⟨_, e2, by rw [List.length_map, List.length_replicate]; omega, ?_, fun b o e => by rw [upd_ne (ne_of_none e hD)]; exact s2 _ _ e⟩
      rw [List.replicate_succ', List.map_append]
      exact upd_same
    · rintro H2 ⟨e2, s2⟩
      refine ⟨D, [true, true], rfl, SqL.of e2, _, rfl, iteF ?_⟩
      have sx := s1.trans s2
      intro px pd hx hd ne
      refine rd_at hx hd ne (by rfl) (by decide) (sm_lg s12.1) fun H3 n0 d0 s3 t3 nm3 => ⟨rfl, ?_⟩
      obtain ⟨rfl, rfl⟩ := norm_int nm3
      have s03 := sx.trans s3
      refine ⟨_, rfl, a, rfl, ⟨_, SqL.of (s03 _ _ hs)⟩, fun D2 hD2 => ?_⟩
      refine lc_list (K := K) (a := a) (xs := [.ref r1, .ref r2]) (fun i H4 => H4 D2 = some (.lst ((List.replicate i true).map V.bl)) ∧ Same H3 H4) ⟨upd_same, same_new hD2⟩ (fun i H4 _ q => SqL.of (q.2 _ _ (s03 _ _ hs))) ?_ ?_
      · rintro i z H4 hz ⟨e4, s4⟩
        have hi : i < 2 := (List.getElem?_eq_some_iff.mp hz).1
        obtain ⟨r, ez, hr'⟩ : ∃ r, z = .ref r ∧ Rt C H r 1 2 := by
          rcases i with _ | _ | i
          · exact ⟨r1, by simpa using hz.symm, q1⟩
          · exact ⟨r2, by simpa using hz.symm, q2⟩
          · omega
        subst ez
        have s04 := s03.trans s4
        obtain ⟨dn, hn⟩ := t3.same s4
        refine ⟨rfl, iteT (B := True) ?_⟩
        refine iteT ⟨_, rfl, px, dn, _, rfl, hn, rfl, _, rfl, px, 0, 1, .ref r, 1, 2, rfl, ⟨dn, hn⟩, one (hr'.same s04), s0, s12.1, s12.1, s12.2, fun H5 s5 => ?_⟩
        rw [show decide ((0 : Int) * 2 < 1 * 1) = true from by decide]
        refine ⟨_, s5 _ _ e4, by rw [List.length_map, List.length_replicate]; omega, ?_, fun b o e => by rw [upd_ne (ne_of_none e hD2)]; exact s5 _ _ (s4 _ _ e)⟩
        rw [List.replicate_succ', List.map_append]
        exact upd_same
      · rintro H4 ⟨e4, s4⟩
        refine ⟨D2, [true, true], rfl, SqL.of e4, _, rfl, iteT ?_⟩
        have s04 := s03.trans s4
        refine ⟨_, rfl, a, [.ref r1, .ref r2], [(1, 2), (1, 2)], rfl, .inl (SqL.of (s04 _ _ hs)), ⟨rfl, fun k v q e1 e2 => ?_⟩, by decide, fun p H5 n d s5 t5 tf => ?_⟩
        · have at_ : ∃ r, v = .ref r ∧ Rt C H r 1 2 ∧ q = (1, 2) := by
            rcases k with _ | _ | k
            · exact ⟨r1, by simpa using e1.symm, q1, by simpa using e2.symm⟩
            · exact ⟨r2, by simpa using e1.symm, q2, by simpa using e2.symm⟩
            · simp at e1
          obtain ⟨r, rfl, rt, rfl⟩ := at_
          exact ⟨one (rt.same s04), by decide, by decide, by decide⟩
        · obtain ⟨a', b', m1, n', d', m2, e1, e2⟩ := tf
          have u1 : a' = 1 ∧ b' = 2 := by
            obtain ⟨w1, w2, _, _, w5⟩ := m1
            omega
          obtain ⟨rfl, rfl⟩ := u1
          have u2 : n' = 1 ∧ d' = 1 := by
            obtain ⟨w1, w2, w3, _, w5⟩ := m2
            have e : n' = d' := by omega
            subst e
            rw [Int.gcd_self] at w3
            omega
          obtain ⟨rfl, rfl⟩ := u2
          subst e1 e2
          refine ⟨p, 1, 1, rfl, t5, .inl ⟨1, 1, .inl ⟨rfl, rfl⟩, fun H6 s6 => ?_⟩⟩
          exact go H6 ((s04.trans s5).trans s6)
end
end K42

set_option Elab.async false
set_option linter.all false
set_option maxRecDepth 100000
set_option maxHeartbeats 4000000
set_option exponentiation.threshold 3000
/-! The law over draws for families: the draw of a family, as data. -/
namespace K42
open PySem PySem.Spec PyProof.Rows L2 Vx Vr
def Dr.deq : (x y : Dr) → Decidable (x = y)
  | .fin a, .fin b => if h : a = b then .isTrue (by rw [h]) else .isFalse fun e => h (by injection e)
  | .fin _, .turn _ _ _ => .isFalse fun e => by cases e
  | .turn _ _ _, .fin _ => .isFalse fun e => by cases e
  | .turn a b c, .turn d e f =>
    if h : a = d then
      match deq b e, deq c f with
      | .isTrue h1, .isTrue h2 => .isTrue (by rw [h, h1, h2])
      | .isFalse h1, _ => .isFalse fun z => h1 (by injection z)
      | _, .isFalse h2 => .isFalse fun z => h2 (by injection z)
    else .isFalse fun z => h (by injection z)
instance : DecidableEq Dr := Dr.deq
def without (p : Str) (lots : List (List Str)) : List (List Str) := lots.filter fun lot => decide (p ∉ lot)
def cut (p : Str) (lots : List (List Str)) : List (List Str) := lots.map fun lot => lot.filter fun x => decide (x ≠ p)
def fam : List Str → List (List Str) → Dr
  | ps, lots => if lots = [] then .fin "no" else if [] ∈ lots then .fin "yes" else match ps with
    | [] => .fin "yes"
    | p :: r => if fam r (without p lots) = fam r (cut p lots) then fam r (cut p lots) else .turn p (fam r (without p lots)) (fam r (cut p lots))
def Some' (who : List Str) (lots : List (List Str)) : Prop := ∃ lot ∈ lots, ∀ x ∈ lot, x ∈ who
instance (who : List Str) (lots : List (List Str)) : Decidable (Some' who lots) := by unfold Some'; infer_instance
def Within (ps : List Str) (lots : List (List Str)) : Prop := ∀ lot ∈ lots, ∀ x ∈ lot, x ∈ ps
theorem Within.without {p : Str} {r : List Str} {lots : List (List Str)} (h : Within (p :: r) lots) : Within r (without p lots) := by
  intro lot hl x hx
  obtain ⟨h1, h2⟩ := List.mem_filter.mp hl
  rcases List.mem_cons.mp (h lot h1 x hx) with e | e
  · exact absurd (e ▸ hx) (of_decide_eq_true h2)
  · exact e
theorem Within.cut {p : Str} {r : List Str} {lots : List (List Str)} (h : Within (p :: r) lots) : Within r (cut p lots) := by
  intro lot hl x hx
  obtain ⟨old, h1, rfl⟩ := List.mem_map.mp hl
  obtain ⟨h2, h3⟩ := List.mem_filter.mp hx
  rcases List.mem_cons.mp (h old h1 x h2) with e | e
  · exact absurd e (of_decide_eq_true h3)
  · exact e
theorem some_without {p : Str} {who : List Str} {lots : List (List Str)} (h : Some' who (without p lots)) : Some' who lots := by
  obtain ⟨lot, h1, h2⟩ := h
  exact ⟨lot, (List.mem_filter.mp h1).1, h2⟩
theorem some_without_iff {p : Str} {who : List Str} {lots : List (List Str)} (hp : p ∉ who) : Some' who (without p lots) ↔ Some' who lots := by
  refine ⟨some_without, fun ⟨lot, h1, h2⟩ => ⟨lot, List.mem_filter.mpr ⟨h1, decide_eq_true fun z => hp (h2 p z)⟩, h2⟩⟩
theorem some_cut {p : Str} {who : List Str} {lots : List (List Str)} (h : Some' who lots) : Some' who (cut p lots) := by
  obtain ⟨lot, h1, h2⟩ := h
  exact ⟨_, List.mem_map.mpr ⟨lot, h1, rfl⟩, fun x hx => h2 x (List.mem_filter.mp hx).1⟩
theorem some_cut_iff {p : Str} {who : List Str} {lots : List (List Str)} (hp : p ∈ who) : Some' who (cut p lots) ↔ Some' who lots := by
  refine ⟨fun ⟨lot, h1, h2⟩ => ?_, some_cut⟩
  obtain ⟨old, h3, rfl⟩ := List.mem_map.mp h1
  refine ⟨old, h3, fun x hx => ?_⟩
  by_cases e : x = p
  · rw [e]
    exact hp
  · exact h2 x (List.mem_filter.mpr ⟨hx, decide_eq_true e⟩)
theorem fam_no (ps : List Str) : fam ps [] = .fin "no" := by
  unfold fam
  rw [if_pos rfl]
theorem fam_yes (ps : List Str) {lots : List (List Str)} (h : [] ∈ lots) : fam ps lots = .fin "yes" := by
  unfold fam
  rw [if_neg (fun z => by rw [z] at h; cases h), if_pos h]
theorem fam_cons (p : Str) (r : List Str) {lots : List (List Str)} (h1 : lots ≠ []) (h2 : [] ∉ lots) :
    fam (p :: r) lots = if fam r (without p lots) = fam r (cut p lots) then fam r (cut p lots) else .turn p (fam r (without p lots)) (fam r (cut p lots)) := by
  conv => lhs; unfold fam
  rw [if_neg h1, if_neg h2]
theorem fam_empty {lots : List (List Str)} (w : Within [] lots) (h1 : lots ≠ []) : [] ∈ lots := by
  cases lots with
  | nil => exact absurd rfl h1
  | cons l r =>
    cases l with
    | nil => exact List.mem_cons_self ..
    | cons x y => exact absurd (w _ (List.mem_cons_self ..) x (List.mem_cons_self ..)) (by simp)
theorem fam_frc (who : List Str) : ∀ (ps : List Str) (lots : List (List Str)), Within ps lots → frc who (fam ps lots) = decide (Some' who lots) := by
  intro ps
  induction ps with
  | nil =>
    intro lots w
    by_cases h1 : lots = []
    · subst h1
      rw [fam_no]
      exact (decide_eq_false fun ⟨lot, h, _⟩ => nomatch h).symm
    · rw [fam_yes _ (fam_empty w h1)]
      exact (decide_eq_true ⟨[], fam_empty w h1, fun x hx => nomatch hx⟩).symm
  | cons p r ih =>
    intro lots w
    by_cases h1 : lots = []
    · subst h1
      rw [fam_no]
      exact (decide_eq_false fun ⟨lot, h, _⟩ => nomatch h).symm
    by_cases h2 : [] ∈ lots
    · rw [fam_yes _ h2]
      exact (decide_eq_true ⟨[], h2, fun x hx => nomatch hx⟩).symm
    rw [fam_cons p r h1 h2]
    have ia := ih _ w.without
    have ib := ih _ w.cut
    by_cases hp : p ∈ who
    · split
      · rw [ib, decide_eq_decide]
        exact some_cut_iff hp
      · unfold frc
        rw [if_pos hp, ia, ib, Bool.eq_iff_iff, Bool.or_eq_true, decide_eq_true_eq, decide_eq_true_eq, decide_eq_true_eq, some_cut_iff hp]
        exact ⟨fun z => z.elim some_without id, .inr⟩
    · split
      · rename_i e
        rw [← e, ia, decide_eq_decide]
        exact some_without_iff hp
      · unfold frc
        rw [if_neg hp, ia, ib, Bool.eq_iff_iff, Bool.and_eq_true, decide_eq_true_eq, decide_eq_true_eq, decide_eq_true_eq, some_without_iff hp]
        exact ⟨fun z => z.1, fun z => ⟨z, some_cut z⟩⟩
theorem fam_deep : ∀ (ps : List Str) (lots : List (List Str)), (fam ps lots).deep ≤ ps.length := by
  intro ps
  induction ps with
  | nil =>
    intro lots
    unfold fam
    split
    · exact Nat.le_refl _
    · split <;> exact Nat.le_refl _
  | cons p r ih =>
    intro lots
    by_cases h1 : lots = []
    · subst h1
      rw [fam_no]
      exact Nat.zero_le _
    by_cases h2 : [] ∈ lots
    · rw [fam_yes _ h2]
      exact Nat.zero_le _
    rw [fam_cons p r h1 h2]
    have ia := ih (without p lots)
    have ib := ih (cut p lots)
    rw [List.length_cons]
    split
    · omega
    · show max _ _ + 1 ≤ _
      omega
theorem fair_mono {folk : List Str} {p : Str} : ∀ {d : Dr}, d.fair folk → d.fair (p :: folk)
  | .fin _, h => h
  | .turn q x y, ⟨h1, h2, h3⟩ => ⟨List.mem_cons_of_mem _ h1, fair_mono h2, fair_mono h3⟩
theorem fair_sub {folk more : List Str} (s : ∀ x ∈ folk, x ∈ more) : ∀ {d : Dr}, d.fair folk → d.fair more
  | .fin _, h => h
  | .turn q x y, ⟨h1, h2, h3⟩ => ⟨s q h1, fair_sub s h2, fair_sub s h3⟩
theorem fam_fair : ∀ (ps : List Str) (lots : List (List Str)), (fam ps lots).fair ps := by
  intro ps
  induction ps with
  | nil =>
    intro lots
    unfold fam
    split
    · exact .inl rfl
    · split <;> exact .inr rfl
  | cons p r ih =>
    intro lots
    by_cases h1 : lots = []
    · subst h1
      rw [fam_no]
      exact .inl rfl
    by_cases h2 : [] ∈ lots
    · rw [fam_yes _ h2]
      exact .inr rfl
    rw [fam_cons p r h1 h2]
    split
    · exact fair_mono (ih _)
    · exact ⟨List.mem_cons_self .., fair_mono (ih _), fair_mono (ih _)⟩
end K42

set_option Elab.async false
set_option linter.all false
set_option maxRecDepth 100000
set_option maxHeartbeats 4000000
set_option exponentiation.threshold 3000
/-! The law over draws for families: what the draw of a family is made by. -/
namespace K42
open PySem PySem.Spec PyProof.Rows L2 Vx Vr
/-! ### a list or a tuple walked -/
def iEither (K : PySem.W.Frag) (te : TE) : TI := fun σ H R => iList K te σ H R ∨ iTup K te σ H R
theorem pi_either {X : Cx} {tg l : Expr} {tl : TE} (K : PySem.W.Frag) (hK : X.K = K) (hl : PE X l tl) : PI X tg l (iEither K tl) := by
  subst hK
  refine ⟨fun pins s σ H R I h => ?_⟩
  rcases h with h | h
  · exact (pi_list hl).run pins s σ H R I h
  · exact (pi_tup hl).run pins s σ H R I h
/-- the scope of the outer of the two comprehensions -/
abbrev inSc : Scope := { kind := .function, names := [(Str.ofString ".0", .local), (Str.ofString "chosen", .local), (Str.ofString "person", .cell)], isGenerator := false, isCoroutine := false }
/-! ### ends made, turns made, draws compared -/
/-- the names of the ends of a draw for a family -/
def Yn (x : Str) : Prop := x = "no" ∨ x = "yes"
theorem Yn.nm {x : Str} (h : Yn x) : Nm x := by
  rcases h with rfl | rfl
  · exact ⟨by decide, by decide, by decide⟩
  · exact ⟨by decide, by decide, by decide⟩
def spEnd (K : PySem.W.Frag) (CE CR C : Addr) (M : Rest) : Sp := fun vs H Q _ => ∃ (x dx : Addr) (nm : Str), vs = [.ref x, .str nm] ∧ H x = some (.ins CE dx []) ∧ Yn nm ∧ ∀ H', Keep x H H' → IsD K CE CR C M H' x (.fin nm) → Q .non H'
structure MkE (P : Program) (w : World) (K : PySem.W.Frag) (mg : Str → Option Value) (base : Heap) (CE CR C : Addr) (M : Rest) : Prop where
  ex : ∃ f fd, Mk K CE f ∧ FnOk P w K mg base CX0 10 f fd ["self", "name"] (spEnd K CE CR C M) ∧ mg "End" = some (.ref CE) ∧ Binds K fd ["self", "name"] []
theorem rd_end {K : PySem.W.Frag} {CE CR C : Addr} {M : Rest} {H : Hp} {R : VK} {vs : List V} {x dx : Addr} {nm : Str} (hx : H x = none) (hd : H dx = none) (_ne : dx ≠ x) (e : vs = [.str nm]) (n : Yn nm)
    (k : ∀ H3, Same H H3 → IsD K CE CR C M H3 x (.fin nm) → R .non H3) : spEnd K CE CR C M (.ref x :: vs) (upd (upd H dx (.own x)) x (.ins CE dx [])) R E0 := by
  subst e
  refine ⟨x, dx, nm, rfl, upd_same, n, fun H' kp isd => k H' (fun b o e => ?_) isd⟩
  refine kp b o (ne_of_none e hx) ?_
  rw [upd_ne (ne_of_none e hx), upd_ne (ne_of_none e hd)]
  exact e
def spTurn (K : PySem.W.Frag) (CE CR C : Addr) (M : Rest) : Sp := fun vs H Q _ => ∃ (p : Str) (a b : Addr) (x y : Dr), vs = [.str p, .ref a, .ref b] ∧ Nm p ∧ IsD K CE CR C M H a x ∧ IsD K CE CR C M H b y ∧ x.deep < 6 ∧ y.deep < 6 ∧ ∀ q H', Same H H' → IsD K CE CR C M H' q (.turn p x y) → Q (.ref q) H'
def spSame (K : PySem.W.Frag) (CE CR C : Addr) (M : Rest) : Sp := fun vs H Q _ => ∃ (a b : Addr) (d e : Dr), vs = [.ref a, .ref b] ∧ IsD K CE CR C M H a d ∧ IsD K CE CR C M H b e ∧ d.deep ≤ 6 ∧ e.deep ≤ 6 ∧ ∀ H', Same H H' → Q (.bl (decide (d = e))) H'
structure Eqs (P : Program) (w : World) (K : PySem.W.Frag) (mg : Str → Option Value) (base : Heap) (CE CR C : Addr) (M : Rest) : Prop where
  fin : Mth P w K mg base CE "__eq__" 8 ["self", "other"] (spSame K CE CR C M)
  turn : Mth P w K mg base CR "__eq__" 8 ["self", "other"] (spSame K CE CR C M)
  er : PySem.W.notFirst K CE (.ref CR) = true
  re : PySem.W.notFirst K CR (.ref CE) = true
def rSame (K : PySem.W.Frag) (CE CR C : Addr) (M : Rest) : R2 := fun x y H Q => ∃ (a b : Addr) (d e : Dr), x = .ref a ∧ y = .ref b ∧ IsD K CE CR C M H a d ∧ IsD K CE CR C M H b e ∧ d.deep ≤ 6 ∧ e.deep ≤ 6 ∧ ∀ H', Same H H' → Q (.bl (decide (d = e))) H'
section
variable {X : Cx} {CE CR C : Addr} {M : Rest}
theorem pe_end {a : Expr} {ta : TE} {p pos : Pos} (E : MkE X.prog X.w X.K X.mg X.base CE CR C M) (hr : Room 11 X.A) (ha : PE X a ta) (hg : Gl X "End" := by rfl) (na : starEach [a] X.env = (false, eval a X.env) :: starEach [] X.env := by rfl) :
    PE X (.Call (.Name "End" p) [a] [] pos) (tMake CE (spEnd X.K CE CR C M) [] E0 (tCons ta tNil)) := by
  obtain ⟨f, fd, mk, F, g, bs⟩ := E.ex
  exact pe_make mk F hr hg g bs .nil pass0 (pa_cons ha pa_nil na) (by decide) na (by rfl)
theorem op_same (E : Eqs X.prog X.w X.K X.mg X.base CE CR C M) (hr : Room 8 X.A) : OpR X (compareOp .Eq) (rSame X.K CE CR C M) := by
  intro pins s σ H x y v u Q I rx ry ⟨a, b, d, e, ex, ey, h1, h2, l1, l2, go⟩
  have say : spSame X.K CE CR C M [x, y] H (fun v H' => Nn v ∧ Q v H') E0 := ⟨a, b, d, e, by rw [ex, ey], h1, h2, l1, l2, fun H' s => ⟨.inr ⟨_, rfl⟩, go H' s⟩⟩
  cases d with
  | fin nm =>
    obtain ⟨dx, fs, g, dr, ea, _⟩ := h1
    cases e with
    | fin nm' =>
      obtain ⟨dy, gs, g', dr', eb, _⟩ := h2
      exact Se.op_eqTwo E.fin (by simp [PySem.W.notFirst]) hr pins s σ H x y v u Q I rx ry ⟨a, dx, fs, b, dy, gs, ex, ea, ey, eb, say⟩
    | turn p' x' y' =>
      obtain ⟨dy, gs, _, _, _, _, _, _, _, _, eb, _⟩ := h2
      exact Se.op_eqTwo E.fin E.er hr pins s σ H x y v u Q I rx ry ⟨a, dx, fs, b, dy, gs, ex, ea, ey, eb, say⟩
  | turn p x0 y0 =>
    obtain ⟨dx, fs, _, _, _, _, _, _, _, _, ea, _⟩ := h1
    cases e with
    | fin nm' =>
      obtain ⟨dy, gs, g', dr', eb, _⟩ := h2
      exact Se.op_eqTwo E.turn E.re hr pins s σ H x y v u Q I rx ry ⟨a, dx, fs, b, dy, gs, ex, ea, ey, eb, say⟩
    | turn p' x' y' =>
      obtain ⟨dy, gs, _, _, _, _, _, _, _, _, eb, _⟩ := h2
      exact Se.op_eqTwo E.turn (by simp [PySem.W.notFirst]) hr pins s σ H x y v u Q I rx ry ⟨a, dx, fs, b, dy, gs, ex, ea, ey, eb, say⟩
end
end K42

set_option Elab.async false
set_option linter.all false
set_option maxRecDepth 100000
set_option maxHeartbeats 4000000
set_option exponentiation.threshold 3000
/-! The law over draws for families: _family_draw. -/
namespace K42
open PySem PySem.Spec PyProof.Rows L2 Vx Vr
/-- the sets, one by one, as lists or tuples -/
def Fm (H : Hp) : List Addr → List (List Str) → Prop
  | [], [] => True
  | r :: rs, lot :: lots => Seq H r (lot.map V.str) ∧ Fm H rs lots
  | [], _ :: _ => False
  | _ :: _, [] => False
theorem Fm.len {H : Hp} : ∀ {rs : List Addr} {lots : List (List Str)}, Fm H rs lots → rs.length = lots.length
  | [], [], _ => rfl
  | r :: rs, lot :: lots, h => by rw [List.length_cons, List.length_cons, Fm.len h.2]
theorem Fm.keep {H H' : Hp} (s : Same H H') : ∀ {rs : List Addr} {lots : List (List Str)}, Fm H rs lots → Fm H' rs lots
  | [], [], _ => trivial
  | r :: rs, lot :: lots, h => ⟨h.1.keep s, Fm.keep s h.2⟩
theorem Fm.get {H : Hp} : ∀ {rs : List Addr} {lots : List (List Str)} {i : Nat} {r : Addr}, Fm H rs lots → rs[i]? = some r → ∃ lot, lots[i]? = some lot ∧ Seq H r (lot.map V.str)
  | r :: rs, lot :: lots, 0, q, h, e => by
    obtain rfl : r = q := by simpa using e
    exact ⟨lot, rfl, h.1⟩
  | r :: rs, lot :: lots, i + 1, q, h, e => Fm.get (i := i) h.2 (by simpa using e)
theorem Fm.snoc {H : Hp} {r : Addr} {lot : List Str} (e : Seq H r (lot.map V.str)) : ∀ {rs : List Addr} {lots : List (List Str)}, Fm H rs lots → Fm H (rs ++ [r]) (lots ++ [lot])
  | [], [], _ => ⟨e, trivial⟩
  | r :: rs, lot :: lots, h => ⟨h.1, Fm.snoc e h.2⟩
theorem Fm.put {H : Hp} {D : Addr} {o : HO} : ∀ {rs : List Addr} {lots : List (List Str)}, Fm H rs lots → (∀ q ∈ rs, q ≠ D) → Fm (upd H D o) rs lots
  | [], [], _, _ => trivial
  | r :: rs, lot :: lots, h, n => ⟨h.1.imp (fun e => by rw [upd_ne (n r (List.mem_cons_self ..))]; exact e) (fun e => by rw [upd_ne (n r (List.mem_cons_self ..))]; exact e), Fm.put h.2 fun q hq => n q (List.mem_cons_of_mem _ hq)⟩
theorem cut_tail (xs : List V) : cutV xs (some 1) none = xs.drop 1 := by
  cases xs with
  | nil => rfl
  | cons x r => simp [cutV, HT.sIx]
def spFam (K : PySem.W.Frag) (CE CR C : Addr) (M : Rest) (n : Nat) : Sp := fun vs H Q _ => ∃ (pl sl : Addr) (ps : List Str) (rs : List Addr) (lots : List (List Str)), vs = [.ref pl, .ref sl] ∧ SqL K H pl (ps.map V.str) ∧ (∀ x ∈ ps, Nm x) ∧ H sl = some (.lst (rs.map V.ref)) ∧ Fm H rs lots ∧
  lots.length ≤ 6 ∧ (∀ lot ∈ lots, lot.length ≤ 6) ∧ Within ps lots ∧ ps.length < n ∧ ps.length ≤ 6 ∧ ∀ q H', Same H H' → IsD K CE CR C M H' q (fam ps lots) → Q (.ref q) H'
theorem sl_listK {X : Cx} (K : PySem.W.Frag) (hK : X.K = K) : SlR X (rSlL K) := by
  subst hK
  exact sl_list
theorem call_lenK {X : Cx} (K : PySem.W.Frag) (hK : X.K = K) : CallR X (.builtin "len") (fun xs H Q => ∃ (p : Addr) (ys : List V), xs = [.ref p] ∧ (SqL K H p ys ∨ SqT K H p ys) ∧ Q (.int (ys.length : Nat)) H) := by
  subst hK
  exact call_len_seq
theorem op_notInK {X : Cx} (K : PySem.W.Frag) (hK : X.K = K) : OpR X (compareOp .NotIn) (rIn K true) := by
  subst hK
  exact op_notIn_seq
section
variable {P : Program} {w : World} {K : PySem.W.Frag} {mg : Str → Option Value} {base : Heap} {CE CR C : Addr} {M : Rest}
abbrev NFa : List Str := ["people", "sets", "person", "against", "beside", "chosen", "one"]
theorem scFa : FnScope NFa ["people", "sets"] (defScope (top 47)) := ⟨rfl, rfl, rfl, by decide +kernel, rfl, by decide +kernel, by decide +kernel⟩
theorem ok_fam {f : Addr} {fd : FuncData} (F : L2.Fun K "_family_draw" "_family_draw" (top 47) f fd) (T : Bt mg) (U : Bu mg) (E : MkE P w K mg base CE CR C M) (TU : Cal P w K mg base "fair_turn" 12 ["person", "one", "other"] (spTurn K CE CR C M)) (EQ : Eqs P w K mg base CE CR C M) (mo : MonR M) (own : mg "_family_draw" = some (.ref f)) (kp : PySem.W.keepIn K (.ref f) = true)
    (bd : Binds K fd ["people", "sets"] []) : ∀ n, FnOk P w K mg base CX0 (n + 13) f fd ["people", "sets"] (spFam K CE CR C M n) := by
  intro n
  induction n with
  | zero => exact ⟨fun vs H Q E ⟨pl, sl, ps, rs, lots, _, _, _, _, _, _, _, _, lt, _⟩ => absurd lt (Nat.not_lt_zero _), fun A outer s H args us vs Q E _ _ _ _ ⟨pl, sl, ps, rs, lots, _, _, _, _, _, _, _, _, lt, _⟩ => absurd lt (Nat.not_lt_zero _)⟩
  | succ n ih =>
    have S : Cal P w K mg base "_family_draw" (n + 13) ["people", "sets"] (spFam K CE CR C M n) := ⟨f, fd, ih, own, kp, bd⟩
    refine F.ok scFa (fun vs H Q E h => ?_) (fun cdv A outer s H vs Q E' hr h => ?_)
    · obtain ⟨pl, sl, ps, rs, lots, rfl, _⟩ := h
      rfl
    · obtain ⟨pl, sl, ps, rs, lots, rfl, hp, nm, hs, fm, l6, al6, wi, lt, p6, go⟩ := h
      have h6 := hr.mono (show 11 ≤ n + 13 by omega)
      have h7 := hr.mono (show 8 ≤ n + 13 by omega)
      have h12 := hr.mono (show 12 ≤ n + 13 by omega)
      refine ⟨_, pss_cons (ps_if (pt_not (pt_truth (pv 1) (by intro _; rfl))) (pss_one (ps_ret (pe_end E h6 pe_str))) pss_nil)
        (pss_cons (ps_if (pt_not (pt_val (pe_callB (cr_all rfl) (by rfl) U.all (by decide +kernel) (pa_cons (pe_lc (own := [("chosen", 5)]) (g := gName 5) (tt := tYes) rfl scFa.nd (pi_list (pv 1)) (blkOk_by (N := NFa) (sc := defScope (top 47)) (by decide +kernel)) (fun _ _ _ _ _ => pg_name (i := 5) scFa.nd rfl (Or.inl rfl)) (fun _ _ _ _ _ => pts_nil)
            (fun _ _ _ _ _ => pe_cmpR op_gt (pe_callB (call_lenK K rfl) (by rfl) T.len PySem.boot_len (pa_cons (pv 5) pa_nil)) pe_int (nomark _))) pa_nil)))) (pss_one (ps_ret (pe_end E h6 pe_str))) pss_nil)
        (pss_cons (ps_set (i := 2) scFa.nd rfl (.inr rfl) (pe_ix ix_list (pv 0) pe_int (fun _ _ => rfl)))
        (pss_cons (ps_set (i := 3) scFa.nd rfl (.inl rfl) (pe_cal S hr (pa_cons (pe_slice sl_list (pv 0) (po_some pe_int) po_none) (pa_cons (pe_lc (own := [("chosen", 5)]) (g := gName 5) (tt := tTest (tOp (rIn K true) (tVar 2) (tVar 5))) rfl scFa.nd (pi_list (pv 1)) (blkOk_by (N := NFa) (sc := defScope (top 47)) (by decide +kernel)) (fun _ _ _ _ _ => pg_name (i := 5) scFa.nd rfl (Or.inl rfl))
            (fun _ _ _ _ _ => pts_one (pt_cmpR (op_notInK K rfl) (pv 2) (pv 5) (by rfl))) (fun _ _ _ _ _ => pv 5)) pa_nil))))
        (pss_cons (ps_set (i := 4) scFa.nd rfl (.inl rfl) (pe_cal S hr (pa_cons (pe_slice sl_list (pv 0) (po_some pe_int) po_none) (pa_cons (pe_lc (own := [("chosen", 5)]) (g := gName 5) (tt := tYes) rfl scFa.nd (pi_list (pv 1)) (blkOk_by (N := NFa) (sc := defScope (top 47)) (by decide +kernel)) (fun _ _ _ _ _ => pg_name (i := 5) scFa.nd rfl (Or.inl rfl)) (fun _ _ _ _ _ => pts_nil)
            (fun _ _ _ _ _ => pe_lc (own := [("one", 6)]) (g := gName 6) (tt := tTest (tOp rNe (tVar 6) (tVar 2))) rfl scFa.nd (pi_either K rfl (pv 5)) (blkOk_by (N := NFa) (sc := inSc) (by decide +kernel)) (fun _ _ _ _ _ => pg_name (i := 6) scFa.nd rfl (Or.inl rfl)) (fun _ _ _ _ _ => pts_one (pt_cmpR op_ne (pv 6) (pv 2) (nomark _))) (fun _ _ _ _ _ => pv 6))) pa_nil))))
        (pss_one (ps_ret (pe_ifExp (pt_cmpR (op_same EQ h7) (pv 3) (pv 4) (nomark _)) (pv 4) (pe_cal TU h12 (pa_cons (pv 2) (pa_cons (pv 3) (pa_cons (pv 4) pa_nil))))))))))), ?_⟩
      have big : (1000 : Nat) ≤ sizeLine := by decide
      have len := fm.len
      have nmNo : Yn ("no" : Str) := .inl rfl
      have nmYes : Yn ("yes" : Str) := .inr rfl
      refine ⟨_, rfl, !(rs.map V.ref).isEmpty, .inl ⟨_, SqL.of hs, rfl⟩, ?_⟩
      by_cases h1 : lots = []
      · subst h1
        obtain rfl : rs = [] := List.length_eq_zero_iff.mp len
        refine iteT ?_
        intro px pd hx hd ne
        refine rd_end hx hd ne (by rfl) nmNo fun H3 s3 isd => ⟨rfl, ?_⟩
        exact go px H3 s3 (by rw [fam_no]; exact isd)
      have r0 : rs ≠ [] := fun z => h1 (by rw [z] at len; exact List.length_eq_zero_iff.mp len.symm)
      rw [show (!(rs.map V.ref).isEmpty) = true from by cases rs with | nil => exact absurd rfl r0 | cons a b => rfl]
      refine iteF ⟨_, rfl, sl, rfl, ⟨_, SqL.of hs⟩, fun D hD => ?_⟩
      refine lc_list (K := K) (a := sl) (xs := rs.map V.ref) (fun i H2 => H2 D = some (.lst (((lots.take i).map fun l => decide (0 < l.length)).map V.bl)) ∧ Same H H2) ⟨upd_same, same_new hD⟩ (fun i H2 _ q => SqL.of (q.2 _ _ hs)) ?_ ?_
      · rintro i z H2 hz ⟨e2, s2⟩
        rw [List.getElem?_map] at hz
        obtain ⟨r, hr2, rfl⟩ := Option.map_eq_some_iff.mp hz
        obtain ⟨lot, hlot, sq⟩ := fm.get hr2
        have il : i < lots.length := (List.getElem?_eq_some_iff.mp hlot).1
        refine ⟨rfl, iteT (B := True) ⟨_, rfl, r, _, rfl, (sq.keep s2).sq, _, _, rfl, rfl, ?_⟩⟩
        refine ⟨_, e2, by rw [List.length_map, List.length_map, List.length_take]; omega, ?_, fun b o e => by rw [upd_ne (ne_of_none e hD)]; exact s2 _ _ e⟩
        rw [List.take_add_one, hlot, List.map_append, List.map_append]
        refine upd_same.trans ?_
        have pos : decide ((0 : Int) < (((lot.map V.str).length : Nat) : Int)) = decide (0 < lot.length) := by
          rw [decide_eq_decide, List.length_map]
          omega
        show some (HO.lst (_ ++ [V.bl (decide ((0 : Int) < (((lot.map V.str).length : Nat) : Int)))])) = _
        rw [pos]
        rfl
      · rintro H2 ⟨e2, s2⟩
        rw [List.length_map, len, List.take_length] at e2
        refine ⟨D, lots.map fun l => decide (0 < l.length), rfl, SqL.of e2, _, rfl, ?_⟩
        by_cases h2 : [] ∈ lots
        · rw [show (lots.map fun l => decide (0 < l.length)).all id = false from by
            rw [List.all_eq_false]
            exact ⟨false, List.mem_map.mpr ⟨[], h2, rfl⟩, by decide⟩]
          refine iteT ?_
          intro px pd hx hd ne
          refine rd_end hx hd ne (by rfl) nmYes fun H3 s3 isd => ⟨rfl, ?_⟩
          exact go px H3 (s2.trans s3) (by rw [fam_yes _ h2]; exact isd)
        rw [show (lots.map fun l => decide (0 < l.length)).all id = true from by
          rw [List.all_eq_true]
          intro b hb
          obtain ⟨l, hl, rfl⟩ := List.mem_map.mp hb
          have ne : l ≠ [] := fun z => h2 (z ▸ hl)
          show decide (0 < l.length) = true
          exact decide_eq_true (List.length_pos_iff.mpr ne)]
        obtain ⟨p, r, rfl⟩ : ∃ p r, ps = p :: r := by
          cases ps with
          | nil => exact absurd (fam_empty wi h1) h2
          | cons p r => exact ⟨p, r, rfl⟩
        have hp2 := SqL.ext hp s2
        have hs2 := s2 _ _ hs
        have fm2 := fm.keep s2
        refine iteF ⟨_, rfl, pl, _, 0, .str p, rfl, rfl, hp2, atI_nat (j := 0) (by rfl), ?_⟩
        have il6 : ∀ {i : Nat}, i ≤ lots.length → i ≤ 6 := fun h => Nat.le_trans h l6
        refine ⟨_, rfl, _, rfl, pl, _, rfl, hp2, fun L nL => ?_⟩
        rw [cut_tail, show ((p :: r).map V.str).drop 1 = r.map V.str from rfl]
        have s3 : Same H2 (upd H2 L (.lst (r.map V.str))) := same_new nL
        have eL : (upd H2 L (.lst (r.map V.str))) L = some (.lst (r.map V.str)) := upd_same
        generalize upd H2 L (.lst (r.map V.str)) = H3 at s3 eL ⊢
        have hs3 := s3 _ _ hs2
        have fm3 := fm2.keep s3
        have wi1 : Within r (without p lots) := wi.without
        have wi2 : Within r (cut p lots) := wi.cut
        have nmr : ∀ x ∈ r, Nm x := fun x hx => nm x (List.mem_cons_of_mem _ hx)
        rw [List.length_cons] at lt p6
        refine ⟨_, rfl, sl, rfl, ⟨_, SqL.of hs3⟩, fun D2 hD2 => ?_⟩
        refine lc_list (K := K) (a := sl) (xs := rs.map V.ref) (fun i H4 => ∃ ss : List Addr, H4 D2 = some (.lst (ss.map V.ref)) ∧ Same H3 H4 ∧ Fm H3 ss (without p (lots.take i)) ∧ ss.length ≤ i)
          ⟨[], upd_same, same_new hD2, by show Fm H3 [] (without p []); exact trivial, Nat.le_refl _⟩ (fun i H4 _ ⟨ss, _, s4, _⟩ => SqL.of (s4 _ _ hs3)) ?_ ?_
        · rintro i z H4 hz ⟨ss, e4, s4, f4, z4⟩
          rw [List.getElem?_map] at hz
          obtain ⟨q, hq, rfl⟩ := Option.map_eq_some_iff.mp hz
          obtain ⟨lot, hlot, sq⟩ := fm3.get hq
          have il : i < lots.length := (List.getElem?_eq_some_iff.mp hlot).1
          have w4 : without p (lots.take (i + 1)) = without p (lots.take i) ++ (if p ∈ lot then [] else [lot]) := by
            unfold without
            rw [List.take_add_one, hlot, List.filter_append]
            congr 1
            by_cases c : p ∈ lot
            · rw [if_pos c]
              simp [c]
            · rw [if_neg c]
              simp [c]
          refine ⟨rfl, _, rfl, _, rfl, q, _, rfl, (sq.keep s4).sq, rfl, flat_all, _, rfl, ?_⟩
          show if (!inV (.str p) (lot.map V.str)) = true then _ else _
          rw [inV_str]
          by_cases c : p ∈ lot
          · rw [decide_eq_true c]
            refine iteF ⟨ss, e4, s4, ?_, by omega⟩
            rw [w4, if_pos c, List.append_nil]
            exact f4
          · rw [decide_eq_false c]
            refine iteT ⟨_, rfl, _, e4, by rw [List.length_map]; omega, ss ++ [q], by rw [List.map_append]; exact upd_same, fun b o e => by rw [upd_ne (ne_of_none e hD2)]; exact s4 _ _ e, ?_, by rw [List.length_append]; show _ + 1 ≤ _; omega⟩
            rw [w4, if_neg c]
            exact f4.snoc sq
        · rintro H4 ⟨ss, e4, s4, f4, z4⟩
          rw [List.length_map, len, List.take_length] at f4
          rw [List.length_map] at z4
          have few : (without p lots).length ≤ 6 := by
            have q := f4.len
            omega
          refine ⟨L, D2, r, ss, without p lots, rfl, SqL.of (s4 _ _ eL), nmr, e4, f4.keep s4, few, fun lot hl => al6 lot (List.mem_filter.mp hl).1, wi1, by omega, by omega, fun q1 H5 s5 isd1 => ?_⟩
          have s25 : Same H2 H5 := (s3.trans s4).trans s5
          refine ⟨_, rfl, _, rfl, pl, _, rfl, SqL.ext hp2 s25, fun L' nL' => ?_⟩
          rw [cut_tail, show ((p :: r).map V.str).drop 1 = r.map V.str from rfl]
          have s6 : Same H5 (upd H5 L' (.lst (r.map V.str))) := same_new nL'
          have eL6 : (upd H5 L' (.lst (r.map V.str))) L' = some (.lst (r.map V.str)) := upd_same
          generalize upd H5 L' (.lst (r.map V.str)) = H6 at s6 eL6 ⊢
          have s36 := (s4.trans s5).trans s6
          have hs6 := s36 _ _ hs3
          have fm6 := fm3.keep s36
          refine ⟨_, rfl, sl, rfl, ⟨_, SqL.of hs6⟩, fun D3 hD3 => ?_⟩
          refine lc_list (K := K) (a := sl) (xs := rs.map V.ref) (fun i H7 => ∃ ss : List Addr, H7 D3 = some (.lst (ss.map V.ref)) ∧ Same H6 H7 ∧ Fm H7 ss (cut p (lots.take i)) ∧ ss.length = i ∧ ∀ q ∈ ss, q ≠ D3)
            ⟨[], upd_same, same_new hD3, by show Fm _ [] (cut p []); exact trivial, rfl, fun q hq => nomatch hq⟩ (fun i H7 _ ⟨ss, _, s7, _⟩ => SqL.of (s7 _ _ hs6)) ?_ ?_
          · rintro i z H7 hz ⟨tt, e7, s7, f7, z7, o7⟩
            rw [List.getElem?_map] at hz
            obtain ⟨q, hq, rfl⟩ := Option.map_eq_some_iff.mp hz
            obtain ⟨lot, hlot, sq⟩ := fm6.get hq
            have il : i < lots.length := (List.getElem?_eq_some_iff.mp hlot).1
            have ll := al6 lot (List.mem_of_getElem? hlot)
            have sq7 := sq.keep s7
            have w7 : cut p (lots.take (i + 1)) = cut p (lots.take i) ++ [lot.filter fun x => decide (x ≠ p)] := by
              unfold cut
              rw [List.take_add_one, hlot, List.map_append]
              rfl
            refine ⟨rfl, iteT (B := True) ?_⟩
            -- the inner one
            have turn : ∀ {D4 : Addr} {H8 : Hp} {j : Nat} {y : Str}, H7 D4 = none → lot[j]? = some y → H8 D4 = some (.lst (((lot.take j).filter fun x => decide (x ≠ p)).map V.str)) → Same H7 H8 →
                ((!decide (V.str y = V.str p)) = true ∧ (∃ acc, H8 D4 = some (.lst acc) ∧ acc.length < sizeLine ∧ (upd H8 D4 (.lst (acc ++ [V.str y]))) D4 = some (.lst (((lot.take (j + 1)).filter fun x => decide (x ≠ p)).map V.str)) ∧ Same H7 (upd H8 D4 (.lst (acc ++ [V.str y])))) ∨ ((!decide (V.str y = V.str p)) = false ∧ H8 D4 = some (.lst (((lot.take (j + 1)).filter fun x => decide (x ≠ p)).map V.str)) ∧ Same H7 H8)) := by
              intro D4 H8 j y n4 hy e8 s8
              have tk : (lot.take (j + 1)).filter (fun x => decide (x ≠ p)) = (lot.take j).filter (fun x => decide (x ≠ p)) ++ (if y = p then [] else [y]) := by
                rw [List.take_add_one, hy, List.filter_append]
                congr 1
                by_cases c : y = p
                · rw [if_pos c]
                  simp [c]
                · rw [if_neg c]
                  simp [c]
              by_cases c : y = p
              · refine .inr ⟨by rw [c, decide_eq_true rfl] <;> rfl, ?_, s8⟩
                rw [tk, if_pos c, List.append_nil]
                exact e8
              · refine .inl ⟨by rw [decide_eq_false fun z => c (V.str.inj z)] <;> rfl, _, e8, ?_, ?_, fun b o e => by rw [upd_ne (ne_of_none e n4)]; exact s8 _ _ e⟩
                · have q1 : ((lot.take j).filter fun x => decide (x ≠ p)).length ≤ (lot.take j).length := List.length_filter_le _ _
                  rw [List.length_take] at q1
                  rw [List.length_map]
                  omega
                · rw [tk, if_neg c, List.map_append]
                  exact upd_same
            have fin : ∀ {D4 : Addr} {H8 : Hp}, H7 D4 = none → H8 D4 = some (.lst ((lot.filter fun x => decide (x ≠ p)).map V.str)) → Same H7 H8 → ∃ acc, H8 D3 = some (.lst acc) ∧ acc.length < sizeLine ∧
                ∃ ss : List Addr, (upd H8 D3 (.lst (acc ++ [V.ref D4]))) D3 = some (.lst (ss.map V.ref)) ∧ Same H6 (upd H8 D3 (.lst (acc ++ [V.ref D4]))) ∧ Fm (upd H8 D3 (.lst (acc ++ [V.ref D4]))) ss (cut p (lots.take (i + 1))) ∧ ss.length = i + 1 ∧ ∀ q ∈ ss, q ≠ D3 := by
              intro D4 H8 n4 e8 s8
              have d43 : D4 ≠ D3 := Ne.symm (ne_of_none e7 n4)
              have out : ∀ q ∈ tt ++ [D4], q ≠ D3 := fun q hq => (List.mem_append.mp hq).elim (o7 q) fun hq => by rw [List.mem_singleton.mp hq]; exact d43
              refine ⟨_, s8 _ _ e7, by rw [List.length_map]; omega, tt ++ [D4], by rw [List.map_append]; exact upd_same, fun b o e => by rw [upd_ne (ne_of_none e hD3)]; exact s8 _ _ (s7 _ _ e), ?_, by rw [List.length_append, z7] <;> rfl, out⟩
              rw [w7]
              exact ((f7.keep s8).snoc (.inl e8)).put out
            rcases id sq7 with e0 | e0
            · refine .inl ⟨_, rfl, q, rfl, ⟨_, SqL.of e0⟩, fun D4 n4 => ?_⟩
              refine lc_list (K := K) (a := q) (xs := lot.map V.str) (fun j H8 => H8 D4 = some (.lst (((lot.take j).filter fun x => decide (x ≠ p)).map V.str)) ∧ Same H7 H8) ⟨upd_same, same_new n4⟩ (fun j H8 _ c => SqL.of (c.2 _ _ e0)) ?_ ?_
              · rintro j z H8 hz ⟨e8, s8⟩
                rw [List.getElem?_map] at hz
                obtain ⟨y, hy, rfl⟩ := Option.map_eq_some_iff.mp hz
                refine ⟨rfl, _, rfl, _, rfl, by trivial, _, rfl, ?_⟩
                rcases turn n4 hy e8 s8 with ⟨c, a⟩ | ⟨c, a⟩
                · rw [c]
                  exact iteT ⟨_, rfl, a⟩
                · rw [c]
                  exact iteF a
              · rintro H8 ⟨e8, s8⟩
                rw [List.length_map, List.take_length] at e8
                exact fin n4 e8 s8
            · refine .inr ⟨_, rfl, q, rfl, ⟨_, SqT.of e0⟩, fun D4 n4 => ?_⟩
              refine lc_tup (K := K) (a := q) (xs := lot.map V.str) (fun j H8 => H8 D4 = some (.lst (((lot.take j).filter fun x => decide (x ≠ p)).map V.str)) ∧ Same H7 H8) ⟨upd_same, same_new n4⟩ (fun j H8 _ c => SqT.of (c.2 _ _ e0)) ?_ ?_
              · rintro j z H8 hz ⟨e8, s8⟩
                rw [List.getElem?_map] at hz
                obtain ⟨y, hy, rfl⟩ := Option.map_eq_some_iff.mp hz
                refine ⟨rfl, _, rfl, _, rfl, by trivial, _, rfl, ?_⟩
                rcases turn n4 hy e8 s8 with ⟨c, a⟩ | ⟨c, a⟩
                · rw [c]
                  exact iteT ⟨_, rfl, a⟩
                · rw [c]
                  exact iteF a
              · rintro H8 ⟨e8, s8⟩
                rw [List.length_map, List.take_length] at e8
                exact fin n4 e8 s8
          · rintro H7 ⟨tt, e7, s7, f7, z7, _⟩
            rw [List.length_map, len, List.take_length] at f7
            refine ⟨L', D3, r, tt, cut p lots, rfl, SqL.of (s7 _ _ eL6), nmr, e7, f7, by rw [show (cut p lots).length = lots.length from List.length_map _]; exact l6, fun lot hl => ?_, wi2, by omega, by omega, fun q2 H8 s8 isd2 => ?_⟩
            · obtain ⟨old, ho, rfl⟩ := List.mem_map.mp hl
              exact Nat.le_trans (List.length_filter_le _ _) (al6 old ho)
            have isd1' := isd1.same mo ((s6.trans s7).trans s8)
            have dp1 := fam_deep r (without p lots)
            have dp2 := fam_deep r (cut p lots)
            have sall : Same H H8 := (((s2.trans s25).trans s6).trans s7).trans s8
            refine ⟨_, rfl, _, rfl, q1, q2, _, _, rfl, rfl, isd1', isd2, by omega, by omega, fun H9 s9 => ⟨_, rfl, ?_⟩⟩
            by_cases c : fam r (without p lots) = fam r (cut p lots)
            · rw [decide_eq_true c]
              refine iteT ⟨_, rfl, go q2 H9 (sall.trans s9) ?_⟩
              rw [fam_cons p r h1 h2, if_pos c]
              exact isd2.same mo s9
            · rw [decide_eq_false c]
              refine iteF ⟨_, rfl, _, rfl, _, rfl, p, q1, q2, _, _, rfl, nm p (List.mem_cons_self ..), isd1'.same mo s9, isd2.same mo s9, by omega, by omega, fun q3 H10 s10 isd3 => go q3 H10 ((sall.trans s9).trans s10) ?_⟩
              rw [fam_cons p r h1 h2, if_neg c]
              exact isd3
end
end K42

set_option Elab.async false
set_option linter.all false
set_option maxRecDepth 100000
set_option maxHeartbeats 4000000
set_option exponentiation.threshold 3000
/-! The law over draws for families: the giver of a fair turn looked at. -/
namespace K42
open PySem PySem.Spec PyProof.Rows L2 Vx Vr
theorem call_isiKx {X : Cx} (K : PySem.W.Frag) (hK : X.K = K) : CallR X (.builtin "isinstance") (rIsi K) := by
  subst hK
  exact call_isi
theorem ix_tupK {X : Cx} (K : PySem.W.Frag) (hK : X.K = K) : IxR X (rIxT K) := by
  subst hK
  exact ix_tup
def spGivers (K : PySem.W.Frag) (C : Addr) : Sp := fun vs H Q _ => ∃ (a g sh r1 r2 : Addr) (p : Str), vs = [.ref a] ∧ H a = some (.lst [.ref g]) ∧ H g = some (.tup [.str p, .ref sh, .int 0]) ∧ H sh = some (.lst [.ref r1, .ref r2]) ∧ Rt C H r1 1 2 ∧ Rt C H r2 1 2 ∧ Nm p ∧
  ∀ t t1 t2 H', Same H H' → SqT K H' t [.ref t1] → SqT K H' t1 [.str p, .ref t2, .int 0] → SqT K H' t2 [.ref r1, .ref r2] → Q (.ref t) H'
section
variable {P : Program} {w : World} {K : PySem.W.Frag} {mg : Str → Option Value} {base : Heap} {C : Addr}
abbrev NGi : List Str := ["givers", "checked", "person", "shares", "stand_in", "giver"]
theorem scGi : FnScope NGi ["givers"] (defScope (top 34)) := ⟨rfl, rfl, rfl, by decide +kernel, rfl, by decide +kernel, by decide +kernel⟩
theorem ok_givers {f : Addr} {fd : FuncData} (F : L2.Fun K "_checked_givers" "_checked_givers" (top 34) f fd) (T : Bt mg) (U : Bu mg) (IL : Cal P w K mg base "is_list" 1 ["value"] (spIsL K)) (NA : Cal P w K mg base "is_name" 1 ["value"] spName) (SH : Cal P w K mg base "_are_shares" 6 ["value"] (spShares C))
    (WH : Cal P w K mg base "is_whole" 1 ["value"] (spWhole K)) : FnOk P w K mg base CX0 7 f fd ["givers"] (spGivers K C) := by
  refine F.ok scGi (fun vs H Q E h => ?_) (fun cdv A outer s H vs Q E hr h => ?_)
  · obtain ⟨a, g, sh, r1, r2, p, rfl, _⟩ := h
    rfl
  · obtain ⟨a, g, sh, r1, r2, p, rfl, ha, hg, hsh, q1, q2, np, go⟩ := h
    have h1 := hr.mono (show 1 ≤ 6 by decide)
    have h6 := hr.mono (show 6 ≤ 6 by decide)
    have big : (1000 : Nat) ≤ sizeLine := by decide
    refine ⟨_, pss_cons (ps_if (PW.pt (pw_or (pt_not (pt_val (pe_cal IL h1 (pa_cons (pv 0) pa_nil)))) (pw_or1 (pt_not (pt_chain op_le op_le pe_int (pe_callB call_len_seq (by rfl) T.len PySem.boot_len (pa_cons (pv 0) pa_nil)) pe_int))))) (pss_one ps_never) pss_nil)
      (pss_cons (ps_if (pt_not (pt_val (pe_callB (cr_all rfl) (by rfl) U.all (by decide +kernel) (pa_cons (pe_lc (own := [("giver", 5)]) (g := gName 5) (tt := tYes) rfl scGi.nd (pi_list (pv 0)) (blkOk_by (N := NGi) (sc := defScope (top 34)) (by decide +kernel)) (fun _ _ _ _ _ => pg_name (i := 5) scGi.nd rfl (Or.inl rfl)) (fun _ _ _ _ _ => pts_nil)
          (fun _ _ _ _ _ => pe_and (pe_callB (call_isiKx K rfl) (by rfl) T.isi (by decide +kernel) (pa_cons (pv 5) (pa_cons (pe_bltn (v := .ty "tuple") (by rfl) U.tuple (by decide +kernel) rfl) pa_nil))) (pe_one (pe_cmpR op_eq (pe_callB (call_lenK K rfl) (by rfl) T.len PySem.boot_len (pa_cons (pv 5) pa_nil)) pe_int (nomark _))))) pa_nil)))) (pss_one ps_never) pss_nil)
      (pss_cons (ps_set (i := 1) scGi.nd rfl (.inl rfl) (pe_lst pa_nil))
      (pss_cons (ps_for PassesOwn.never rfl (pi_list (pv 0)) (pg_tup (by rfl) (pgs_cons (pg_name (i := 2) scGi.nd rfl (.inl rfl)) (pgs_cons (pg_name (i := 3) scGi.nd rfl (.inl rfl)) (pgs_cons (pg_name (i := 4) scGi.nd rfl (.inl rfl)) pgs_nil))))
        (pss_cons (ps_if (pt_not (pt_val (pe_cal NA h1 (pa_cons (pv 2) pa_nil)))) (pss_one ps_never) pss_nil)
        (pss_cons (ps_if (pt_cmpR op_in_seq (pv 2) (pe_lc (own := [("giver", 5)]) (g := gName 5) (tt := tYes) rfl scGi.nd (pi_list (pv 1)) (blkOk_by (N := NGi) (sc := defScope (top 34)) (by decide +kernel)) (fun _ _ _ _ _ => pg_name (i := 5) scGi.nd rfl (Or.inl rfl)) (fun _ _ _ _ _ => pts_nil) (fun _ _ _ _ _ => pe_ix (ix_tupK K rfl) (pv 5) pe_int (fun _ _ => rfl))) (by rfl)) (pss_one ps_never) pss_nil)
        (pss_cons (ps_if (pt_not (pt_val (pe_cal SH h6 (pa_cons (pv 3) pa_nil)))) (pss_one ps_never) pss_nil)
        (pss_cons (ps_if (PW.pt (pw_or (pt_not (pt_val (pe_cal WH h1 (pa_cons (pv 4) pa_nil)))) (pw_or1 (pt_not (pt_chain op_le op_lt pe_int (pv 4) (pe_callB call_len_seq (by rfl) T.len PySem.boot_len (pa_cons (pv 3) pa_nil))))))) (pss_one ps_never) pss_nil)
        (pss_one (ps_expr (pe_bm PySem.F.plainAttrs_list PySem.F.slot_list_append PySem.F.type_list_append mt_append (pv 1) (pa_cons (pe_tup (pa_cons (pv 2) (pa_cons (pe_callTy call_tuple_of (by rfl) U.tuple (by decide +kernel) (pa_cons (pv 3) pa_nil)) (pa_cons (pv 4) pa_nil)))) pa_nil)))))))))
      (pss_one (ps_ret (pe_callTy call_tuple_of (by rfl) U.tuple (by decide +kernel) (pa_cons (pv 1) pa_nil))))))), ?_⟩
    refine ⟨_, rfl, .ref a, "list", rfl, .lst ha, fun H1 s1 => ⟨_, rfl, iteF ?_⟩⟩
    refine ⟨_, rfl, a, _, rfl, .inl (SqL.of (s1 _ _ ha)), _, _, rfl, rfl, _, rfl, ?_⟩
    rw [if_pos (decide_eq_true (by show (1 : Int) ≤ 1; decide : (1 : Int) ≤ (([V.ref g].length : Nat) : Int)))]
    refine ⟨_, _, rfl, rfl, _, rfl, ?_⟩
    rw [decide_eq_true (by show (1 : Int) ≤ 4; decide : (([V.ref g].length : Nat) : Int) ≤ 4)]
    refine iteF ⟨_, rfl, a, rfl, ⟨_, SqL.of (s1 _ _ ha)⟩, fun D hD => ?_⟩
    refine lc_list (K := K) (a := a) (xs := [.ref g]) (fun i H2 => H2 D = some (.lst ((List.replicate i true).map V.bl)) ∧ Same H1 H2) ⟨upd_same, same_new hD⟩ (fun i H2 _ q => SqL.of (q.2 _ _ (s1 _ _ ha))) ?_ ?_
    · rintro i z H2 hz ⟨e2, s2⟩
      have hi : i < 1 := (List.getElem?_eq_some_iff.mp hz).1
      obtain rfl : i = 0 := by omega
      obtain rfl : z = .ref g := by simpa using hz.symm
      have hg2 := s2 _ _ (s1 _ _ hg)
      refine ⟨rfl, iteT (B := True) ⟨_, rfl, .ref g, .ty "tuple", .type "tuple", _, true, rfl, .ty "tuple", ty_oth (.tup hg2), kit_ty (by decide +kernel), _, rfl, iteT ?_⟩⟩
      refine ⟨_, rfl, g, _, rfl, .inr (SqT.of hg2), by trivial, ?_⟩
      exact ⟨_, e2, by show 0 < sizeLine; omega, upd_same, fun b o e => by rw [upd_ne (ne_of_none e hD)]; exact s2 _ _ e⟩
    · rintro H2 ⟨e2, s2⟩
      refine ⟨D, [true], rfl, SqL.of e2, _, rfl, iteF ?_⟩
      have s12 := s1.trans s2
      refine ⟨by show 0 ≤ sizeLine; omega, fun L nL => ?_⟩
      have s3 : Same H2 (upd H2 L (.lst [])) := same_new nL
      have eL : (upd H2 L (.lst [])) L = some (.lst []) := upd_same
      show tSeq _ _ _ _ (upd H2 L (.lst []))
      generalize upd H2 L (.lst []) = H3 at s3 eL ⊢
      have s13 := s12.trans s3
      have nLH : H L = none := by
        cases e : H L with
        | none => rfl
        | some o => rw [s12 _ _ e] at nL; cases nL
      refine ⟨_, rfl, a, rfl, ⟨_, SqL.of (s13 _ _ ha)⟩, for_list (K := K) (a := a) (xs := [.ref g]) (fun i σ H4 => (i = 0 ∧ H4 = H3 ∧ ∃ v2 v3 v4 v5, σ = [some (.ref a), some (.ref L), v2, v3, v4, v5]) ∨
          (i = 1 ∧ ∃ t1 t2 v2 v3 v4 v5, σ = [some (.ref a), some (.ref L), v2, v3, v4, v5] ∧ Same H H4 ∧ H4 L = some (.lst [.ref t1]) ∧ SqT K H4 t1 [.str p, .ref t2, .int 0] ∧ SqT K H4 t2 [.ref r1, .ref r2]))
        (.inl ⟨rfl, rfl, _, _, _, _, rfl⟩) (fun i σ H4 _ h => ?_) ?_ ?_⟩
      · rcases h with ⟨_, rfl, _⟩ | ⟨_, t1, t2, v2, v3, v4, v5, _, s4, _⟩
        · exact SqL.of (s13 _ _ ha)
        · exact SqL.of (s4 _ _ ha)
      · rintro i z σ H4 hz h
        have hi : i < 1 := (List.getElem?_eq_some_iff.mp hz).1
        obtain rfl : i = 0 := by omega
        obtain rfl : z = .ref g := by simpa using hz.symm
        rcases h with ⟨_, rfl, v2, v3, v4, v5, rfl⟩ | ⟨z, _⟩
        case inr => cases z
        have hg3 := s13 _ _ hg
        refine ⟨g, _, rfl, SqT.of hg3, rfl, _, _, rfl, _, _, rfl, _, _, rfl, rfl, ?_⟩
        refine ⟨_, rfl, p, rfl, np, fun H5 s5 => ⟨_, rfl, iteF ?_⟩⟩
        have eL5 := s5 _ _ eL
        refine ⟨_, rfl, _, rfl, L, rfl, ⟨_, SqL.of eL5⟩, fun D2 hD2 => ?_⟩
        refine lc_list (K := K) (a := L) (xs := []) (fun i H6 => H6 D2 = some (.lst []) ∧ Same H5 H6) ⟨upd_same, same_new hD2⟩ (fun i H6 _ q => SqL.of (q.2 _ _ eL5)) (fun i z H6 hz _ => by simp at hz) ?_
        rintro H6 ⟨e6, s6⟩
        refine ⟨D2, _, rfl, .inl (SqL.of e6), rfl, rfl, _, rfl, iteF ?_⟩
        have s16 := (s13.trans s5).trans s6
        refine ⟨_, rfl, sh, r1, r2, rfl, s16 _ _ hsh, q1.same s16, q2.same s16, fun H7 s7 => ⟨_, rfl, iteF ?_⟩⟩
        have s17 := s16.trans s7
        refine ⟨_, rfl, .int 0, "int", rfl, .int 0, _, rfl, iteF ?_⟩
        refine ⟨_, rfl, _, _, rfl, rfl, _, rfl, ?_⟩
        rw [if_pos (decide_eq_true (by decide : (0 : Int) ≤ 0))]
        refine ⟨_, rfl, sh, _, rfl, .inl (SqL.of (s17 _ _ hsh)), _, _, rfl, rfl, _, rfl, ?_⟩
        rw [decide_eq_true (by show (0 : Int) < 2; decide : (0 : Int) < (([V.ref r1, V.ref r2].length : Nat) : Int))]
        refine iteF ?_
        have eL7 := s7 _ _ (s6 _ _ eL5)
        refine ⟨_, rfl, .inl ⟨rfl, _, SqL.of eL7⟩, _, rfl, _, rfl, sh, _, rfl, .inl ⟨SqL.of (s17 _ _ hsh), fun t2 nt2 => ?_⟩⟩
        have s8 : Same H7 (upd H7 t2 (.tup [.ref r1, .ref r2])) := same_new nt2
        have e8 : (upd H7 t2 (.tup [.ref r1, .ref r2])) t2 = some (.tup [.ref r1, .ref r2]) := upd_same
        generalize upd H7 t2 (.tup [.ref r1, .ref r2]) = H8 at s8 e8 ⊢
        refine ⟨_, rfl, by show 3 ≤ sizeLine; omega, fun t1 nt1 => ?_⟩
        have s9 : Same H8 (upd H8 t1 (.tup [.str p, .ref t2, .int 0])) := same_new nt1
        have e9 : (upd H8 t1 (.tup [.str p, .ref t2, .int 0])) t1 = some (.tup [.str p, .ref t2, .int 0]) := upd_same
        generalize upd H8 t1 (.tup [.str p, .ref t2, .int 0]) = H9 at s9 e9 ⊢
        have eL9 := s9 _ _ (s8 _ _ eL7)
        have s19 := (s17.trans s8).trans s9
        refine ⟨L, [], .ref t1, rfl, rfl, eL9, by show 0 < sizeLine; omega, .inr ⟨rfl, t1, t2, _, _, _, _, rfl, fun b o e => by rw [upd_ne (ne_of_none e nLH)]; exact s19 _ _ e, upd_same, SqT.of ?_, SqT.of ?_⟩⟩
        · rw [upd_ne fun z => by rw [z, eL9] at e9; cases e9]
          exact e9
        · have f9 := s9 _ _ e8
          rw [upd_ne fun z => by rw [z, eL9] at f9; cases f9]
          exact f9
      · rintro σ H4 h
        rcases h with ⟨z, _⟩ | ⟨_, t1, t2, v2, v3, v4, v5, rfl, s4, e4, q4, q5⟩
        · cases z
        refine ⟨_, rfl, L, _, rfl, .inl ⟨SqL.of e4, fun t nt => ?_⟩⟩
        exact go t t1 t2 _ (s4.trans (same_new nt)) (SqT.of upd_same) (SqT.ext q4 (same_new nt)) (SqT.ext q5 (same_new nt))
end
end K42

set_option Elab.async false
set_option linter.all false
set_option maxRecDepth 100000
set_option maxHeartbeats 4000000
/-! Own layer, part S5: sorted(a tuple of texts). -/
namespace Sx
open PySem PySem.Spec PyProof.Rows L2
theorem sorted_tup {P : Program} {w : World} {A : Around} {E : Value → Shared → Prop} {s : Shared} {a : Addr} {vs : List Value} {ss : List Str} {Q : Value → Shared → Prop} (at_ : s.heap.IsTuple a vs.toArray) (texts : StrsAre vs ss) (few : vs.length < 64)
    (fin : ∀ (h1 h2 : Heap) (p : Addr) (out : Array Value) (c : Nat) (ys : List Str), (∀ b o, s.heap.get? b = some o → h1.get? b = some o) → (∀ b o, h1.get? b = some o → h2.get? b = some o) → h1.objs.size ≤ p → h2.get? p = some (seqObj "list" out c) →
      StrsAre out.toList ys → sortedS ys = true → ys.Perm ss → Q (.ref p) { s with heap := h2 }) : wpAny (model P w) A (call (.builtin "sorted") [.ref a]) Q E s := by
  obtain ⟨o, i1, i2, n, i3⟩ := at_
  have room : vs.length ≤ sizeLine := by rw [sizeLine_eq]; omega
  refine Calls.call_function_entry kind_sorted plain_sorted entry_sorted (args_sorted1 (.ref a)) ?_; unfold Builtin.«sorted»
  refine wpAny_bind (m := checkCount "sorted" 1 1 _) (wpAny_pure ?_); refine wpAny_bind (wpAny_collect_seq a (.inr rfl) i1 i2 i3 (fun h1 keep => ?_) (by rw [List.size_toArray]; exact room))
  rw [List.toList_toArray]
  have atL : (h1.push (seqObj "list" vs.toArray 0)).get? h1.objs.size = some (seqObj "list" vs.toArray 0) := Heap.get?_push_size _ rfl
  refine wpAny_bind (wpAny_newList ?_ room); refine wpAny_bind (wpAny_holding (wpAny_call_entry slot_list_sort ⟨_, atL, rfl⟩ entry_list_sort ?_ (args_list_sort _)))
  refine list_sort_treeK strKind_oneLt atL texts.keysOf (fun v1 v2 rest e => keyKind_strs (by rw [← e]; exact texts)) few fun st p1 p2 => ⟨_, rfl, ?_⟩
  obtain ⟨ys, y1, y2, y3⟩ := sorted_out_str texts p1 p2
  obtain ⟨c, hc⟩ := sortedHeap_at (vs := vs) (out := (arrOf st).map (·.2)) atL
  refine wpAny_pure ⟨_, rfl, fin h1 _ h1.objs.size _ c ys keep (fun b u e => ?_) (Nat.le_refl _) hc y1 y3 y2⟩
  have lt := Heap.lt_size e
  refine (show (sortedHeap (h1.push (seqObj "list" vs.toArray 0)) h1.objs.size vs ((arrOf st).map (·.2))).get? b = some u from ?_)
  rw [sortedHeap_old (Nat.ne_of_lt lt) (by rw [size_push']; exact Nat.lt_succ_of_lt lt)]
  exact Heap.get?_push_of_some _ e
section
variable {X : Cx}
def rSortedTS (K : PySem.W.Frag) : List V → Hp → VK → Prop := fun vs H Q => ∃ (a : Addr) (xs : List Str), vs = [V.ref a] ∧ SqT K H a (xs.map V.str) ∧ xs.length < 64 ∧
  ∀ (ys : List Str) (p : Addr), ys.Perm xs → sortedS ys = true → H p = none → Q (.ref p) (upd H p (.lst (ys.map V.str)))
theorem cr_sortedTS : CallR X (.builtin "sorted") (rSortedTS X.K) := by
  intro pins s σ H vs us Q I r h
  obtain ⟨a, xs, rfl, hs, few, go⟩ := h
  rw [Vals.ref1 r]
  obtain ⟨its, rv, pl, _⟩ := I.tuple hs
  have len0 := rv.length
  rw [List.length_map] at len0
  refine sorted_tup pl (L2.strsAre_of rv) (by omega) fun h1 h2 p out c ys k1 k2 lp hp y1 y2 y3 => ?_
  have I1 : Inv X pins σ H { s with heap := h1 } := I.kept (t' := s.toks) k1
  have len : (ys.map V.str).length ≤ sizeLine := by rw [List.length_map, y3.length_eq, sizeLine_eq]; omega
  exact ⟨.ref p, upd H p (.lst (ys.map V.str)), I1.laid (t' := s.toks) (fun b o e => k2 b o e) lp ⟨len, out.toList, c, L2.vals_of_strs y1, hp⟩, rfl, go ys p y3 y2 (I1.hok.fresh lp)⟩
end
end Sx

set_option Elab.async false
set_option linter.all false
set_option maxRecDepth 100000
set_option maxHeartbeats 4000000
set_option exponentiation.threshold 3000
/-! The law over draws for families: family_draw (made by gen_k42q.py). -/
namespace K42
open PySem PySem.Spec PyProof.Rows L2 Vx Vr
def spFamily (K : PySem.W.Frag) (CE CR C : Addr) (M : Rest) : Sp := fun vs H Q _ => ∃ (pl sl : Addr) (ps : List Str) (rs : List Addr) (lots : List (List Str)), vs = [.ref pl, .ref sl] ∧ Seq H pl (ps.map V.str) ∧ 1 ≤ ps.length ∧ ps.length ≤ 6 ∧ ps.Nodup ∧ (∀ x ∈ ps, Nm x) ∧
  H sl = some (.lst (rs.map V.ref)) ∧ Fm H rs lots ∧ lots.length ≤ 6 ∧ (∀ lot ∈ lots, lot.length ≤ 6 ∧ lot.Nodup) ∧ Within ps lots ∧ ∀ q qs H', Same H H' → qs.Perm ps → IsD K CE CR C M H' q (fam qs lots) → Q (.ref q) H'
section
variable {P : Program} {w : World} {K : PySem.W.Frag} {mg : Str → Option Value} {base : Heap} {CE CR C : Addr} {M : Rest}
theorem scFd : FnScope ["people", "sets", "chosen"] ["people", "sets"] (defScope (top 46)) := ⟨rfl, rfl, rfl, by decide +kernel, rfl, by decide +kernel, by decide +kernel⟩
theorem ok_family {f : Addr} {fd : FuncData} (F : L2.Fun K "family_draw" "family_draw" (top 46) f fd) (T : Bt mg) (U : Bu mg) (tk : Tok) (MP : mg "MOST_PEOPLE" = some (.int 6 tk)) (NS : Cal P w K mg base "are_names" 2 ["value", "most"] spNames) (IL : Cal P w K mg base "is_list" 1 ["value"] (spIsL K))
    (SO : Cal P w K mg base "are_some_of" 2 ["value", "allowed"] (spSome K)) (FD : Cal P w K mg base "_family_draw" 20 ["people", "sets"] (spFam K CE CR C M 7)) : FnOk P w K mg base CX0 21 f fd ["people", "sets"] (spFamily K CE CR C M) := by
  refine F.ok scFd (fun vs H Q E h => ?_) (fun cdv A outer s H vs Q E hr h => ?_)
  · obtain ⟨pl, sl, ps, rs, lots, rfl, _⟩ := h
    rfl
  · obtain ⟨pl, sl, ps, rs, lots, rfl, hp, l1, l6, nd, nm, hs, fm, k6, al, wi, go⟩ := h
    have h1 := hr.mono (show 1 ≤ 20 by decide)
    have h2 := hr.mono (show 2 ≤ 20 by decide)
    have h20 := hr.mono (show 20 ≤ 20 by decide)
    have big : (1000 : Nat) ≤ sizeLine := by decide
    have len := fm.len
    rcases id hp with hp' | hp'
    · refine ⟨_, pss_cons (ps_if (pt_not (pt_val (pe_cal NS h2 (pa_cons (pv 0) (pa_cons (pe_glob (v := .int 6) rfl MP ⟨_, rfl⟩) pa_nil))))) (pss_one ps_never) pss_nil)
        (pss_cons (ps_if (PW.pt (pw_or (pt_not (pt_val (pe_cal IL h1 (pa_cons (pv 1) pa_nil)))) (pw_or1 (pt_not (pt_val (pe_callB (cr_all rfl) (by rfl) U.all (by decide +kernel) (pa_cons (pe_lc (own := [("chosen", 2)]) (g := gName 2) (tt := tYes) rfl scFd.nd (pi_list (pv 1)) (blkOk_by (N := ["people", "sets", "chosen"]) (sc := defScope (top 46)) (by decide +kernel))
            (fun _ _ _ _ _ => pg_name (i := 2) scFd.nd rfl (Or.inl rfl)) (fun _ _ _ _ _ => pts_nil) (fun _ _ _ _ _ => pe_cal SO h2 (pa_cons (pv 2) (pa_cons (pv 0) pa_nil)))) pa_nil))))))) (pss_one ps_never) pss_nil)
        (pss_one (ps_ret (pe_cal FD h20 (pa_cons (pe_callB cr_sortedS (by rfl) U.sorted (by decide +kernel) (pa_cons (pv 0) pa_nil)) (pa_cons (pv 1) pa_nil)))))), ?_⟩
      refine ⟨_, rfl, pl, ps, rfl, hp, l1, l6, nd, nm, fun H1 s1 => ⟨_, rfl, iteF ?_⟩⟩
      refine ⟨_, rfl, .ref sl, "list", rfl, .lst (s1 _ _ hs), fun H2 s2 => ⟨_, rfl, iteF ?_⟩⟩
      have s12 := s1.trans s2
      refine ⟨_, rfl, sl, rfl, ⟨_, SqL.of (s12 _ _ hs)⟩, fun D hD => ?_⟩
      refine lc_list (K := K) (a := sl) (xs := rs.map V.ref) (fun i H3 => H3 D = some (.lst ((List.replicate i true).map V.bl)) ∧ Same H2 H3) ⟨upd_same, same_new hD⟩ (fun i H3 _ q => SqL.of (q.2 _ _ (s12 _ _ hs))) ?_ ?_
      · rintro i z H3 hz ⟨e3, s3⟩
        rw [List.getElem?_map] at hz
        obtain ⟨r, hr2, rfl⟩ := Option.map_eq_some_iff.mp hz
        obtain ⟨lot, hlot, sq⟩ := fm.get hr2
        have il : i < lots.length := (List.getElem?_eq_some_iff.mp hlot).1
        have ml := List.mem_of_getElem? hlot
        have s13 := s12.trans s3
        refine ⟨rfl, iteT (B := True) ⟨_, rfl, _, rfl, r, pl, lot, ps, rfl, sq.keep s13, (hp.keep s13).sq, (al lot ml).1, (al lot ml).2, wi lot ml, fun H4 s4 => ?_⟩⟩
        refine ⟨_, s4 _ _ e3, by rw [List.length_map, List.length_replicate]; omega, ?_, fun b o e => by rw [upd_ne (ne_of_none e hD)]; exact s4 _ _ (s3 _ _ e)⟩
        rw [List.replicate_succ', List.map_append]
        exact upd_same
      · rintro H3 ⟨e3, s3⟩
        rw [List.length_map] at e3
        refine ⟨D, List.replicate rs.length true, rfl, SqL.of e3, _, rfl, ?_⟩
        rw [show (List.replicate rs.length true).all id = true from by simp]
        have s13 := s12.trans s3
        refine iteF ⟨_, rfl, pl, ps, rfl, SqL.of (s13 _ _ hp'), by omega, fun ys L py _ nL => ⟨_, rfl, ?_⟩⟩
        have s4 : Same H3 (upd H3 L (.lst (ys.map V.str))) := same_new nL
        have s14 := s13.trans s4
        have ly := py.length_eq
        exact ⟨L, sl, ys, rs, lots, rfl, SqL.of upd_same, fun x hx => nm x (py.mem_iff.mp hx), s14 _ _ hs, fm.keep s14, k6, fun lot hl => (al lot hl).1, fun lot hl x hx => py.mem_iff.mpr (wi lot hl x hx), by omega, by omega, fun q H5 s5 isd => go q ys H5 (s14.trans s5) py isd⟩
    · refine ⟨_, pss_cons (ps_if (pt_not (pt_val (pe_cal NS h2 (pa_cons (pv 0) (pa_cons (pe_glob (v := .int 6) rfl MP ⟨_, rfl⟩) pa_nil))))) (pss_one ps_never) pss_nil)
        (pss_cons (ps_if (PW.pt (pw_or (pt_not (pt_val (pe_cal IL h1 (pa_cons (pv 1) pa_nil)))) (pw_or1 (pt_not (pt_val (pe_callB (cr_all rfl) (by rfl) U.all (by decide +kernel) (pa_cons (pe_lc (own := [("chosen", 2)]) (g := gName 2) (tt := tYes) rfl scFd.nd (pi_list (pv 1)) (blkOk_by (N := ["people", "sets", "chosen"]) (sc := defScope (top 46)) (by decide +kernel))
            (fun _ _ _ _ _ => pg_name (i := 2) scFd.nd rfl (Or.inl rfl)) (fun _ _ _ _ _ => pts_nil) (fun _ _ _ _ _ => pe_cal SO h2 (pa_cons (pv 2) (pa_cons (pv 0) pa_nil)))) pa_nil))))))) (pss_one ps_never) pss_nil)
        (pss_one (ps_ret (pe_cal FD h20 (pa_cons (pe_callB Sx.cr_sortedTS (by rfl) U.sorted (by decide +kernel) (pa_cons (pv 0) pa_nil)) (pa_cons (pv 1) pa_nil)))))), ?_⟩
      refine ⟨_, rfl, pl, ps, rfl, hp, l1, l6, nd, nm, fun H1 s1 => ⟨_, rfl, iteF ?_⟩⟩
      refine ⟨_, rfl, .ref sl, "list", rfl, .lst (s1 _ _ hs), fun H2 s2 => ⟨_, rfl, iteF ?_⟩⟩
      have s12 := s1.trans s2
      refine ⟨_, rfl, sl, rfl, ⟨_, SqL.of (s12 _ _ hs)⟩, fun D hD => ?_⟩
      refine lc_list (K := K) (a := sl) (xs := rs.map V.ref) (fun i H3 => H3 D = some (.lst ((List.replicate i true).map V.bl)) ∧ Same H2 H3) ⟨upd_same, same_new hD⟩ (fun i H3 _ q => SqL.of (q.2 _ _ (s12 _ _ hs))) ?_ ?_
      · rintro i z H3 hz ⟨e3, s3⟩
        rw [List.getElem?_map] at hz
        obtain ⟨r, hr2, rfl⟩ := Option.map_eq_some_iff.mp hz
        obtain ⟨lot, hlot, sq⟩ := fm.get hr2
        have il : i < lots.length := (List.getElem?_eq_some_iff.mp hlot).1
        have ml := List.mem_of_getElem? hlot
        have s13 := s12.trans s3
        refine ⟨rfl, iteT (B := True) ⟨_, rfl, _, rfl, r, pl, lot, ps, rfl, sq.keep s13, (hp.keep s13).sq, (al lot ml).1, (al lot ml).2, wi lot ml, fun H4 s4 => ?_⟩⟩
        refine ⟨_, s4 _ _ e3, by rw [List.length_map, List.length_replicate]; omega, ?_, fun b o e => by rw [upd_ne (ne_of_none e hD)]; exact s4 _ _ (s3 _ _ e)⟩
        rw [List.replicate_succ', List.map_append]
        exact upd_same
      · rintro H3 ⟨e3, s3⟩
        rw [List.length_map] at e3
        refine ⟨D, List.replicate rs.length true, rfl, SqL.of e3, _, rfl, ?_⟩
        rw [show (List.replicate rs.length true).all id = true from by simp]
        have s13 := s12.trans s3
        refine iteF ⟨_, rfl, pl, ps, rfl, SqT.of (s13 _ _ hp'), by omega, fun ys L py _ nL => ⟨_, rfl, ?_⟩⟩
        have s4 : Same H3 (upd H3 L (.lst (ys.map V.str))) := same_new nL
        have s14 := s13.trans s4
        have ly := py.length_eq
        exact ⟨L, sl, ys, rs, lots, rfl, SqL.of upd_same, fun x hx => nm x (py.mem_iff.mp hx), s14 _ _ hs, fm.keep s14, k6, fun lot hl => (al lot hl).1, fun lot hl x hx => py.mem_iff.mpr (wi lot hl x hx), by omega, by omega, fun q H5 s5 isd => go q ys H5 (s14.trans s5) py isd⟩
end
end K42

set_option Elab.async false
set_option linter.all false
set_option maxRecDepth 100000
set_option maxHeartbeats 4000000
set_option exponentiation.threshold 3000
/-! The law over draws for families: fair_turn, by what Round(..) makes. -/
namespace K42
open PySem PySem.Spec PyProof.Rows L2 Vx Vr
/-- Round("open", [(p, [1/2, 1/2], 0)], [a, b]) -/
def spRound (K : PySem.W.Frag) (CE CR C : Addr) (M : Rest) : Sp := fun vs H Q _ => ∃ (z dz gl g sh r1 r2 dl a b : Addr) (p : Str) (x y : Dr), vs = [.ref z, .str "open", .ref gl, .ref dl] ∧ H z = some (.ins CR dz []) ∧ H gl = some (.lst [.ref g]) ∧ H g = some (.tup [.str p, .ref sh, .int 0]) ∧ H sh = some (.lst [.ref r1, .ref r2]) ∧
  Rt C H r1 1 2 ∧ Rt C H r2 1 2 ∧ Nm p ∧ H dl = some (.lst [.ref a, .ref b]) ∧ IsD K CE CR C M H a x ∧ IsD K CE CR C M H b y ∧ x.deep < 6 ∧ y.deep < 6 ∧ ∀ H', Keep z H H' → IsD K CE CR C M H' z (.turn p x y) → Q .non H'
structure MkR (P : Program) (w : World) (K : PySem.W.Frag) (mg : Str → Option Value) (base : Heap) (CE CR C : Addr) (M : Rest) : Prop where
  ex : ∃ f fd, Mk K CR f ∧ FnOk P w K mg base CX0 (10) f fd ["self", "kind", "givers", "draws"] (spRound K CE CR C M) ∧ mg "Round" = some (.ref CR) ∧ Binds K fd ["self", "kind", "givers", "draws"] []
theorem pe_round {X : Cx} {CE CR C : Addr} {M : Rest} {a b c : Expr} {ta tb tc : TE} {p pos : Pos} (E : MkR X.prog X.w X.K X.mg X.base CE CR C M) (hr : Room 11 X.A) (ha : PE X a ta) (hb : PE X b tb) (hc : PE X c tc) (hg : Gl X "Round" := by rfl)
    (na : starEach [a, b, c] X.env = (false, eval a X.env) :: starEach [b, c] X.env := by rfl) (nb : starEach [b, c] X.env = (false, eval b X.env) :: starEach [c] X.env := by rfl) (nc : starEach [c] X.env = (false, eval c X.env) :: starEach [] X.env := by rfl) :
    PE X (.Call (.Name "Round" p) [a, b, c] [] pos) (tMake CR (spRound X.K CE CR C M) [] E0 (tCons ta (tCons tb (tCons tc tNil)))) := by
  obtain ⟨f, fd, mk, F, g, bs⟩ := E.ex
  exact pe_make mk F hr hg g bs .nil pass0 (pa_cons ha (pa_cons hb (pa_cons hc pa_nil nc) nb) na) (by decide) na (by rw [nb, nc]; rfl)
section
variable {P : Program} {w : World} {K : PySem.W.Frag} {mg : Str → Option Value} {base : Heap} {CE CR C : Addr} {M : Rest}
theorem scTu : FnScope ["person", "one", "other"] ["person", "one", "other"] (defScope (top 43)) := ⟨rfl, rfl, rfl, by decide +kernel, rfl, by decide +kernel, by decide +kernel⟩
theorem ok_turn {f : Addr} {fd : FuncData} (F : L2.Fun K "fair_turn" "fair_turn" (top 43) f fd) (MK : Mkr P w K mg base C) (MR : MkR P w K mg base CE CR C M) (mo : MonR M) : FnOk P w K mg base CX0 12 f fd ["person", "one", "other"] (spTurn K CE CR C M) := by
  refine F.ok scTu (fun vs H Q E h => ?_) (fun cdv A outer s H vs Q E hr h => ?_)
  · obtain ⟨p, a, b, x, y, rfl, _⟩ := h
    rfl
  · obtain ⟨p, a, b, x, y, rfl, np, i1, i2, l1, l2, go⟩ := h
    have h2 := hr.mono (show 2 ≤ 11 by decide)
    have h11 := hr.mono (show 11 ≤ 11 by decide)
    have big : (1000 : Nat) ≤ sizeLine := by decide
    have lg2 : Lg 2 := by show (2 : Int).natAbs < 2 ^ 2100; decide
    have one : ∀ {n1 d1 : Int}, Norm 1 2 n1 d1 → n1 = 1 ∧ d1 = 2 := fun {n1 d1} nm => by
      obtain ⟨q1, q2, _, _, q5⟩ := nm
      omega
    refine ⟨_, pss_one (ps_ret (pe_round MR h11 pe_str (pe_lst (pa_cons (pe_tup (pa_cons (pv 0) (pa_cons (pe_lst (pa_cons (pe_rat MK h2 pe_int pe_int) (pa_cons (pe_rat MK h2 pe_int pe_int) pa_nil))) (pa_cons pe_int pa_nil)))) pa_nil)) (pe_lst (pa_cons (pv 1) (pa_cons (pv 2) pa_nil))))), ?_⟩
    refine ⟨_, rfl, ?_⟩
    intro px pd hx hd ne
    refine rd_at hx hd ne (by rfl) (by decide) lg2 fun H2 n1 d1 s2 t1 nm1 => ⟨rfl, ?_⟩
    obtain ⟨rfl, rfl⟩ := one nm1
    intro py pe hy he ne2
    refine rd_at hy he ne2 (by rfl) (by decide) lg2 fun H3 n2 d2 s3 t2 nm2 => ⟨rfl, ?_⟩
    obtain ⟨rfl, rfl⟩ := one nm2
    refine ⟨by show 2 ≤ sizeLine; omega, fun sh nsh => ?_⟩
    have s4 : Same H3 (upd H3 sh (.lst [.ref px, .ref py])) := same_new nsh
    have e4 : (upd H3 sh (.lst [.ref px, .ref py])) sh = some (.lst [.ref px, .ref py]) := upd_same
    generalize upd H3 sh (.lst [.ref px, .ref py]) = H4 at s4 e4 ⊢
    refine ⟨by show 3 ≤ sizeLine; omega, fun g ng => ?_⟩
    have s5 : Same H4 (upd H4 g (.tup [.str p, .ref sh, .int 0])) := same_new ng
    have e5 : (upd H4 g (.tup [.str p, .ref sh, .int 0])) g = some (.tup [.str p, .ref sh, .int 0]) := upd_same
    generalize upd H4 g (.tup [.str p, .ref sh, .int 0]) = H5 at s5 e5 ⊢
    refine ⟨by show 1 ≤ sizeLine; omega, fun gl ngl => ?_⟩
    have s6 : Same H5 (upd H5 gl (.lst [.ref g])) := same_new ngl
    have e6 : (upd H5 gl (.lst [.ref g])) gl = some (.lst [.ref g]) := upd_same
    generalize upd H5 gl (.lst [.ref g]) = H6 at s6 e6 ⊢
    refine ⟨_, rfl, _, rfl, by show 2 ≤ sizeLine; omega, fun dl ndl => ?_⟩
    have s7 : Same H6 (upd H6 dl (.lst [.ref a, .ref b])) := same_new ndl
    have e7 : (upd H6 dl (.lst [.ref a, .ref b])) dl = some (.lst [.ref a, .ref b]) := upd_same
    generalize upd H6 dl (.lst [.ref a, .ref b]) = H7 at s7 e7 ⊢
    intro z dz hz hdz nz
    have s8 : Same H7 (upd (upd H7 dz (.own z)) z (.ins CR dz [])) := fun c o e => by
      rw [upd_ne (ne_of_none e hz), upd_ne (ne_of_none e hdz)]
      exact e
    have sall := (((((s2.trans s3).trans s4).trans s5).trans s6).trans s7).trans s8
    have s38 := ((((s3.trans s4).trans s5).trans s6).trans s7).trans s8
    have s48 := (((s4.trans s5).trans s6).trans s7).trans s8
    refine ⟨z, dz, gl, g, sh, px, py, dl, a, b, p, x, y, rfl, upd_same, s8 _ _ (s7 _ _ e6), s8 _ _ (s7 _ _ (s6 _ _ e5)), s8 _ _ (s7 _ _ (s6 _ _ (s5 _ _ e4))), t1.same s38, t2.same s48, np, s8 _ _ e7, i1.same mo sall, i2.same mo sall, l1, l2, fun H' kp isd => ⟨rfl, ?_⟩⟩
    refine go z H' (fun c o e => ?_) isd
    have q := sall c o e
    refine kp c o (fun w => ?_) q
    have q7 := ((((((s2.trans s3).trans s4).trans s5).trans s6).trans s7)) c o e
    rw [w, hz] at q7
    cases q7
end
end K42

set_option Elab.async false
set_option linter.all false
set_option maxRecDepth 100000
set_option maxHeartbeats 4000000
set_option exponentiation.threshold 3000
/-! The law over draws for families: what the law itself needs: rules that name the written part, the names, drawn sets as lots. -/
namespace K42
open PySem PySem.Spec PyProof.Rows L2 Vx Vr
theorem ix_listK {X : Cx} (K : PySem.W.Frag) (hK : X.K = K) : IxR X (rIxL K) := by
  subst hK
  exact ix_list
theorem call_list_ofK {X : Cx} (K : PySem.W.Frag) (hK : X.K = K) : CallR X (.type "list") (fun xs H Q => ∃ (p : Addr) (ys : List V), xs = [.ref p] ∧ (SqL K H p ys ∨ SqT K H p ys) ∧ ∀ l, H l = none → Q (.ref l) (upd H l (.lst ys))) := by
  subst hK
  exact call_list_of
theorem call_tuple_ofK {X : Cx} (K : PySem.W.Frag) (hK : X.K = K) : CallR X (.type "tuple") (fun xs H Q => ∃ (p : Addr) (ys : List V), xs = [.ref p] ∧ ((SqL K H p ys ∧ ∀ l, H l = none → Q (.ref l) (upd H l (.tup ys))) ∨ (SqT K H p ys ∧ Q (.ref p) H))) := by
  subst hK
  exact call_tuple_of
abbrev folkA : List Str := ["ann", "bob", "cid", "dan", "eve", "fay"]
abbrev folkB : List Str := ["a", "ab", "abc", "b", "no", "yes"]
instance (x : Str) : Decidable (Nm x) := by unfold Nm; infer_instance
theorem nm_A : ∀ x ∈ folkA, Nm x := by decide
theorem nm_B : ∀ x ∈ folkB, Nm x := by decide
theorem nd_A : folkA.Nodup := by decide
theorem nd_B : folkB.Nodup := by decide
/-- the drawn sets, as lots of names -/
theorem sets_fm {H : Hp} {names : List Str} : ∀ {rs : List Addr}, Sets H names rs → ∃ lots, Fm H rs lots ∧ Within names lots ∧ ∀ lot ∈ lots, lot.Nodup
  | [], _ => ⟨[], trivial, fun lot hl => (nomatch hl), fun lot hl => nomatch hl⟩
  | r :: rs, h => by
    obtain ⟨lots, f, w, n⟩ := sets_fm (rs := rs) fun q hq => h q (List.mem_cons_of_mem _ hq)
    obtain ⟨lot, e, nd, li⟩ := h r (List.mem_cons_self ..)
    refine ⟨lot :: lots, ⟨.inl e, f⟩, fun l hl => ?_, fun l hl => ?_⟩
    · rcases List.mem_cons.mp hl with z | z
      · rw [z]
        exact li
      · exact w l z
    · rcases List.mem_cons.mp hl with z | z
      · rw [z]
        exact nd
      · exact n l z
theorem lot_few {names lot : List Str} (nd : lot.Nodup) (sub : ∀ x ∈ lot, x ∈ names) : lot.length ≤ names.length := by
  induction lot generalizing names with
  | nil => exact Nat.zero_le _
  | cons x r ih =>
    obtain ⟨h1, h2⟩ := List.nodup_cons.mp nd
    have hx := sub x (List.mem_cons_self ..)
    have q := ih (names := names.erase x) h2 fun y hy => (List.mem_erase_of_ne (fun z : y = x => h1 (z ▸ hy))).mpr (sub y (List.mem_cons_of_mem _ hy))
    rw [List.length_erase_of_mem hx] at q
    have pos := List.length_pos_of_mem hx
    rw [List.length_cons]
    omega
/-- what family_draw's draw is, said of who forces and of its form -/
theorem fam_right {qs ps who : List Str} {lots : List (List Str)} (p : qs.Perm ps) (w : Within ps lots) : frc who (fam qs lots) = decide (Some' who lots) ∧ (fam qs lots).deep ≤ ps.length ∧ (fam qs lots).fair ps :=
  ⟨fam_frc who qs lots fun lot hl x hx => p.mem_iff.mpr (w lot hl x hx), by rw [← p.length_eq]; exact fam_deep qs lots, fair_sub (fun x hx => p.mem_iff.mp hx) (fam_fair qs lots)⟩
end K42

set_option Elab.async false
set_option linter.all false
set_option maxRecDepth 100000
set_option maxHeartbeats 4000000
set_option exponentiation.threshold 3000
/-! The law over draws for families: how long the texts of lists of names can be. -/
namespace K42
open PySem PySem.Spec PyProof.Rows L2 Vx Vr
theorem join_len (s : Str) (B : Nat) : ∀ ts : List Str, (∀ t ∈ ts, t.length ≤ B) → (Str.join s ts).length ≤ ts.length * (B + s.length)
  | [], _ => by
    show Str.empty.length ≤ _
    exact Nat.zero_le _
  | [t], h => by
    have q := h t (List.mem_cons_self ..)
    show t.length ≤ 1 * (B + s.length)
    omega
  | t :: u :: r, h => by
    have q := h t (List.mem_cons_self ..)
    have ih := join_len s B (u :: r) fun x hx => h x (List.mem_cons_of_mem _ hx)
    show (t ++ s ++ Str.join s (u :: r)).length ≤ _
    rw [PySem.Str.length_append, PySem.Str.length_append, List.length_cons, Nat.succ_mul]
    omega
theorem tuple_len (B : Nat) {ts : List Str} (h : ∀ t ∈ ts, t.length ≤ B) : (tupleText ts).length ≤ ts.length * (B + 2) + 3 := by
  have q := join_len ", " B ts h
  have l1 : (Str.ofString "(").length = 1 := by decide
  have l2 : (Str.ofString ", ").length = 2 := by decide
  have l3 : (Str.ofString (if ts.length == 1 then ",)" else ")" : String)).length ≤ 2 := by
    split <;> decide
  unfold tupleText
  rw [PySem.Str.length_append, PySem.Str.length_append]
  rw [l2] at q
  omega
theorem from_len (B : Nat) : ∀ (ts : List Str) (k : Nat) (acc : Str), (∀ t ∈ ts, t.length ≤ B) → (textFrom k acc ts).length ≤ acc.length + ts.length * (B + 2)
  | [], k, acc, _ => by
    show acc.length ≤ _
    omega
  | t :: r, k, acc, h => by
    have q := h t (List.mem_cons_self ..)
    have ih := from_len B r (k + 1) (acc ++ (if k > 0 then ", " else "" : String) ++ t) fun x hx => h x (List.mem_cons_of_mem _ hx)
    have l : (Str.ofString (if k > 0 then ", " else "" : String)).length ≤ 2 := by
      split <;> decide
    rw [PySem.Str.length_append, PySem.Str.length_append] at ih
    show (textFrom (k + 1) (acc ++ (if k > 0 then ", " else "" : String) ++ t) r).length ≤ _
    rw [List.length_cons, Nat.succ_mul]
    omega
theorem list_len (B : Nat) {ts : List Str} (h : ∀ t ∈ ts, t.length ≤ B) : (listText ts).length ≤ ts.length * (B + 2) + 2 := by
  have q := from_len B ts 0 "[" h
  have l1 : (Str.ofString "[").length = 1 := by decide
  have l2 : (Str.ofString "]").length = 1 := by decide
  unfold listText
  rw [PySem.Str.length_append]
  omega
theorem shownAll_mem : ∀ {ds : List PyData} {t : Str}, t ∈ PyData.shownAll ds → ∃ d ∈ ds, t = d.shown
  | [], t, h => nomatch h
  | d :: ds, t, h => by
    rcases List.mem_cons.mp h with e | e
    · exact ⟨d, List.mem_cons_self .., e⟩
    · obtain ⟨d', h1, h2⟩ := shownAll_mem e
      exact ⟨d', List.mem_cons_of_mem _ h1, h2⟩
theorem shownAll_len : ∀ ds : List PyData, (PyData.shownAll ds).length = ds.length
  | [] => rfl
  | d :: ds => by
    show (PyData.shownAll ds).length + 1 = ds.length + 1
    rw [shownAll_len ds]
theorem name_len : ∀ x ∈ folkA ++ folkB, (PyData.shown (.str x)).length ≤ 10 := by decide +kernel
/-- a list or a tuple of few names -/
def Row (d : PyData) : Prop := ∃ xs : List Str, (d = .list (xs.map .str) ∨ d = .tuple (xs.map .str)) ∧ xs.length ≤ 6 ∧ ∀ x ∈ xs, x ∈ folkA ++ folkB
theorem strs_show : ∀ xs : List Str, PyData.showableAll (xs.map .str) = true
  | [] => rfl
  | x :: xs => by
    show (true && PyData.showableAll (xs.map .str)) = true
    rw [strs_show xs] <;> rfl
theorem row_show {d : PyData} (r : Row d) : d.showable = true := by
  obtain ⟨xs, e, _⟩ := r
  rcases e with e | e <;> subst e <;> exact strs_show xs
theorem row_len {d : PyData} (r : Row d) : d.shown.length ≤ 75 := by
  obtain ⟨xs, e, l, m⟩ := r
  have b : ∀ t ∈ PyData.shownAll (xs.map .str), t.length ≤ 10 := fun t ht => by
    obtain ⟨d, hd, rfl⟩ := shownAll_mem ht
    obtain ⟨x, hx, rfl⟩ := List.mem_map.mp hd
    exact name_len x (m x hx)
  have n : (PyData.shownAll (xs.map .str)).length = xs.length := by rw [shownAll_len, List.length_map]
  rcases e with e | e <;> subst e
  · have q := list_len 10 b
    rw [n] at q
    show (listText (PyData.shownAll (xs.map .str))).length ≤ 75
    omega
  · have q := tuple_len 10 b
    rw [n] at q
    show (tupleText (PyData.shownAll (xs.map .str))).length ≤ 75
    omega
theorem rows_show : ∀ {ds : List PyData}, (∀ d ∈ ds, Row d) → PyData.showableAll ds = true
  | [], _ => rfl
  | d :: ds, h => by
    show (d.showable && PyData.showableAll ds) = true
    rw [row_show (h d (List.mem_cons_self ..)), rows_show fun x hx => h x (List.mem_cons_of_mem _ hx)] <;> rfl
/-- [given, handed] -/
theorem both_len {ds : List PyData} {e : PyData} (h : ∀ d ∈ ds, Row d) (l : ds.length ≤ 6) (r : Row e) : (PyData.list [.list ds, e]).showable = true ∧ (PyData.shown (.list [.list ds, e])).length ≤ 1000 := by
  have s1 := rows_show h
  have s2 := row_show r
  refine ⟨?_, ?_⟩
  · show (PyData.showableAll ds && (e.showable && true)) = true
    rw [s1, s2] <;> rfl
  · have b : ∀ t ∈ PyData.shownAll ds, t.length ≤ 75 := fun t ht => by
      obtain ⟨d, hd, rfl⟩ := shownAll_mem ht
      exact row_len (h d hd)
    have q := list_len 75 b
    rw [shownAll_len] at q
    have re := row_len r
    have q2 := list_len 464 (ts := [listText (PyData.shownAll ds), e.shown]) fun t ht => by
      rcases List.mem_cons.mp ht with z | z
      · rw [z]
        omega
      · rw [List.mem_singleton.mp z]
        omega
    show (listText [listText (PyData.shownAll ds), e.shown]).length ≤ 1000
    have two : ([listText (PyData.shownAll ds), e.shown] : List Str).length = 2 := rfl
    rw [two] at q2
    omega
end K42

set_option Elab.async false
set_option linter.all false
set_option maxRecDepth 100000
set_option maxHeartbeats 4000000
/-! Own layer, part D1: a method read off its class and called with the instance: C.m(o, ..). -/
namespace Dr
open PySem PySem.Spec PyProof.Rows L2 ClX
/-- C.m is a plain def, at g -/
structure Unb (K : PySem.W.Frag) (C : Addr) (mc : Value) (m : Str) (g : Addr) : Prop where
  rd : CRead K C mc
  at_ : PySem.W.findCls K (.ref C) mc m = some (.val (.ref g))
  kp : PySem.W.keepIn K (.ref g) = true
def tUnb (C : Addr) (sp : Sp) (E : XK) (ta : TE) (t : TA) : TE := fun σ H Q => ta σ H fun x H1 => x = .ref C ∧ t σ H1 fun vs H2 => sp vs H2 Q E
section
variable {X : Cx} {CX : CXT} {k : Nat} {C g : Addr} {fd : FuncData} {ps : List Str} {mc : Value} {sp : Sp} {E : XK} {o e : Expr} {es : List Expr} {m : Str} {pos apos : Pos} {ta : TE} {t : TA} {pl : Sem Bool}
theorem pe_unb (ho : PE X o ta) (c : Unb X.K C mc m g) (F : FnOk X.prog X.w X.K X.mg X.base CX k g fd ps sp) (hr : Room k X.A) (bs : Binds X.K fd ps []) (out : Passes CX X E) (args : PA X (e :: es) t)
    (st : starEach (e :: es) X.env = (false, eval e X.env) :: starEach es X.env := by rfl) (pla : (backTo pos (starEach es X.env)).any (·.1) = false := by rfl)
    (ev : eval (.Call (.Attribute o m apos) (e :: es) [] pos) X.env = (do
      let ov ← eval o X.env
      standAt apos.atName
      let (h, first) ← holding [ov] (getMethod ov m pl)
      callWith pos h first (backTo pos (starEach (e :: es) X.env)) (backToKw pos (keywordEach [] X.env))) := by rfl) :
    PE X (.Call (.Attribute o m apos) (e :: es) [] pos) (tUnb C sp E ta t) := by
  refine ⟨fun pins s σ H Q I h => PySem.W.methodCall_KW (pl := pl) (thn (ho.run pins s σ H _ I h) fun u s1 z => ?_) ev⟩
  obtain ⟨y, H1, J, ry, rfl, q⟩ := z
  obtain rfl : u = Value.ref C := ry
  have val : CVal X.K C mc m (.ref g) (.ref g) := ⟨c.at_, rfl⟩
  refine PySem.W.method_cls J.kIn c.rd.ga (getcval_ok J c.rd val fun s2 J2 => ?_)
  refine PySem.W.callWith_K (first := []) (h₀ := X.base) J2.ok.mod.kin c.kp (thn (args.run pos pins s2 σ H1 _ J2 q) fun us s3 w => ?_) st pla
  obtain ⟨vs, H2, J3, r, q2⟩ := w
  refine ⟨J3.kIn, ?_⟩
  have := run_fn (us := us) (vs := vs) (dvs := []) (ds := []) F hr bs .nil out J3 r (by rw [List.append_nil]; exact q2)
  simpa using this
end
end Dr

set_option Elab.async false
set_option linter.all false
set_option maxRecDepth 100000
set_option maxHeartbeats 4000000
set_option exponentiation.threshold 3000
/-! The law over draws for families: Round(..), by what Draw.__init__ does. -/
namespace K42
open PySem PySem.Spec PyProof.Rows L2 Vx Vr
def inR (j : Nat) : Stmt := inClass (top 33) j
/-- Draw.__init__(z, "open", givers, draws), z a round -/
def spInitT (K : PySem.W.Frag) (CE CR C : Addr) (M : Rest) : Sp := fun vs H Q _ => ∃ (z dz t t1 t2 r1 r2 dv a b : Addr) (p : Str) (x y : Dr), vs = [.ref z, .str "open", .ref t, .ref dv] ∧ H z = some (.ins CR dz []) ∧ SqT K H t [.ref t1] ∧ SqT K H t1 [.str p, .ref t2, .int 0] ∧ SqT K H t2 [.ref r1, .ref r2] ∧
  Rt C H r1 1 2 ∧ Rt C H r2 1 2 ∧ Nm p ∧ SqT K H dv [.ref a, .ref b] ∧ IsD K CE CR C M H a x ∧ IsD K CE CR C M H b y ∧ x.deep < 6 ∧ y.deep < 6 ∧ ∀ H', Keep z H H' → IsD K CE CR C M H' z (.turn p x y) → Q .non H'
section
variable {P : Program} {w : World} {K : PySem.W.Frag} {mg : Str → Option Value} {base : Heap} {CE CR C : Addr} {M : Rest}
abbrev NRo : List Str := ["self", "kind", "givers", "draws", "checked", "many", "_", "shares", "draw"]
theorem scRo : FnScope NRo ["self", "kind", "givers", "draws"] (defScope (inR 0)) := ⟨rfl, rfl, rfl, by decide +kernel, rfl, by decide +kernel, by decide +kernel⟩
theorem ok_round {f : Addr} {fd : FuncData} (F : L2.Fun K "__init__" "Round.__init__" (inR 0) f fd) (T : Bt mg) (U : Bu mg) (D : Dk P w K mg base CE CR) {CD g : Addr} {gd : FuncData} {mc : Value} (gD : mg "Draw" = some (.ref CD)) (iE : PySem.W.kitOne K (.ref CE) (.ref CD) = some true) (iR : PySem.W.kitOne K (.ref CR) (.ref CD) = some true)
    (c : Dr.Unb K CD mc "__init__" g) (G : FnOk P w K mg base CX0 8 g gd ["self", "word", "givers", "draws"] (spInitT K CE CR C M)) (gb : Binds K gd ["self", "word", "givers", "draws"] []) {ad : Addr} (KD : mg "KINDS" = some (.ref ad)) (KT : ∀ H, SqT K H ad (([("open" : Str), "sealed", "held", "last"] : List Str).map V.str)) (tk : Tok) (MR : mg "MOST_ROWS" = some (.int 16 tk))
    (IL : Cal P w K mg base "is_list" 1 ["value"] (spIsL K)) (GV : Cal P w K mg base "_checked_givers" 7 ["givers"] (spGivers K C)) (mo : MonR M) : FnOk P w K mg base CX0 10 f fd ["self", "kind", "givers", "draws"] (spRound K CE CR C M) := by
  refine F.ok scRo (fun vs H Q E h => ?_) (fun cdv A outer s H vs Q E hr h => ?_)
  · obtain ⟨z, dz, gl, g, sh, r1, r2, dl, a, b, p, x, y, rfl, _⟩ := h
    rfl
  · obtain ⟨z, dz, gl, g', sh, r1, r2, dl, a, b, p, x, y, rfl, hz, hgl, hg, hsh, q1, q2, np, hdl, i1, i2, l1, l2, go⟩ := h
    have h1 := hr.mono (show 1 ≤ 9 by decide)
    have h7 := hr.mono (show 7 ≤ 9 by decide)
    have h8 := hr.mono (show 8 ≤ 9 by decide)
    have big : (1000 : Nat) ≤ sizeLine := by decide
    refine ⟨_, pss_cons (ps_if (PW.pt (pw_or (pt_not (pt_val (pe_callB call_isi (by rfl) T.isi (by decide +kernel) (pa_cons (pv 1) (pa_cons (pe_bltn (v := .ty "str") (by rfl) T.str (by decide +kernel) rfl) pa_nil))))) (pw_or1 (pt_cmpR op_notIn_seq (pv 1) (pe_glob (v := .ref ad) (by rfl) KD rfl) (by rfl))))) (pss_one ps_never) pss_nil)
      (pss_cons (ps_set (i := 4) scRo.nd rfl (.inl rfl) (pe_cal GV h7 (pa_cons (pv 2) pa_nil)))
      (pss_cons (ps_set (i := 5) scRo.nd rfl (.inl rfl) pe_int)
      (pss_cons (ps_for PassesOwn.never rfl (pi_tup (pv 4)) (pg_tup (by rfl) (pgs_cons (pg_name (i := 6) scRo.nd rfl (.inl rfl)) (pgs_cons (pg_name (i := 7) scRo.nd rfl (.inl rfl)) (pgs_cons (pg_name (i := 6) scRo.nd rfl (.inl rfl)) pgs_nil))))
        (pss_one (ps_set (i := 5) scRo.nd rfl (.inl rfl) (pe_op op_mulW (pv 5) (pe_callB call_len_seq (by rfl) T.len PySem.boot_len (pa_cons (pv 7) pa_nil))))))
      (pss_cons (ps_if (pt_cmpR op_gt (pv 5) (pe_glob (v := .int 16) rfl MR ⟨_, rfl⟩) (nomark _)) (pss_one ps_never) pss_nil)
      (pss_cons (ps_if (PW.pt (pw_or (pt_not (pt_val (pe_cal IL h1 (pa_cons (pv 3) pa_nil)))) (pw_or (pt_cmpR op_ne (pe_callB call_len_seq (by rfl) T.len PySem.boot_len (pa_cons (pv 3) pa_nil)) (pv 5) (nomark _)) (pw_or1 (pt_not (pt_val (pe_callB (cr_all rfl) (by rfl) U.all (by decide +kernel) (pa_cons (pe_lc (own := [("draw", 8)]) (g := gName 8) (tt := tYes) rfl scRo.nd (pi_list (pv 3)) (blkOk_by (N := NRo) (sc := defScope (inR 0)) (by decide +kernel))
          (fun _ _ _ _ _ => pg_name (i := 8) scRo.nd rfl (Or.inl rfl)) (fun _ _ _ _ _ => pts_nil) (fun _ _ _ _ _ => pe_callB (call_isiKx K rfl) (by rfl) T.isi (by decide +kernel) (pa_cons (pv 8) (pa_cons (pe_glob (v := .ref CD) (by rfl) gD rfl) pa_nil)))) pa_nil)))))))) (pss_one ps_never) pss_nil)
      (pss_one (ps_expr (Dr.pe_unb (pe_glob (v := .ref CD) (by rfl) gD rfl) c G h8 gb pass0 (pa_cons (pv 0) (pa_cons (pv 1) (pa_cons (pv 4) (pa_cons (pe_callTy call_tuple_of (by rfl) U.tuple (by decide +kernel) (pa_cons (pv 3) pa_nil)) pa_nil)))))))))))), ?_⟩
    refine ⟨_, rfl, .str "open", .ty "str", .type "str", _, true, rfl, .ty "str", ty_oth (.str "open"), kit_ty (by decide +kernel), _, rfl, iteF ?_⟩
    refine ⟨_, rfl, ad, _, rfl, .inr (KT H), rfl, flat_all, _, rfl, ?_⟩
    have hin : inV (.str "open") ((([("open" : Str), "sealed", "held", "last"] : List Str)).map V.str) = true := by
      rw [inV_str]
      decide
    show (if (!inV (.str "open") ((([("open" : Str), "sealed", "held", "last"] : List Str)).map V.str)) = true then _ else _)
    rw [hin]
    refine iteF ⟨_, rfl, gl, g', sh, r1, r2, p, rfl, hgl, hg, hsh, q1, q2, np, fun t t1 t2 H1 s1 et et1 et2 => ?_⟩
    refine ⟨_, rfl, t, rfl, ⟨_, et⟩, for_tup (K := K) (a := t) (xs := [.ref t1]) (fun i σ H2 => H2 = H1 ∧ ∃ v6 v7 v8, σ = [some (.ref z), some (.str "open"), some (.ref gl), some (.ref dl), some (.ref t), some (.int (if i = 0 then 1 else 2)), v6, v7, v8])
      ⟨rfl, _, _, _, rfl⟩ (fun i σ H2 _ h => by rw [h.1]; exact et) ?_ ?_⟩
    · rintro i q σ H2 hq ⟨rfl, v6, v7, v8, rfl⟩
      have hi : i < 1 := (List.getElem?_eq_some_iff.mp hq).1
      obtain rfl : i = 0 := by omega
      obtain rfl : q = .ref t1 := by simpa using hq.symm
      refine ⟨t1, _, rfl, et1, rfl, _, _, rfl, _, _, rfl, _, _, rfl, rfl, ?_⟩
      refine ⟨_, rfl, _, rfl, t2, _, rfl, .inr et2, _, _, rfl, rfl, cmul (sm_small (by decide)) (sm_small (by show (2 : Int).natAbs < 10 ^ 40; decide)), ?_⟩
      exact ⟨rfl, _, _, _, rfl⟩
    · rintro σ H2 ⟨rfl, v6, v7, v8, rfl⟩
      have s1' : Same H H2 := s1
      have hdl1 := s1 _ _ hdl
      refine ⟨_, rfl, _, _, rfl, rfl, _, rfl, ?_⟩
      rw [show decide ((16 : Int) < (if [V.ref t1].length = 0 then 1 else 2)) = false from rfl]
      refine iteF ⟨_, rfl, .ref dl, "list", rfl, .lst hdl1, fun H3 s3 => ⟨_, rfl, iteF ?_⟩⟩
      have s13 := s1.trans s3
      have hdl3 := s3 _ _ hdl1
      refine ⟨_, rfl, dl, _, rfl, .inl (SqL.of hdl3), _, rfl, by trivial, _, rfl, ?_⟩
      rw [show (!decide (V.int (([V.ref a, V.ref b].length : Nat) : Int) = V.int (if [V.ref t1].length = 0 then 1 else 2))) = false from by rw [Bool.not_eq_false', decide_eq_true_eq] <;> rfl]
      refine iteF ⟨_, rfl, dl, rfl, ⟨_, SqL.of hdl3⟩, fun D' hD => ?_⟩
      refine lc_list (K := K) (a := dl) (xs := [.ref a, .ref b]) (fun i H4 => H4 D' = some (.lst ((List.replicate i true).map V.bl)) ∧ Same H3 H4) ⟨upd_same, same_new hD⟩ (fun i H4 _ q => SqL.of (q.2 _ _ hdl3)) ?_ ?_
      · rintro i q H4 hq ⟨e4, s4⟩
        have hi : i < 2 := (List.getElem?_eq_some_iff.mp hq).1
        have s14 := s13.trans s4
        obtain ⟨o, d, eo, isd⟩ : ∃ o d, q = .ref o ∧ IsD K CE CR C M H o d := by
          rcases i with _ | _ | i
          · exact ⟨a, x, by simpa using hq.symm, i1⟩
          · exact ⟨b, y, by simpa using hq.symm, i2⟩
          · omega
        subst eo
        have fin : ∃ acc, H4 D' = some (.lst acc) ∧ acc.length < sizeLine ∧ (upd H4 D' (.lst (acc ++ [V.bl true]))) D' = some (.lst ((List.replicate (i + 1) true).map V.bl)) ∧ Same H3 (upd H4 D' (.lst (acc ++ [V.bl true]))) := by
          refine ⟨_, e4, by rw [List.length_map, List.length_replicate]; omega, ?_, fun b o e => by rw [upd_ne (ne_of_none e hD)]; exact s4 _ _ e⟩
          rw [List.replicate_succ', List.map_append]
          exact upd_same
        have isd4 := isd.same mo s14
        cases d with
        | fin nm =>
          obtain ⟨dx, fs, _, _, e, _⟩ := isd4
          exact ⟨rfl, iteT (B := True) ⟨_, rfl, .ref o, .ref CD, .ref CE, _, _, rfl, .own CD, D.tyE e, iE, fin⟩⟩
        | turn p' x' y' =>
          obtain ⟨dx, fs, _, _, _, _, _, _, _, _, e, _⟩ := isd4
          exact ⟨rfl, iteT (B := True) ⟨_, rfl, .ref o, .ref CD, .ref CR, _, _, rfl, .own CD, D.tyR e, iR, fin⟩⟩
      · rintro H4 ⟨e4, s4⟩
        refine ⟨D', [true, true], rfl, SqL.of e4, _, rfl, iteF ?_⟩
        have s14 := s13.trans s4
        have s24 : Same H2 H4 := s3.trans s4
        refine ⟨rfl, _, rfl, _, rfl, _, rfl, _, rfl, dl, _, rfl, .inl ⟨SqL.of (s14 _ _ hdl), fun dv ndv => ?_⟩⟩
        have s5 : Same H4 (upd H4 dv (.tup [.ref a, .ref b])) := same_new ndv
        have e5 : (upd H4 dv (.tup [.ref a, .ref b])) dv = some (.tup [.ref a, .ref b]) := upd_same
        generalize upd H4 dv (.tup [.ref a, .ref b]) = H5 at s5 e5 ⊢
        have s15 := s14.trans s5
        have s25 := s24.trans s5
        refine ⟨z, dz, t, t1, t2, r1, r2, dv, a, b, p, x, y, rfl, s15 _ _ hz, SqT.ext et s25, SqT.ext et1 s25, SqT.ext et2 s25, q1.same s15, q2.same s15, np, SqT.of e5, i1.same mo s15, i2.same mo s15, l1, l2, fun H' kp isd => ?_⟩
        exact go H' (fun c o n e => kp c o n (s15 _ _ e)) isd
end
end K42

set_option Elab.async false
set_option linter.all false
set_option maxRecDepth 100000
set_option maxHeartbeats 4000000
set_option exponentiation.threshold 3000
/-! The law over draws for families: End(..), by what Draw.__init__ does. -/
namespace K42
open PySem PySem.Spec PyProof.Rows L2 Vx Vr
def inE (j : Nat) : Stmt := inClass (top 32) j
/-- Draw.__init__(z, name, (), ()), z an end -/
def spInitF (K : PySem.W.Frag) (CE CR C : Addr) (M : Rest) : Sp := fun vs H Q _ => ∃ (z dz t dv : Addr) (nm : Str), vs = [.ref z, .str nm, .ref t, .ref dv] ∧ H z = some (.ins CE dz []) ∧ SqT K H t [] ∧ SqT K H dv [] ∧ Yn nm ∧ ∀ H', Keep z H H' → IsD K CE CR C M H' z (.fin nm) → Q .non H'
section
variable {P : Program} {w : World} {K : PySem.W.Frag} {mg : Str → Option Value} {base : Heap} {CE CR C : Addr} {M : Rest}
theorem scEn : FnScope ["self", "name"] ["self", "name"] (defScope (inE 0)) := ⟨rfl, rfl, rfl, by decide +kernel, rfl, by decide +kernel, by decide +kernel⟩
theorem ok_end {f : Addr} {fd : FuncData} (F : L2.Fun K "__init__" "End.__init__" (inE 0) f fd) {CD g : Addr} {gd : FuncData} {mc : Value} (gD : mg "Draw" = some (.ref CD)) (c : Dr.Unb K CD mc "__init__" g) (G : FnOk P w K mg base CX0 8 g gd ["self", "word", "givers", "draws"] (spInitF K CE CR C M))
    (gb : Binds K gd ["self", "word", "givers", "draws"] []) (NA : Cal P w K mg base "is_name" 1 ["value"] spName) : FnOk P w K mg base CX0 10 f fd ["self", "name"] (spEnd K CE CR C M) := by
  refine F.ok scEn (fun vs H Q E h => ?_) (fun cdv A outer s H vs Q E hr h => ?_)
  · obtain ⟨z, dz, nm, rfl, _⟩ := h
    rfl
  · obtain ⟨z, dz, nm, rfl, hz, np, go⟩ := h
    have h1 := hr.mono (show 1 ≤ 9 by decide)
    have h8 := hr.mono (show 8 ≤ 9 by decide)
    refine ⟨_, pss_cons (ps_if (pt_not (pt_val (pe_cal NA h1 (pa_cons (pv 1) pa_nil)))) (pss_one ps_never) pss_nil)
      (pss_one (ps_expr (Dr.pe_unb (pe_glob (v := .ref CD) (by rfl) gD rfl) c G h8 gb pass0 (pa_cons (pv 0) (pa_cons (pv 1) (pa_cons (pe_tup pa_nil) (pa_cons (pe_tup pa_nil) pa_nil))))))), ?_⟩
    refine ⟨_, rfl, nm, rfl, np.nm, fun H1 s1 => ⟨_, rfl, iteF ?_⟩⟩
    refine ⟨rfl, _, rfl, _, rfl, by show 0 ≤ sizeLine; decide, fun t nt => ⟨by show 0 ≤ sizeLine; decide, fun dv ndv => ?_⟩⟩
    have s2 : Same H1 (upd (upd H1 t (.tup [])) dv (.tup [])) := (same_new nt).trans (same_new ndv)
    have s12 := s1.trans s2
    have et : (upd (upd H1 t (.tup [])) dv (.tup [])) t = some (.tup []) := by
      rw [upd_ne (ne_of_none upd_same ndv)]
      exact upd_same
    exact ⟨z, dz, t, dv, nm, rfl, s12 _ _ hz, SqT.of et, SqT.of upd_same, np, fun H' kp isd => go H' (fun c o n e => kp c o n (s12 _ _ e)) isd⟩
end
end K42

set_option Elab.async false
set_option linter.all false
set_option maxRecDepth 100000
set_option maxHeartbeats 4000000
/-! Own layer, part K1: a def called by keywords alone. -/
namespace Vk
open PySem PySem.Spec PyProof.Rows L2
section
variable {X : Cx} {CX : CXT} {k : Nat} {f : Addr} {fd : FuncData} {ps ks : List Str} {sp : Sp} {E : XK} {x : Str} {p pos : Pos} {kws : List Keyword} {tk : TA} {g : List Value → List Value → List Value} {gV : List V → List V → List V}
theorem pe_callK0 (F : FnOk X.prog X.w X.K X.mg X.base CX k f fd ps sp) (room : Room k X.A) (gl : Gl X x) (at_ : X.mg x = some (.ref f)) (kp : PySem.W.keepIn X.K (.ref f) = true) (bs : KBinds X.K fd ps ks g gV) (out : Passes CX X E) (kw : PK X kws tk)
    (all : (backToKw pos (keywordEach kws X.env)).all (·.1.isSome) = true := by rfl) (names : (backToKw pos (keywordEach kws X.env)).filterMap (·.1) = ks := by rfl) (nodb : (x == ("__debug__" : Str)) = false := by decide)
    (plain : ((backTo pos (starEach [] X.env)).any (·.1) || (backToKw pos (keywordEach kws X.env)).any (·.1.isNone)) = false := by rfl) : PE X (.Call (.Name x p) [] kws pos) (tCallK sp gV E tNil tk) := by
  refine ⟨fun pins s σ H Q I h => wpAny_Call_Name_kw (ld_glob I gl at_ (PySem.W.callWith_KW0 (h₀ := X.base) I.ok.mod.kin kp all (thn (kw.run pos pins s σ H _ I h) fun ws s2 z => ?_) plain) nodb)⟩
  obtain ⟨zs, H2, J, rz, q⟩ := z
  refine ⟨J.kIn, ?_⟩
  rw [names]
  exact run_fnk (us := []) (vs := []) F room bs out J .nil rz q
end
end Vk

set_option Elab.async false
set_option linter.all false
set_option maxRecDepth 100000
set_option maxHeartbeats 16000000
set_option exponentiation.threshold 3000
/-! The law over draws for families: the law itself. -/
namespace K42
open PySem PySem.Spec PyProof.Rows L2 Vx Vr
theorem op_eqDK {X : Cx} (K : PySem.W.Frag) (hK : X.K = K) (hu : X.A.units + 64 < cLine) : OpR X (compareOp .Eq) (rEqD K) := by
  subst hK
  exact op_eqD hu
theorem pi_listK {X : Cx} {tg l : Expr} {tl : TE} (K : PySem.W.Frag) (hK : X.K = K) (hl : PE X l tl) : PI X tg l (iList K tl) := by
  subst hK
  exact pi_list hl
/-- the inner comprehension of what is due, as a test -/
abbrev ttDue (K : PySem.W.Frag) : TT := tTest (tOp (rEqD K) (tLc (iList K (tVar 13)) (gName 14) (tTest (tOp (rIn K true) (tVar 14) (tVar 11))) (tVar 14) ([((Str.ofString "_law_name"), 14)].map (·.2))) (tLst tNil))
theorem call_reprK {X : Cx} {K : PySem.W.Frag} (hK : X.K = K) (hg : X.A.guards = some []) (hu : X.A.units + 64 < cLine) : CallR X (.builtin "repr") (rRepr K 60) := by
  subst hK
  exact call_reprD hg hu
/-- what the law calls -/
structure Lw (P : Program) (w : World) (K : PySem.W.Frag) (mg : Str → Option Value) (base : Heap) (CE CR C : Addr) (M : Rest) : Prop where
  bt : Bt mg
  bu : Bu mg
  tape : Cal P w K mg base "_law_tape" 1 ["_law_script", "_law_k"] (spTape K)
  pick : Cal P w K mg base "_law_pick" 1 ["_law_tape_here", "_law_many"] spPick
  mixed : Cal P w K mg base "_law_mixed" 2 ["_law_tape_here", "_law_items"] (spMixed K)
  drawn : Cal P w K mg base "_law_drawn_sets" 3 ["_law_tape_here", "_law_folk_told"] spDrawn
  lots : Cal P w K mg base "_law_lots" 1 ["_law_names"] (spLots K)
  fair : Cal P w K mg base "_law_is_fair" 12 ["_law_draw", "_law_folk_told", "_law_deep"] (spFair K CE CR C M 7)
  yes : Cal P w K mg base "_law_yes" 9 ["_law_draw", "_law_who"] (spYes K CE CR C M 7)
  fam : Cal P w K mg base "family_draw" 21 ["people", "sets"] (spFamily K CE CR C M)
  famK : ∃ f fd g, FnOk P w K mg base CX0 21 f fd ["people", "sets"] (spFamily K CE CR C M) ∧ mg "family_draw" = some (.ref f) ∧ PySem.W.keepIn K (.ref f) = true ∧ KBinds K fd ["people", "sets"] ["sets", "people"] g (fun vs zs => vs ++ zs.reverse)
  mkE : MkE P w K mg base CE CR C M
  eqs : Eqs P w K mg base CE CR C M
abbrev NL : List Str := ["_law_script", "_law_k", "_law_tape_here", "_law_some", "_law_folk_told", "_law_lap", "_law_sets_told", "_law_given", "_law_handed", "_law_kept", "_law_draw", "_law_who", "_law_due", "_law_lot", "_law_name"]
theorem scLaw : FnScope NL ["_law_script"] (defScope (top 56)) := ⟨rfl, rfl, rfl, by decide +kernel, rfl, by decide +kernel, by decide +kernel⟩
abbrev lotSc : Scope := { kind := .function, names := [(Str.ofString ".0", .local), (Str.ofString "_law_lot", .local), (Str.ofString "_law_who", .cell)], isGenerator := false, isCoroutine := false }
def spLaw (K : PySem.W.Frag) : Sp := fun vs H Q _ => ∃ (a : Addr) (ns : List Int), vs = [.ref a] ∧ SqL K H a (ns.map V.int) ∧ ns.length ≤ 63 ∧ ∀ H', Q (.bl true) H'
section
variable {P : Program} {w : World} {K : PySem.W.Frag} {mg : Str → Option Value} {base : Heap} {CE CR C : Addr} {M : Rest}
/-- the law's text as a term: it is to be taken into the proof of Kp P w K mg base CX0 24 f fd ["_law_script"] (spLaw K) by kp_fun0 F scLaw, where the reading is to be shown -/
theorem law_term {f : Addr} {cdv : Value} {A : Around} {outer : List Env} {s : Shared} {H : Hp} {E : XK} (L : Lw P w K mg base CE CR C M) (hr : Room 23 (A.deeper (envOfC "law" (defScope (top 56)) s.heap.objs.size f cdv)))
    (hg : (A.deeper (envOfC "law" (defScope (top 56)) s.heap.objs.size f cdv)).guards = some []) : ∃ t, PSs (cxOf CX0 P w K mg base NL "law" (defScope (top 56)) f cdv A outer s H E).nox (defBody (top 56)) t := by
    have T := L.bt
    have U := L.bu
    have h1 := hr.mono (show 1 ≤ 23 by decide)
    have h2 := hr.mono (show 2 ≤ 23 by decide)
    have h3 := hr.mono (show 3 ≤ 23 by decide)
    have h8 := hr.mono (show 8 ≤ 23 by decide)
    have h9 := hr.mono (show 9 ≤ 23 by decide)
    have h11 := hr.mono (show 11 ≤ 23 by decide)
    have h12 := hr.mono (show 12 ≤ 23 by decide)
    have h21 := hr.mono (show 21 ≤ 23 by decide)
    obtain ⟨ff, ffd, fg, FF, mF, kF, bF⟩ := L.famK
    have hu := hr.units
    refine ⟨_, pss_cons (ps_for PassesOwn.never rfl (pi_range1 rfl T.range (pa_cons (pe_callB (call_max2 rfl) (by rfl) T.max (by decide +kernel) (pa_cons pe_int (pa_cons (pe_callB (call_min2 rfl) (by rfl) T.min (by decide +kernel) (pa_cons pe_int (pa_cons (pe_callB call_len_seq (by rfl) T.len PySem.boot_len (pa_cons (pv 0) pa_nil)) pa_nil))) pa_nil))) pa_nil)) (pg_name (i := 1) scLaw.nd rfl (.inl rfl))
        (pss_cons (ps_set (i := 2) scLaw.nd rfl (.inr rfl) (pe_cal L.tape h1 (pa_cons (pv 0) (pa_cons (pv 1) pa_nil))))
        (pss_cons (ps_set (i := 3) scLaw.nd rfl (.inl rfl) (pe_ix ix_list (pe_lst (pa_cons (pe_lst (pa_cons pe_str (pa_cons pe_str (pa_cons pe_str (pa_cons pe_str (pa_cons pe_str (pa_cons pe_str pa_nil))))))) (pa_cons (pe_lst (pa_cons pe_str (pa_cons pe_str (pa_cons pe_str (pa_cons pe_str (pa_cons pe_str (pa_cons pe_str pa_nil))))))) pa_nil)))
            (pe_cal L.pick h1 (pa_cons (pv 2) (pa_cons pe_int pa_nil))) (fun _ _ => rfl)))
        (pss_cons (ps_set (i := 4) scLaw.nd rfl (.inl rfl) (pe_slice sl_list (pe_cal L.mixed h2 (pa_cons (pv 2) (pa_cons (pv 3) pa_nil))) po_none (po_some (pe_op op_add pe_int (pe_cal L.pick h1 (pa_cons (pv 2) (pa_cons pe_int pa_nil)))))))
        (pss_cons (ps_for PassesOwn.never rfl (pi_range1 rfl T.range (pa_cons pe_int pa_nil)) (pg_name (i := 5) scLaw.nd rfl (.inl rfl))
          (pss_cons (ps_set (i := 6) scLaw.nd rfl (.inl rfl) (pe_cal L.drawn h3 (pa_cons (pv 2) (pa_cons (pv 4) pa_nil))))
          (pss_cons (ps_setLc (i := 7) (own := [("_law_lot", 13)]) (g := gName 13) (tt := tYes) rfl scLaw.nd rfl rfl (sw_true rfl rfl rfl (by decide +kernel)) (pi_list (pv 6)) (blkOk_by (N := NL) (sc := defScope (top 56)) (by decide +kernel)) (fun _ _ _ _ _ => pg_name (i := 13) scLaw.nd rfl (Or.inl rfl)) (fun _ _ _ _ _ => pts_nil)
              (fun _ _ _ _ _ => pe_ix (ix_listK K rfl) (pe_lst (pa_cons (pe_callTy (call_list_ofK K rfl) (by rfl) U.list (by decide +kernel) (pa_cons (pv 13) pa_nil)) (pa_cons (pe_callTy (call_tuple_ofK K rfl) (by rfl) U.tuple (by decide +kernel) (pa_cons (pv 13) pa_nil)) pa_nil))) (pe_cal L.pick h1 (pa_cons (pv 2) (pa_cons pe_int pa_nil))) (fun _ _ => rfl)))
          (pss_cons (ps_set (i := 8) scLaw.nd rfl (.inl rfl) (pe_ix ix_list (pe_lst (pa_cons (pe_callTy call_list_of (by rfl) U.list (by decide +kernel) (pa_cons (pv 4) pa_nil)) (pa_cons (pe_callTy call_tuple_of (by rfl) U.tuple (by decide +kernel) (pa_cons (pv 4) pa_nil)) pa_nil))) (pe_cal L.pick h1 (pa_cons (pv 2) (pa_cons pe_int pa_nil))) (fun _ _ => rfl)))
          (pss_cons (ps_set (i := 9) scLaw.nd rfl (.inl rfl) (pe_callB (call_reprK (K := K) rfl hg hu) (by rfl) U.repr (by decide +kernel) (pa_cons (pe_lst (pa_cons (pv 7) (pa_cons (pv 8) pa_nil))) pa_nil)))
          (pss_cons (ps_set (i := 10) scLaw.nd rfl (.inl rfl) (Vk.pe_callK0 FF h21 (by rfl) mF kF bF pass0 (pk_cons (pv 7) (pk_cons (pv 8) pk_nil))))
          (pss_cons (ps_if (pt_cmpR op_ne (pe_callB (call_reprK (K := K) rfl hg hu) (by rfl) U.repr (by decide +kernel) (pa_cons (pe_lst (pa_cons (pv 7) (pa_cons (pv 8) pa_nil))) pa_nil)) (pv 9) (nomark _)) (pss_one (ps_ret pe_bl)) pss_nil)
          (pss_cons (ps_if (pt_not (pt_val (pe_cal L.fair h12 (pa_cons (pv 10) (pa_cons (pv 4) (pa_cons (pe_callB call_len_seq (by rfl) T.len PySem.boot_len (pa_cons (pv 4) pa_nil)) pa_nil)))))) (pss_one (ps_ret pe_bl)) pss_nil)
          (pss_one (ps_for PassesOwn.never rfl (pi_list (pe_cal L.lots h1 (pa_cons (pv 4) pa_nil))) (pg_name (i := 11) scLaw.nd rfl (.inr rfl))
            (pss_cons (ps_set (i := 12) scLaw.nd rfl (.inl rfl) (pe_cmpR (op_neD hu) (pe_lc (own := [("_law_lot", 13)]) (g := gName 13) (tt := ttDue K) rfl scLaw.nd (pi_list (pv 6)) (blkOk_by (N := NL) (sc := defScope (top 56)) (by decide +kernel)) (fun _ _ _ _ _ => pg_name (i := 13) scLaw.nd rfl (Or.inl rfl))
                (fun _ _ _ _ _ => pts_one (pt_cmpR (op_eqDK K rfl hu) (pe_lc (own := [("_law_name", 14)]) (g := gName 14) (tt := tTest (tOp (rIn K true) (tVar 14) (tVar 11))) rfl scLaw.nd (pi_listK K rfl (pv 13)) (blkOk_by (N := NL) (sc := lotSc) (by decide +kernel)) (fun _ _ _ _ _ => pg_name (i := 14) scLaw.nd rfl (Or.inl rfl))
                  (fun _ _ _ _ _ => pts_one (pt_cmpR (op_notInK K rfl) (pv 14) (pv 11) (by rfl))) (fun _ _ _ _ _ => pv 14)) (pe_lst pa_nil) (nomark _))) (fun _ _ _ _ _ => pv 13)) (pe_lst pa_nil) (nomark _)))
            (pss_one (ps_if (pt_cmpR op_ne (pe_cal L.yes h9 (pa_cons (pv 10) (pa_cons (pv 11) pa_nil))) (pv 12) (nomark _)) (pss_one (ps_ret pe_bl)) pss_nil)))))))))))))
        (pss_one (ps_if (PW.pt (pw_or (pt_not (pt_cmpR (op_same L.eqs h8) (pe_cal L.fam h21 (pa_cons (pv 4) (pa_cons (pe_lst pa_nil) pa_nil))) (pe_end L.mkE h11 pe_str) (nomark _)))
            (pw_or1 (pt_not (pt_cmpR (op_same L.eqs h8) (pe_cal L.fam h21 (pa_cons (pv 4) (pa_cons (pe_lst (pa_cons (pv 4) (pa_cons (pe_tup pa_nil) pa_nil))) pa_nil))) (pe_end L.mkE h11 pe_str) (nomark _)))))) (pss_one (ps_ret pe_bl)) pss_nil)))))))
      (pss_one (ps_ret pe_bl))⟩
end
end K42

set_option Elab.async false
set_option linter.all false
set_option maxRecDepth 100000
set_option maxHeartbeats 4000000
/-! Own layer, part D2: max(list of ints, default=d). -/
namespace Dr
open PySem PySem.Spec PyProof.Rows L2
def rMaxDef (K : PySem.W.Frag) : List V → List V → Hp → VK → Prop := fun xs zs H Q => ∃ (a : Addr) (ns : List Int) (d : Int), xs = [.ref a] ∧ zs = [.int d] ∧ SqL K H a (ns.map V.int) ∧ (ns = [] → Q (.int d) H) ∧ ∀ m, m ∈ ns → (∀ y ∈ ns, y ≤ m) → Q (.int m) H
theorem max_top : ∀ (ys : List Int) (y : Int), PySem.W.maxOf y ys ∈ y :: ys ∧ ∀ z ∈ y :: ys, z ≤ PySem.W.maxOf y ys
  | [], y => ⟨List.mem_cons_self .., fun z hz => by
    have : z = y := by simpa using hz
    subst this
    exact Int.le_refl _⟩
  | x :: ys, y => by
    have step : PySem.W.maxOf y (x :: ys) = PySem.W.maxOf (if y < x then x else y) ys := by
      show ys.foldl _ (if PySem.W.DatumOrd.lt y x = true then x else y) = _
      have : (PySem.W.DatumOrd.lt y x = true) ↔ y < x := by
        show decide (y < x) = true ↔ _
        exact decide_eq_true_iff
      by_cases h : y < x
      · rw [if_pos (this.mpr h), if_pos h]
        rfl
      · rw [if_neg (fun q => h (this.mp q)), if_neg h]
        rfl
    rw [step]
    obtain ⟨h1, h2⟩ := max_top ys (if y < x then x else y)
    refine ⟨?_, fun z hz => ?_⟩
    · rcases List.mem_cons.mp h1 with e | e
      · rw [e]
        split <;> simp
      · exact List.mem_cons_of_mem _ (List.mem_cons_of_mem _ e)
    · have top := h2 _ (List.mem_cons_self ..)
      rcases List.mem_cons.mp hz with e | hz
      · subst e
        generalize PySem.W.maxOf _ ys = M at top ⊢
        split at top <;> omega
      · rcases List.mem_cons.mp hz with e | hz
        · subst e
          generalize PySem.W.maxOf _ ys = M at top ⊢
          split at top <;> omega
        · exact h2 z (List.mem_cons_of_mem _ hz)
theorem ints_held {h : Heap} : ∀ {vs : List Value} {ns : List Int}, IntsAre vs ns → PySem.W.HoldAll h vs ns
  | _, _, .nil => ⟨[], .nil⟩
  | _, _, .cons n t r => by
    obtain ⟨as, q⟩ := ints_held (h := h) r
    exact ⟨[] ++ as, .cons (.int n t) q⟩
section
variable {X : Cx}
theorem cr_maxDef (hc : X.calm = true) (hu : X.A.units + 64 < cLine) : CallRK X (.builtin "max") ["default"] (rMaxDef X.K) := by
  intro pins s σ H xs zs us ws Q I r1 r2 h
  obtain ⟨a, ns, d, rfl, rfl, hs, h0, h1⟩ := h
  obtain ⟨u, rfl, ru⟩ := r1.one
  obtain rfl : u = .ref a := ru
  obtain ⟨w', rfl, t, rfl⟩ := r2.one
  obtain ⟨its, r, pl, hz⟩ := I.list hs
  have hi : IntsAre its.toArray.toList ns := by simpa using intsAre_of r
  refine PySem.W.max_list_datum_default (α := Int) (I.ok.hd hc) pl.isList (ints_held hi) (by show X.A.units + 1 + 0 < cLine; omega) (fun e h' tk k => ?_) fun y ys i v h' tk e hv hh k => ?_
  · exact ⟨.int d, H, I.kept k, ⟨t, rfl⟩, h0 e⟩
  · obtain ⟨m1, m2⟩ := max_top ys y
    obtain ⟨as, rd⟩ := hh
    generalize hm : PySem.W.maxOf y ys = m at m1 m2 rd
    have : ∃ tk', v = .int m tk' := by
      cases rd with
      | int _ t => exact ⟨t, rfl⟩
    obtain ⟨tk', rfl⟩ := this
    exact ⟨.int m, H, I.kept k, ⟨tk', rfl⟩, h1 m (by rw [e]; exact m1) (by rw [e]; exact m2)⟩
end
end Dr

set_option Elab.async false
set_option linter.all false
set_option maxRecDepth 100000
set_option maxHeartbeats 4000000
/-! Own layer, part D3: xs.extend(a tuple). -/
namespace Dr
open PySem PySem.Spec PyProof.Rows L2 PySem.AutoSeq1 PySem.MeetsSeq
theorem ext_own (l b : Addr) (xs ys : Array Value) (n m : Nat) (dc : Option Addr) (sl : Array (Option Value)) (short : ¬(!xs.isEmpty && Builtin.List.listTooLong (xs.size + ys.size)) = true) (z1 : xs.size ≤ sizeLine) (z2 : xs.size + ys.size ≤ sizeLine + 1) :
    Meets (Builtin.«list.extend» ⟨[.ref l, .ref b], []⟩) (fun _ R s => s.heap.get? l = some { cls := .type "list", data := .seq xs n } ∧ s.heap.get? b = some { cls := .type "tuple", dict := dc, data := .seq ys m, slots := sl } ∧
      R (.ok (.ret Value.none)) { s with heap := s.heap.update l (Obj.mapSeq fun x => x ++ ys), toks := s.toks }) :=
  .of_wp fun prog w A R s h => by
    obtain ⟨hp, g, d, tk, os⟩ := s
    obtain ⟨hl, hb, h⟩ := h
    have f1 := idx_int
    have f2 := AutoSeq1.sub_tuple_tuple
    have f3 := AutoSeq1.sub_list_list
    have f4 := AutoSeq1.sub_tuple_list
    have f5 := AutoSeq1.sub_list_tuple
    have all : (xs ++ ys).size ≤ sizeLine + 1 := by
      rw [Array.size_append]
      exact z2
    wp_walk using (wpAny_updateSeq hl rfl (hz := z1) (_hz' := all)), wpAny_loadPart' hl, wpAny_loadPart' hb
    exact ⟨_, rfl, h⟩
section
variable {X : Cx}
def rExtT (K : PySem.W.Frag) : V → List V → Hp → VK → Prop := fun x vs H Q => ∃ l b xs zs, x = .ref l ∧ vs = [.ref b] ∧ H l = some (.lst xs) ∧ SqT K H b zs ∧ xs.length + zs.length ≤ sizeLine ∧ Q .non (upd H l (.lst (xs ++ zs)))
theorem mt_extT : MtM X "list.extend" (rExtT X.K) := by
  intro pins s σ H x vs v us Q I rx rv h
  obtain ⟨l, b, xs, zs, rfl, rfl, hl, hb, few, go⟩ := h
  obtain rfl : v = .ref l := rx
  obtain ⟨w, rfl, rw'⟩ := rv.one
  obtain rfl : w = .ref b := rw'
  obtain ⟨_, its, n, r1, len1, e1⟩ := I.lstM hl
  obtain ⟨its2, r2, ⟨ob, e2, c2, m, d2⟩, _⟩ := I.tuple hb
  obtain ⟨cl, dc, dt, sl⟩ := ob
  simp only at c2 d2
  subst c2 d2
  have len2 := r2.length
  have few' : its.toArray.size + its2.toArray.size ≤ sizeLine := by
    simp only [List.size_toArray]
    omega
  have short : ¬ (!its.toArray.isEmpty && Builtin.List.listTooLong (its.toArray.size + its2.toArray.size)) = true := by
    rw [notLongL few', Bool.and_false]
    decide
  refine call_meets F.slot_list_extend ⟨_, e1, rfl⟩ F.entry_list_extend (F.args_list_extend_2 _ _) (ext_own l b its.toArray its2.toArray n m dc sl short (by omega) (by omega)) ⟨e1, e2, ?_⟩
  exact ⟨.non, _, I.lset (its' := its ++ its2) hl e1 (by simp) (r1.append r2) (by rw [List.length_append]; omega), rfl, go⟩
end
end Dr

set_option Elab.async false
set_option linter.all false
set_option maxRecDepth 100000
set_option maxHeartbeats 4000000
/-! Own layer, part D4: for x in zip(a tuple, a tuple), x a name: each pair stays. -/
namespace Dr
open PySem PySem.Spec PyProof.Rows L2 RZ
/-- a zip of tuples whose pair is out, at T -/
abbrev ZipT (h : Heap) (z TI TO T : Addr) (f : Bool) : Prop := h.get? z = some { cls := .type "zip", data := .fields #[.int T 0, .bool f, .bool false, .ref TI, .ref TO] }
section
variable {prog : Program} {w : World} {A : Around} {E : Value → Shared → Prop} {s : Shared}
theorem alive_at {a : Addr} {o : Obj} {Q : Option Obj → Shared → Prop} (ho : s.heap.get? a = some o) (h : Q (some o) s) : wpAny (model prog w) A (loadIfAlive a) Q E s := by
  intro Γ p _
  show Sem.wp _ _ (Sem.loadIfAlive a Sem.pure) _ _ p s
  rw [Sem.wp_loadIfAlive, ho]
  exact h
theorem not_free {z TI TO T : Addr} {f : Bool} {o : Obj} {Q : Bool → Shared → Prop} (hz : ZipT s.heap z TI TO T f) (ho : s.heap.get? T = some o)
    (h : ∀ h', ZipT h' z TI TO T true → Heap.SameBut z s.heap h' → Q false { s with heap := h' }) : wpAny (model prog w) A (Builtin.SmallTypes.ownedTupleIsFree (.ref z)) Q E s := by
  unfold Builtin.SmallTypes.ownedTupleIsFree
  refine wpAny_bind (wpAny_field hz rfl (x := .int T 0) rfl ?_)
  refine wpAny_bind (alive_at (a := T) ho ?_)
  refine wpAny_bind (wpAny_field hz rfl (x := .bool f) rfl ?_)
  cases f with
  | false => exact wpAny_bind (wpAny_setField_rec hz (by simp) fun h' e sb => wpAny_pure (h h' e sb))
  | true => exact wpAny_pure (h s.heap hz (.refl _ _))
theorem zipN_item {z TI TO T i1 i2 l1 l2 : Addr} {f : Bool} {o : Obj} {k1 k2 : Nat} {xs ys : Array Value} {x y : Value} {Q : Value → Shared → Prop} (D : ZipApart z TI TO i1 i2 l1 l2)
    (hz : ZipT s.heap z TI TO T f) (ho : s.heap.get? T = some o) (hTI : IsPair s.heap TI (.ref i1) (.ref i2))
    (h1 : s.heap.IsTupleIter i1 l1 k1) (h2 : s.heap.IsTupleIter i2 l2 k2) (hl1 : s.heap.IsTuple l1 xs) (hl2 : s.heap.IsTuple l2 ys) (hx : xs[k1]? = some x) (hy : ys[k2]? = some y)
    (hQ : ∀ h', ZipT h' z TI TO T true → h'.IsTupleIter i1 l1 (k1 + 1) → h'.IsTupleIter i2 l2 (k2 + 1) → IsPair h' s.heap.objs.size x y →
      (∀ c o, c ≠ z → c ≠ i1 → c ≠ i2 → s.heap.get? c = some o → h'.get? c = some o) → Q (.ref s.heap.objs.size) { s with heap := h' }) :
    wpAny (model prog w) A (Builtin.«zip.__next__» ⟨[.ref z], []⟩) (fun fin s' => ∃ v, fin = .done (.ret v) ∧ Q v s') E s := by
  show wpAny _ _ (field (.ref z) 2 >>= _) _ _ _
  refine wpAny_bind (wpAny_field hz rfl (x := .bool false) rfl ?_)
  show wpAny _ _ (field (.ref z) 3 >>= _) _ _ _
  refine wpAny_bind (wpAny_field hz rfl (x := .ref TI) rfl ?_)
  refine wpAny_bind (wpAny_seqItems hTI rfl ?_)
  show wpAny _ _ (Builtin.SmallTypes.ownedTupleIsFree (.ref z) >>= _) _ _ _
  refine wpAny_bind (not_free hz ho fun h1' hz' sb => ?_)
  simp only [Bool.false_eq_true, if_false]
  rw [← Array.forIn_toList]
  simp only [List.forIn_cons, List.forIn_nil]
  refine wpAny_bind (wpAny_bind (wpAny_bind (wpAny_holding ?_)))
  show wpAny _ _ (Builtin.SmallTypes.nextOf (.ref i1) >>= _) _ _ _
  refine wpAny_bind (nextOf_tuple_item (h1.extBut sb.extBut D.i1z) (hl1.extBut sb.extBut D.l1z) hx fun ha h1a sa => wpAny_pure ?_)
  refine wpAny_pure ?_
  refine wpAny_bind (wpAny_bind (wpAny_holding ?_))
  show wpAny _ _ (Builtin.SmallTypes.nextOf (.ref i2) >>= _) _ _ _
  refine wpAny_bind (nextOf_tuple_item ((h2.extBut sb.extBut D.i2z).extBut sa.extBut D.i12.symm) ((hl2.extBut sb.extBut D.l2z).extBut sa.extBut D.l2i1) hy fun hb h2b sc => wpAny_pure ?_)
  refine wpAny_pure (wpAny_pure ?_)
  refine wpAny_bind (wpAny_newTuple ?_ (by show 2 ≤ sizeLine; decide))
  have sz : hb.objs.size = s.heap.objs.size := by rw [sc.1, sa.1, sb.1]
  refine wpAny_pure ⟨_, rfl, ?_⟩
  show Q (.ref hb.objs.size) _
  rw [sz]
  refine hQ _ ?_ ?_ ?_ ?_ ?_
  · exact Heap.get?_push_of_some _ (sc.extBut _ _ D.i2z.symm (sa.extBut _ _ D.i1z.symm hz'))
  · exact (h1a.extBut sc.extBut D.i12).at fun o q => Heap.get?_push_of_some _ q
  · exact h2b.at fun o q => Heap.get?_push_of_some _ q
  · rw [← sz]
    exact Heap.get?_push_size _ rfl
  · exact fun c o c1 c2 c3 q => Heap.get?_push_of_some _ (sc.extBut _ _ c3 (sa.extBut _ _ c2 (sb.extBut _ _ c1 q)))
theorem zipN_end {z TI TO T i1 i2 l1 l2 : Addr} {f : Bool} {o : Obj} {k1 : Nat} {xs : Array Value} {Q : Fin → Shared → Prop} (hh : A.handled = none) (D : ZipApart z TI TO i1 i2 l1 l2)
    (hz : ZipT s.heap z TI TO T f) (ho : s.heap.get? T = some o) (hTI : IsPair s.heap TI (.ref i1) (.ref i2))
    (h1 : s.heap.IsTupleIter i1 l1 k1) (hl1 : s.heap.IsTuple l1 xs) (hx : xs[k1]? = none)
    (hE : ∀ h' e, (∀ c o, c ≠ z → c ≠ i1 → s.heap.get? c = some o → h'.get? c = some o) → (∃ o, h'.get? e = some o ∧ o.cls = .type "StopIteration") → E (.ref e) { s with heap := h' }) :
    wpAny (model prog w) A (Builtin.«zip.__next__» ⟨[.ref z], []⟩) Q E s := by
  show wpAny _ _ (field (.ref z) 2 >>= _) _ _ _
  refine wpAny_bind (wpAny_field hz rfl (x := .bool false) rfl ?_)
  show wpAny _ _ (field (.ref z) 3 >>= _) _ _ _
  refine wpAny_bind (wpAny_field hz rfl (x := .ref TI) rfl ?_)
  refine wpAny_bind (wpAny_seqItems hTI rfl ?_)
  show wpAny _ _ (Builtin.SmallTypes.ownedTupleIsFree (.ref z) >>= _) _ _ _
  refine wpAny_bind (not_free hz ho fun h1' hz' sb => ?_)
  simp only [Bool.false_eq_true, if_false]
  rw [← Array.forIn_toList]
  simp only [List.forIn_cons, List.forIn_nil]
  refine wpAny_bind (wpAny_bind (wpAny_bind (wpAny_holding ?_)))
  show wpAny _ _ (Builtin.SmallTypes.nextOf (.ref i1) >>= _) _ _ _
  refine wpAny_bind (nextOf_tuple_end hh (h1.extBut sb.extBut D.i1z) (hl1.extBut sb.extBut D.l1z) hx fun ha e sa he => ?_)
  exact hE ha e (fun c o c1 c2 q => sa _ _ c2 (sb.extBut _ _ c1 q)) he
end
section
variable {X : Cx} {e e2 : Expr} {ta : TA} {p px pos fpos : Pos} {x : Str} {body : List Stmt} {g : TG} {tb : TS}
/-- the zip's objects ahead of turn i; its pair is out, at T, or not yet -/
def ZSt (z TI TO i1 i2 a b : Addr) (i : Nat) (T : Option Addr) (h : Heap) : Prop :=
  ((T = none ∧ IsZip h z TI TO .none) ∨ ∃ t f, T = some t ∧ ZipT h z TI TO t f) ∧ IsPair h TI (.ref i1) (.ref i2) ∧ (∃ x y, IsPair h TO x y) ∧ h.IsTupleIter i1 a i ∧ h.IsTupleIter i2 b i
def tForZ (K : PySem.W.Frag) (ta : TA) (g : TG) (tb : TS) : TS := fun D σ H => ta σ H fun vs H1 => ∃ (a b : Addr) (xs ys : List V), vs = [.ref a, .ref b] ∧ SqT K H1 a xs ∧ SqT K H1 b ys ∧ xs.length = ys.length ∧ ∃ W : Nat → Option Addr → L2.St → Hp → Prop, W 0 none σ H1 ∧
  ∀ i T σ H, W i T σ H → i ≤ xs.length ∧ SqT K H a xs ∧ SqT K H b ys ∧ (∀ t, T = some t → ∃ zs, H t = some (.tup zs)) ∧
    (∀ x y t, xs[i]? = some x → ys[i]? = some y → H t = none → g (.ref t) σ (upd H t (.tup [x, y])) fun σ2 H2 => tb { D with nx := W (i + 1) (some (T.getD t)), ct := W (i + 1) (some (T.getD t)), bk := D.nx } σ2 H2) ∧ (i = xs.length → D.nx σ H)
theorem zst_keep {z TI TO i1 i2 a b : Addr} {i : Nat} {T : Option Addr} {h h' : Heap} (st : ZSt z TI TO i1 i2 a b i T h) (k : ∀ c ∈ [z, TI, TO, i1, i2], ∀ o, h.get? c = some o → h'.get? c = some o) : ZSt z TI TO i1 i2 a b i T h' := by
  obtain ⟨q, h2, ⟨x, y, h3⟩, h4, h5⟩ := st
  refine ⟨?_, k TI (by simp) _ h2, ⟨x, y, k TO (by simp) _ h3⟩, h4.at fun o q => k i1 (by simp) o q, h5.at fun o q => k i2 (by simp) o q⟩
  rcases q with ⟨rfl, q⟩ | ⟨t, f, rfl, q⟩
  · exact .inl ⟨rfl, k z (by simp) _ q⟩
  · exact .inr ⟨t, f, rfl, k z (by simp) _ q⟩
theorem zst_obj {z TI TO i1 i2 a b : Addr} {i : Nat} {T : Option Addr} {h : Heap} (st : ZSt z TI TO i1 i2 a b i T h) : ∀ c ∈ [z, TI, TO, i1, i2], ∃ o, h.get? c = some o ∧ ∀ v, o.data ≠ .cell v := by
  obtain ⟨q, h2, ⟨x, y, h3⟩, ⟨o4, e4, _, d4⟩, ⟨o5, e5, _, d5⟩⟩ := st
  intro c hc
  have five : c = z ∨ c = TI ∨ c = TO ∨ c = i1 ∨ c = i2 := by simpa using hc
  rcases five with rfl | rfl | rfl | rfl | rfl
  · rcases q with ⟨rfl, q⟩ | ⟨t, f, rfl, q⟩
    · exact ⟨_, q, fun v z => nomatch z⟩
    · exact ⟨_, q, fun v z => nomatch z⟩
  · exact ⟨_, h2, fun v z => nomatch z⟩
  · exact ⟨_, h3, fun v z => nomatch z⟩
  · exact ⟨_, e4, fun v z => by rw [d4] at z; cases z⟩
  · exact ⟨_, e5, fun v z => by rw [d5] at z; cases z⟩
/-- a turn's pair -/
theorem zst_item {z TI TO i1 i2 a b : Addr} {i : Nat} {T : Option Addr} {pins : List (Addr × Obj)} {s : Shared} {σ : L2.St} {H : Hp} {E : Value → Shared → Prop} {xs ys : List V} {x y : V} (D : ZipApart z TI TO i1 i2 a b) (I : Inv X pins σ H s)
    (hf : ∀ c ∈ [z, TI, TO, i1, i2], FpOk X pins H c) (st : ZSt z TI TO i1 i2 a b i T s.heap) (qa : SqT X.K H a xs) (qb : SqT X.K H b ys) (alive : ∀ t, T = some t → ∃ zs, H t = some (.tup zs)) (hx : xs[i]? = some x) (hy : ys[i]? = some y) :
    wpAny (model X.prog X.w) X.A (pyNext (.ref z)) (fun r s1 => ∃ t, r = some (.ref t) ∧ H t = none ∧ Inv X pins σ (upd H t (.tup [x, y])) s1 ∧ ZSt z TI TO i1 i2 a b (i + 1) (some (T.getD t)) s1.heap ∧ ∀ c ∈ [z, TI, TO, i1, i2], upd H t (.tup [x, y]) c = none) E s := by
  obtain ⟨its, rv, p1, _⟩ := I.tuple qa
  obtain ⟨its2, rv2, p2, _⟩ := I.tuple qb
  obtain ⟨u, hu, ru⟩ := rv.get hx
  obtain ⟨u2, hu2, ru2⟩ := rv2.get hy
  obtain ⟨q, hTI, ⟨x0, y0, hTO⟩, h1, h2⟩ := id st
  have free : H s.heap.objs.size = none := I.hok.fresh (Nat.le_refl _)
  have fin : ∀ h', IsPair h' s.heap.objs.size u u2 → (∀ c o, c ∉ [z, TI, TO, i1, i2] → s.heap.get? c = some o → h'.get? c = some o) → Inv X pins σ (upd H s.heap.objs.size (.tup [x, y])) { s with heap := h' } := fun h' hp k =>
    I.turnedNew (t' := s.toks) (ch := [z, TI, TO, i1, i2]) (fun c o n e => k c o n e) hf (Nat.le_refl _) ⟨by show 2 ≤ sizeLine; decide, [u, u2], .cons ru (.cons ru2 .nil), ⟨_, hp, rfl, _, rfl⟩⟩
  have old : ∀ c ∈ [z, TI, TO, i1, i2], upd H s.heap.objs.size (.tup [x, y]) c = none := fun c hc => by
    obtain ⟨o, e, _⟩ := zst_obj st c hc
    rw [upd_ne (Nat.ne_of_lt (Heap.lt_size e))]
    exact (hf c hc).1
  have away : ∀ {c : Addr}, c ∉ [z, TI, TO, i1, i2] → c ≠ z ∧ c ≠ TI ∧ c ≠ TO ∧ c ≠ i1 ∧ c ≠ i2 := fun {c} n => by simpa using n
  have hT : s.TypeIs (.ref z) "zip" := by
    rcases q with ⟨_, q⟩ | ⟨t, f, _, q⟩
    · exact ⟨_, q, rfl⟩
    · exact ⟨_, q, rfl⟩
  rcases q with ⟨rfl, q⟩ | ⟨t, f, rfl, q⟩
  · refine pyNext_zipT_item D q hTI hTO h1 h2 p1 p2 (x := u) (y := u2) (by simpa using hu) (by simpa using hu2) fun h' z' TO' h1' h2' hp _ k => ?_
    refine ⟨_, rfl, free, fin h' hp (fun c o n e => ?_), ⟨.inr ⟨_, _, rfl, z'⟩, k _ _ D.TIz D.TITO D.TIi1 D.TIi2 hTI, ⟨_, _, TO'⟩, h1', h2'⟩, old⟩
    obtain ⟨n1, n2, n3, n4, n5⟩ := away n
    exact k c o n1 n3 n4 n5 e
  · obtain ⟨zs, ht⟩ := alive t rfl
    obtain ⟨_, its3, _, ot, eo, _⟩ := (show ObjOk X.prog X.w H s.heap t (.tup zs) from I.hok t _ ht)
    unfold pyNext
    refine wpAny_bind (wpAny_attempt (wpAny_callSpecial?_slot (name := Str.ofString "__next__") hT PySem.F.slot_zip_next (wpAny_call_entry PySem.F.slot_zip_next hT PySem.F.entry_zip_next ?_ (PySem.F.args_zip_next_1 _))))
    refine zipN_item D q eo hTI h1 h2 p1 p2 (x := u) (y := u2) (by simpa using hu) (by simpa using hu2) fun h' z' h1' h2' hp k => wpAny_pure ?_
    have kTO : IsPair h' TO x0 y0 := k _ _ D.TOz D.TOi1 D.TOi2 hTO
    refine ⟨_, rfl, free, fin h' hp (fun c o n e => ?_), ?_, old⟩
    · obtain ⟨n1, n2, n3, n4, n5⟩ := away n
      exact k c o n1 n4 n5 e
    · exact ⟨.inr ⟨t, true, rfl, z'⟩, k _ _ D.TIz D.TIi1 D.TIi2 hTI, ⟨_, _, kTO⟩, h1', h2'⟩
theorem zst_done {z TI TO i1 i2 a b : Addr} {T : Option Addr} {pins : List (Addr × Obj)} {s : Shared} {σ : L2.St} {H : Hp} {E : Value → Shared → Prop} {xs ys : List V} (hc : X.calm = true) (D : ZipApart z TI TO i1 i2 a b) (I : Inv X pins σ H s)
    (hf : ∀ c ∈ [z, TI, TO, i1, i2], FpOk X pins H c) (st : ZSt z TI TO i1 i2 a b xs.length T s.heap) (qa : SqT X.K H a xs) (qb : SqT X.K H b ys) (alive : ∀ t, T = some t → ∃ zs, H t = some (.tup zs)) :
    wpAny (model X.prog X.w) X.A (pyNext (.ref z)) (fun r s1 => r = none ∧ Inv X pins σ H s1) E s := by
  obtain ⟨its, rv, p1, _⟩ := I.tuple qa
  obtain ⟨its2, rv2, p2, _⟩ := I.tuple qb
  obtain ⟨q, hTI, ⟨x0, y0, hTO⟩, h1, h2⟩ := id st
  have over : its.toArray[xs.length]? = none := by
    have := rv.length
    simp
    omega
  have away : ∀ {c : Addr}, c ∉ [z, TI, TO, i1, i2] → c ≠ z ∧ c ≠ TI ∧ c ≠ TO ∧ c ≠ i1 ∧ c ≠ i2 := fun {c} n => by simpa using n
  have hT : s.TypeIs (.ref z) "zip" := by
    rcases q with ⟨_, q⟩ | ⟨t, f, _, q⟩
    · exact ⟨_, q, rfl⟩
    · exact ⟨_, q, rfl⟩
  rcases q with ⟨rfl, q⟩ | ⟨t, f, rfl, q⟩
  · refine pyNext_zipT_end (I.ok.hd hc) D q hTI hTO h1 h2 p1 p2 (.inl over) fun h' k => ⟨rfl, I.turnedL (t' := s.toks) (ch := [z, TI, TO, i1, i2]) (fun c o n e => ?_) hf⟩
    obtain ⟨n1, n2, n3, n4, n5⟩ := away n
    exact k c o n1 n3 n4 n5 e
  · obtain ⟨zs, ht⟩ := alive t rfl
    obtain ⟨_, its3, _, ot, eo, _⟩ := (show ObjOk X.prog X.w H s.heap t (.tup zs) from I.hok t _ ht)
    unfold pyNext
    refine wpAny_bind (wpAny_attempt (wpAny_callSpecial?_slot (name := Str.ofString "__next__") hT PySem.F.slot_zip_next (wpAny_call_entry PySem.F.slot_zip_next hT PySem.F.entry_zip_next ?_ (PySem.F.args_zip_next_1 _))))
    refine zipN_end (I.ok.hd hc) D q eo hTI h1 p1 over fun h' e k he => ?_
    obtain ⟨o, h1e, h2e⟩ := he
    refine wpAny_bind (wpAny_isInstance (T := "StopIteration") (b := true) ⟨o, h1e, h2e⟩ isSubtype_stop ?_)
    refine wpAny_pure ⟨rfl, I.turnedL (t' := s.toks) (ch := [z, TI, TO, i1, i2]) (fun c o n e => ?_) hf⟩
    obtain ⟨n1, n2, n3, n4, n5⟩ := away n
    exact k c o n1 n4 e
theorem ps_forZ (hp : PassesOwn (model X.prog X.w) X.A X.env X.xe) (hc : X.calm = true) (hgl : Gl X "zip") (hm : X.mg "zip" = none) (ha : PA X [e, e2] ta) (hg : PG X (.Name x px) g) (hb : PSs X body tb)
    (hs : starEach [e, e2] X.env = (false, eval e X.env) :: starEach [e2] X.env := by rfl) (hpl : (backTo pos (starEach [e2] X.env)).any (·.1) = false := by rfl) (hfo : ∀ v, foldedSetIterable (.Call (.Name "zip" p) [e, e2] [] pos) X.env v = pure v := by intro _; rfl) :
    PS X (.For (.Name x px) (.Call (.Name "zip" p) [e, e2] [] pos) body [] fpos) (tForZ X.K ta g tb) := by
  refine ⟨fun pins s σ H D I h => ?_⟩
  refine wpAny_For (thn (Call_ (ld_blt I hgl hm PyProof.Rows.boot_zip (PyProof.Rows.callWith_type1 (thn (ha.run pos pins s σ H _ I h) fun us s1 w => ?_) hs hpl))) fun _ _ q => q) hfo
  obtain ⟨vs, H1, I1, r1, a, b, xs, ys, ex, qa, qb, len, W, w0, turn⟩ := w
  subst ex
  obtain ⟨u1, u2, rfl, ru1, ru2⟩ : ∃ u1 u2, us = [u1, u2] ∧ RelV (.ref a) u1 ∧ RelV (.ref b) u2 := by
    cases r1 with
    | cons r rr => cases rr with
      | cons r' rr => cases rr; exact ⟨_, _, rfl, r, r'⟩
  obtain rfl : u1 = .ref a := ru1
  obtain rfl : u2 = .ref b := ru2
  obtain ⟨its, rv, p1, _⟩ := I1.tuple qa
  obtain ⟨its2, rv2, p2, _⟩ := I1.tuple qb
  obtain ⟨o1, lo1, _⟩ := id p1
  obtain ⟨o2, lo2, _⟩ := id p2
  refine call_zipT (show s1.heap.IsTuple a its.toArray from p1) (show s1.heap.IsTuple b its2.toArray from p2) fun h' hz hTI hTO h1 h2 _ k => wpAny_pyIter_zip hz ?_
  have DD := PySem.W.ktu_apart s1.heap.objs.size a b (Heap.lt_size lo1) (Heap.lt_size lo2)
  have I2 : Inv X pins σ H1 { s1 with heap := h' } := I1.kept (t' := s1.toks) k
  generalize ez : s1.heap.objs.size + 4 = z at *
  generalize e1 : s1.heap.objs.size + 2 = TI at *
  generalize e3 : s1.heap.objs.size + 3 = TO at *
  generalize e4 : s1.heap.objs.size + 1 = i2 at *
  generalize e5 : s1.heap.objs.size = i1 at *
  have f0 : ∀ c ∈ [z, TI, TO, i1, i2], FpOk X pins H1 c := fun c hcm => by
    have five : c = z ∨ c = TI ∨ c = TO ∨ c = i1 ∨ c = i2 := by simpa using hcm
    have le : s1.heap.objs.size ≤ c := by
      rw [e5]
      rcases five with q | q | q | q | q <;> rw [q] <;> first | exact Nat.le_refl _ | (subst ez e1 e3 e4; exact Nat.le_add_right _ _)
    exact I1.fpOk le (I1.hok.fresh le)
  have stat : ∀ {H' : Hp}, (∀ c ∈ [z, TI, TO, i1, i2], H' c = none) → ∀ c ∈ [z, TI, TO, i1, i2], FpOk X pins H' c := fun n c hc => ⟨n c hc, (f0 c hc).2⟩
  refine codeAny_forLoop_any (fun n s' => ∃ i T σ' H', Inv X pins σ' H' s' ∧ ZSt z TI TO i1 i2 a b i T s'.heap ∧ (∀ c ∈ [z, TI, TO, i1, i2], H' c = none) ∧ W i T σ' H' ∧ n = xs.length - i) ?_ xs.length
    ⟨0, none, σ, H1, I2, ⟨.inl ⟨rfl, hz⟩, hTI, ⟨_, _, hTO⟩, h1, h2⟩, fun c hc => (f0 c hc).1, w0, by simp⟩
  rintro n s3 ⟨i, T, σ3, H3, I3, st3, fr3, w3, en⟩
  obtain ⟨il, qa3, qb3, al3, step, last⟩ := turn i T σ3 H3 w3
  by_cases hi : i = xs.length
  · subst hi
    refine wpAny_passesOwn hp (thn (zst_done (E := X.xe) hc DD I3 (stat fr3) st3 qa3 qb3 al3) fun r s4 ⟨hr, I4⟩ => ?_)
    subst hr
    exact wpAny_execs_nil ⟨σ3, H3, I4, last rfl⟩
  · have lt : i < xs.length := by omega
    have hx : xs[i]? = some xs[i] := List.getElem?_eq_getElem lt
    have hy : ys[i]? = some (ys[i]'(by omega)) := List.getElem?_eq_getElem (by omega)
    refine wpAny_passesOwn hp (thn (zst_item (E := X.xe) DD I3 (stat fr3) st3 qa3 qb3 al3 hx hy) fun r s4 ⟨t, hr, ht, I5, st5, fr5⟩ => ?_)
    subst hr
    refine wpAny_passesOwn hp (wpAny_pure ?_)
    have I5' := I5.pinned (stat fr5) (zst_obj st5)
    refine wpAny_passesOwn hp (thn (hg.run _ s4 σ3 _ (.ref t) (.ref t) _ I5' rfl (step _ _ t hx hy ht)) fun _ s6 ⟨σ6, H6, I6, q6⟩ => ?_)
    refine wpAny_passesOwn hp (thn (hb.run _ s6 σ6 H6 _ I6 q6) fun f s7 q7 => ?_)
    have again : ∀ {σ7 : L2.St} {H7 : Hp}, Inv X (pins ++ pinsAt [z, TI, TO, i1, i2] s4.heap) σ7 H7 s7 → W (i + 1) (some (T.getD t)) σ7 H7 →
        ∃ m, m < n ∧ ∃ i T σ' H', Inv X pins σ' H' s7 ∧ ZSt z TI TO i1 i2 a b i T s7.heap ∧ (∀ c ∈ [z, TI, TO, i1, i2], H' c = none) ∧ W i T σ' H' ∧ m = xs.length - i := fun {σ7 H7} I7 n7 => by
      refine ⟨xs.length - (i + 1), by omega, i + 1, some (T.getD t), σ7, H7, I7.unpinned, zst_keep st5 fun c hc o e => (I7.pin (c, o) (List.mem_append_right _ (List.mem_append_right _ (mem_pinsAt hc e)))).1, fun c hc => ?_, n7, rfl⟩
      obtain ⟨o, e, d⟩ := zst_obj st5 c hc
      exact (I7.pin (c, o) (List.mem_append_right _ (List.mem_append_right _ (mem_pinsAt hc e)))).2.1
    cases f with
    | next => obtain ⟨σ7, H7, I7, n7⟩ := q7; exact again I7 n7
    | cont => obtain ⟨σ7, H7, I7, n7⟩ := q7; exact again I7 n7
    | brk => obtain ⟨σ7, H7, I7, q7⟩ := q7; exact ⟨σ7, H7, I7.unpinned, q7⟩
    | ret v => obtain ⟨x7, σ7, H7, I7, r7, q7⟩ := q7; exact ⟨x7, σ7, H7, I7.unpinned, r7, q7⟩
end
end Dr

set_option Elab.async false
set_option linter.all false
set_option maxRecDepth 100000
set_option maxHeartbeats 4000000
set_option exponentiation.threshold 3000
/-! The law over draws for families: Draw.__init__. -/
namespace K42
open PySem PySem.Spec PyProof.Rows L2 Vx Vr
def inD (j : Nat) : Stmt := inClass (top 31) j
def Dr.many : Dr → Nat
  | .fin _ => 1
  | .turn _ x y => x.many + y.many
/-- the attributes of a draw beside its word, givers and draws -/
def MM (K : PySem.W.Frag) : Rest := fun d fs H => ∃ (te tp : Addr) (es ps : List Str), fs.lookup ("_ends" : Str) = some (.ref te) ∧ fs.lookup ("_people" : Str) = some (.ref tp) ∧ fs.lookup ("_depth" : Str) = some (.int (d.deep : Nat)) ∧ fs.lookup ("_many" : Str) = some (.int (d.many : Nat)) ∧
  SqT K H te (es.map V.str) ∧ SqT K H tp (ps.map V.str) ∧ es.Nodup ∧ (∀ e ∈ es, Yn e) ∧ ps.length + 1 ≤ 2 ^ d.deep
theorem mon_mm {K : PySem.W.Frag} : MonR (MM K) := fun d fs H H' s ⟨te, tp, es, ps, h1, h2, h3, h4, h5, h6, h7⟩ => ⟨te, tp, es, ps, h1, h2, h3, h4, SqT.ext h5 s, SqT.ext h6 s, h7⟩
theorem two_ends {es : List Str} (nd : es.Nodup) (h : ∀ e ∈ es, Yn e) : es.length ≤ 2 := by
  match es, nd, h with
  | [], _, _ => decide
  | [_], _, _ => exact Nat.le_succ 1
  | [_, _], _, _ => exact Nat.le_refl 2
  | a :: b :: c :: r, nd, h =>
    exfalso
    have ha := h a (by simp)
    have hb := h b (by simp)
    have hc := h c (by simp)
    simp only [List.nodup_cons, List.mem_cons, not_or] at nd
    obtain ⟨⟨ab, ac, _⟩, ⟨bc, _⟩, _⟩ := nd
    rcases ha with rfl | rfl <;> rcases hb with rfl | rfl <;> rcases hc with rfl | rfl <;> contradiction
/-- no class stands in the way of the attributes -/
def Plain (K : PySem.W.Frag) (C : Addr) : Prop := ∀ f ∈ (["_word", "_givers", "_draws", "_ends", "_people", "_depth", "_many"] : List Str), NoAttr K C f
abbrev NDw : List Str := ["self", "word", "givers", "draws", "names", "people", "further", "person", "shares", "stand_in", "draw"]
theorem scDw : FnScope NDw ["self", "word", "givers", "draws"] (defScope (inD 0)) := ⟨rfl, rfl, rfl, by decide +kernel, rfl, by decide +kernel, by decide +kernel⟩
theorem pg_tupK {X : Cx} {es : List Expr} {k n : Nat} {t : TGs} {pos : Pos} (K : PySem.W.Frag) (hK : X.K = K) (hc : X.calm = true) (h : PGs X es t) (hn : (assignEach es X.env).length = n := by rfl) (hst : (assignEach es X.env).findIdx? (·.1) = none := by rfl) : PG X (.Tuple es k pos) (gTup K n t) := by
  subst hK
  exact pg_tup hc h hn hst
theorem pe_fldK {X : Cx} {o : Expr} {f : Str} {ta : TE} {pos : Pos} (K : PySem.W.Frag) (hK : X.K = K) (ha : PE X o ta) (hab : attributeBase o f X.env (eval o X.env) = eval o X.env := by rfl) : PE X (.Attribute o f pos) (tFld K ta f) := by
  subst hK
  exact pe_fld ha hab
def spInitA (K : PySem.W.Frag) (CE CR C : Addr) : Sp := fun vs H Q E => spInitF K CE CR C (MM K) vs H Q E ∨ spInitT K CE CR C (MM K) vs H Q E
theorem rd_max {K : PySem.W.Frag} {H : Hp} {Q : VK} {a : Addr} {ns : List Int} {d : Int} (h : SqL K H a (ns.map V.int)) (k : ∀ m, ((ns = [] ∧ m = d) ∨ (m ∈ ns ∧ ∀ y ∈ ns, y ≤ m)) → Q (.int m) H) : Dr.rMaxDef K [.ref a] [.int d] H Q :=
  ⟨a, ns, d, rfl, rfl, h, fun e => k d (.inl ⟨e, rfl⟩), fun m m1 m2 => k m (.inr ⟨m1, m2⟩)⟩
/-- what is read of a further draw -/
structure Kid where
  at_ : Addr
  deep : Nat
  many : Nat
def KidOk (K : PySem.W.Frag) (H : Hp) (k : Kid) : Prop := ∃ C dx fs, H k.at_ = some (.ins C dx fs) ∧ Cls K C ∧ Plain K C ∧ fs.lookup ("_depth" : Str) = some (.int (k.deep : Nat)) ∧ fs.lookup ("_many" : Str) = some (.int (k.many : Nat))
/-- the greatest depth, -1 for none -/
def Top (ks : List Kid) (m : Int) : Prop := (ks = [] ∧ m = -1) ∨ ((∃ k ∈ ks, m = (k.deep : Nat)) ∧ ∀ k ∈ ks, ((k.deep : Nat) : Int) ≤ m)
def sumMany (ks : List Kid) : Int := if ks = [] then 1 else (ks.map fun k => ((k.many : Nat) : Int)).sum
abbrev fs7 (wd : V) (t dv te tp : Addr) (m q : Int) : List (Str × V) := [("_word", wd), ("_givers", .ref t), ("_draws", .ref dv), ("_ends", .ref te), ("_people", .ref tp), ("_depth", .int (1 + m)), ("_many", .int q)]
theorem sqT_keep {K : PySem.W.Frag} {H H' : Hp} {z t : Addr} {C dz : Addr} {fs : List (Str × V)} {xs : List V} (hz : H z = some (.ins C dz fs)) (k : Keep z H H') (h : SqT K H t xs) : SqT K H' t xs := by
  rcases h with h | h
  · rcases h with h | ⟨o, h⟩
    · exact .inl (.inl (k _ _ (fun e => by rw [e, hz] at h; cases h) h))
    · exact .inl (.inr ⟨o, k _ _ (fun e => by rw [e, hz] at h; cases h) h⟩)
  · exact .inr h
def tRest (K : PySem.W.Frag) : TS := fun D σ H => ∃ (C dz z t dv L L2 : Addr) (wd : V) (v6 v7 v8 v9 v10 : Option V) (ns ps : List Str) (ks : List Kid), σ = [some (.ref z), some wd, some (.ref t), some (.ref dv), some (.ref L), some (.ref L2), v6, v7, v8, v9, v10] ∧ H z = some (.ins C dz []) ∧ Cls K C ∧ Plain K C ∧
  H L = some (.lst (ns.map V.str)) ∧ H L2 = some (.lst (ps.map V.str)) ∧ ns.length < 64 ∧ ps.length < 64 ∧ SqT K H dv (ks.map fun k => .ref k.at_) ∧ (∀ k ∈ ks, KidOk K H k ∧ k.at_ ≠ z) ∧ ks.length ≤ 16 ∧
  ∀ (H' : Hp) (te tp : Addr) (es qs : List Str) (m : Int), Keep z H H' → Top ks m → H' z = some (.ins C dz (fs7 wd t dv te tp m (sumMany ks))) → SqT K H' te (es.map V.str) → SqT K H' tp (qs.map V.str) → es.Nodup → (∀ k, k ∈ es ↔ k ∈ ns) → qs.length ≤ ps.length → D.nx σ H'
section
variable {P : Program} {w : World} {K : PySem.W.Frag} {mg : Str → Option Value} {base : Heap} {CE CR C : Addr}
theorem rest_ok {f : Addr} {cdv : Value} {A : Around} {outer : List Env} {s : Shared} {H : Hp} {E : XK} (T : Bt mg) (U : Bu mg) (hu : (A.deeper (envOfC "Draw.__init__" (defScope (inD 0)) s.heap.objs.size f cdv)).units + 64 < cLine) :
    PSs (cxOf CX0 P w K mg base NDw "Draw.__init__" (defScope (inD 0)) f cdv A outer s H E).nox ((defBody (inD 0)).drop 3) (tRest K) := by
  suffices q : ∃ t, PSs (cxOf CX0 P w K mg base NDw "Draw.__init__" (defScope (inD 0)) f cdv A outer s H E).nox ((defBody (inD 0)).drop 3) t ∧ ∀ D σ H, tRest K D σ H → t D σ H from by
    obtain ⟨t, q1, q2⟩ := q
    exact ⟨fun pins s' σ' H' D I h => q1.run pins s' σ' H' D I (q2 D σ' H' h)⟩
  refine ⟨_, pss_cons (ps_fld (pv 0) (pv 1) rfl)
      (pss_cons (ps_fld (pv 0) (pv 2) rfl)
      (pss_cons (ps_fld (pv 0) (pv 3) rfl)
      (pss_cons (ps_fld (pv 0) (pe_callTy call_tuple_of (by rfl) U.tuple (by decide +kernel) (pa_cons (pe_callB (Sx.cr_sortedX rfl) (by rfl) U.sorted (by decide +kernel) (pa_cons (pe_callTy (Sx.cr_setOfS rfl) (by rfl) U.set (by decide +kernel) (pa_cons (pv 4) pa_nil)) pa_nil)) pa_nil)) rfl)
      (pss_cons (ps_fld (pv 0) (pe_callTy call_tuple_of (by rfl) U.tuple (by decide +kernel) (pa_cons (pe_callB (Sx.cr_sortedX rfl) (by rfl) U.sorted (by decide +kernel) (pa_cons (pe_callTy (Sx.cr_setOfS rfl) (by rfl) U.set (by decide +kernel) (pa_cons (pv 5) pa_nil)) pa_nil)) pa_nil)) rfl)
      (pss_cons (ps_fld (pv 0) (pe_op op_add pe_int (pe_callBK (Dr.cr_maxDef rfl hu) (by rfl) T.max (by decide +kernel) (pa_cons (pe_lc (own := [("draw", 10)]) (g := gName 10) (tt := tYes) rfl scDw.nd (pi_tup (pv 3)) (blkOk_by (N := NDw) (sc := defScope (inD 0)) (by decide +kernel)) (fun _ _ _ _ _ => pg_name (i := 10) scDw.nd rfl (Or.inl rfl)) (fun _ _ _ _ _ => pts_nil) (fun _ _ _ _ _ => pe_fldK K rfl (pv 10))) pa_nil) (pk_cons (pe_un un_neg pe_int) pk_nil))) rfl)
      (pss_one (ps_fld (pv 0) (pe_ifExp (pt_truth (pv 3) (by intro _; rfl)) (pe_callB (cr_sum rfl) (by rfl) T.sum (by decide +kernel) (pa_cons (pe_lc (own := [("draw", 10)]) (g := gName 10) (tt := tYes) rfl scDw.nd (pi_tup (pv 3)) (blkOk_by (N := NDw) (sc := defScope (inD 0)) (by decide +kernel)) (fun _ _ _ _ _ => pg_name (i := 10) scDw.nd rfl (Or.inl rfl)) (fun _ _ _ _ _ => pts_nil) (fun _ _ _ _ _ => pe_fldK K rfl (pv 10))) pa_nil)) pe_int) rfl))))))), ?_⟩
  rintro D σ H0 ⟨C, dz, z, t, dv, L, L2, wd, v6, v7, v8, v9, v10, ns, ps, ks, rfl, hz, cl, pl, hL, hL2, fewN, fewP, hdv, kids, fewK, go⟩
  have big : (1000 : Nat) ≤ sizeLine := by decide
  have bigS : (1000 : Nat) < scanBound := by decide
  have neL : L ≠ z := fun e => by rw [e, hz] at hL; cases hL
  have neL2 : L2 ≠ z := fun e => by rw [e, hz] at hL2; cases hL2
  refine ⟨_, rfl, _, rfl, z, C, dz, [], rfl, hz, cl, pl _ (by simp), by decide, ?_⟩
  refine ⟨_, rfl, _, rfl, z, C, dz, _, rfl, upd_same, cl, pl _ (by simp), by show (1 : Nat) < 1000; decide, ?_⟩
  refine ⟨_, rfl, _, rfl, z, C, dz, _, rfl, upd_same, cl, pl _ (by simp), by show (2 : Nat) < 1000; decide, ?_⟩
  generalize hH1 : upd (upd (upd H0 z _) z _) z _ = H1
  have z1 : H1 z = some (.ins C dz [("_word", wd), ("_givers", .ref t), ("_draws", .ref dv)]) := by
    rw [← hH1, upd_same]
    rfl
  have k1 : Keep z H0 H1 := fun b o n e => by
    rw [← hH1, upd_ne n, upd_ne n, upd_ne n]
    exact e
  clear hH1
  have dv1 : ∀ {H' : Hp}, Keep z H0 H' → SqT K H' dv (ks.map fun k => .ref k.at_) := fun {H'} k => sqT_keep hz k hdv
  have kid1 : ∀ {H' : Hp}, Keep z H0 H' → ∀ k ∈ ks, KidOk K H' k := fun {H'} kp k hk => by
    obtain ⟨⟨C', dx, fs, e, r⟩, n⟩ := kids k hk
    exact ⟨C', dx, fs, kp _ _ n e, r⟩
  -- the ends
  refine ⟨_, rfl, L, ns, rfl, .inl (SqL.of (k1 _ _ neL hL)), by omega, fun a na => ⟨a, _, _, rfl, upd_same, Nat.lt_of_le_of_lt (Sx.met_le _ _) fewN, fun es p _ nd1 mem1 _ np => ⟨p, _, rfl, .inl ⟨SqL.of upd_same, fun te nte => ?_⟩⟩⟩⟩
  have ka := (same_new (o := Sx.SetXO P w a (fun k => decide (k ∈ ns)) (Sx.met ns ns.length)) na).trans ((same_new (o := HO.lst (es.map V.str)) np).trans (same_new (o := HO.tup (es.map V.str)) nte))
  refine ⟨_, rfl, z, C, dz, _, rfl, ka _ _ z1, cl, pl _ (by simp), by show (3 : Nat) < 1000; decide, ?_⟩
  have tez : te ≠ z := fun e => by
    have q := ((same_new (o := Sx.SetXO P w a (fun k => decide (k ∈ ns)) (Sx.met ns ns.length)) na).trans (same_new (o := HO.lst (es.map V.str)) np)) _ _ z1
    exact ne_of_none q nte e.symm
  generalize hH2 : upd (upd (upd (upd H1 a _) p _) te _) z _ = H2
  have z2 : H2 z = some (.ins C dz [("_word", wd), ("_givers", .ref t), ("_draws", .ref dv), ("_ends", .ref te)]) := by
    rw [← hH2, upd_same]
    rfl
  have k2 : Keep z H1 H2 := fun b o n e => by
    rw [← hH2, upd_ne n]
    exact ka _ _ e
  have te2 : H2 te = some (.tup (es.map V.str)) := by
    rw [← hH2, upd_ne tez, upd_same]
  clear hH2
  have k02 := k1.trans k2
  -- the people
  refine ⟨_, rfl, L2, ps, rfl, .inl (SqL.of (k02 _ _ neL2 hL2)), by omega, fun a na => ⟨a, _, _, rfl, upd_same, Nat.lt_of_le_of_lt (Sx.met_le _ _) fewP, fun qs p _ _ _ lq np => ⟨p, _, rfl, .inl ⟨SqL.of upd_same, fun tp ntp => ?_⟩⟩⟩⟩
  have kb := (same_new (o := Sx.SetXO P w a (fun k => decide (k ∈ ps)) (Sx.met ps ps.length)) na).trans ((same_new (o := HO.lst (qs.map V.str)) np).trans (same_new (o := HO.tup (qs.map V.str)) ntp))
  refine ⟨_, rfl, z, C, dz, _, rfl, kb _ _ z2, cl, pl _ (by simp), by show (4 : Nat) < 1000; decide, ?_⟩
  have tpz : tp ≠ z := fun e => by
    have q := ((same_new (o := Sx.SetXO P w a (fun k => decide (k ∈ ps)) (Sx.met ps ps.length)) na).trans (same_new (o := HO.lst (qs.map V.str)) np)) _ _ z2
    exact ne_of_none q ntp e.symm
  generalize hH3 : upd (upd (upd (upd H2 a _) p _) tp _) z _ = H3
  have z3 : H3 z = some (.ins C dz [("_word", wd), ("_givers", .ref t), ("_draws", .ref dv), ("_ends", .ref te), ("_people", .ref tp)]) := by
    rw [← hH3, upd_same]
    rfl
  have k3 : Keep z H2 H3 := fun b o n e => by
    rw [← hH3, upd_ne n]
    exact kb _ _ e
  have tp3 : H3 tp = some (.tup (qs.map V.str)) := by
    rw [← hH3, upd_ne tpz, upd_same]
  clear hH3
  have te3 := k3 _ _ tez te2
  have k03 := k02.trans k3
  have lq' : qs.length ≤ ps.length := by
    rw [lq]
    exact Sx.met_le _ _
  -- the depth
  refine ⟨_, rfl, dv, rfl, ⟨_, dv1 k03⟩, fun Lc nLc => ?_⟩
  refine lc_tup (K := K) (a := dv) (xs := ks.map fun k => .ref k.at_) (fun i H4 => H4 Lc = some (.lst (((ks.take i).map fun k => ((k.deep : Nat) : Int)).map V.int)) ∧ Same H3 H4) ⟨upd_same, same_new nLc⟩ (fun i H4 _ q => SqT.ext (dv1 k03) q.2) ?_ ?_
  · rintro i x H4 hx ⟨e4, s4⟩
    rw [List.getElem?_map] at hx
    obtain ⟨k, hk, rfl⟩ := Option.map_eq_some_iff.mp hx
    obtain ⟨C', dx, fs, ek, ck, pk, dk, mk⟩ := kid1 k03 k (List.mem_of_getElem? hk)
    refine ⟨rfl, iteT (B := True) ⟨_, rfl, k.at_, C', dx, fs, _, rfl, s4 _ _ ek, ck, pk _ (by simp), dk, _, e4, ?_, ?_, fun b o e => by rw [upd_ne (ne_of_none e nLc)]; exact s4 _ _ e⟩⟩
    · rw [List.length_map, List.length_map, List.length_take]
      omega
    · rw [List.take_add_one, hk, List.map_append, List.map_append]
      exact upd_same
  rintro H4 ⟨e4, s4⟩
  rw [List.length_map, List.take_length] at e4
  refine ⟨_, rfl, ?_⟩
  unfold tNil
  show Dr.rMaxDef _ [.ref Lc] [.int (-1)] _ _
  refine rd_max (SqL.of e4) fun m hm => ⟨_, _, rfl, rfl, _, rfl, z, C, dz, _, rfl, s4 _ _ z3, cl, pl _ (by simp), by show (5 : Nat) < 1000; decide, ?_⟩
  generalize hH5 : upd H4 z _ = H5
  have z5 : H5 z = some (.ins C dz [("_word", wd), ("_givers", .ref t), ("_draws", .ref dv), ("_ends", .ref te), ("_people", .ref tp), ("_depth", .int (1 + m))]) := by
    rw [← hH5, upd_same]
    rfl
  have k5 : Keep z H3 H5 := fun b o n e => by
    rw [← hH5, upd_ne n]
    exact s4 _ _ e
  clear hH5
  have k05 := k03.trans k5
  have te5 := k5 _ _ tez te3
  have tp5 := k5 _ _ tpz tp3
  have top : Top ks m := by
    rcases hm with ⟨h1, h2⟩ | ⟨h1, h2⟩
    · exact .inl ⟨List.map_eq_nil_iff.mp h1, h2⟩
    · obtain ⟨k, hk, rfl⟩ := List.mem_map.mp h1
      exact .inr ⟨⟨k, hk, rfl⟩, fun k' hk' => h2 _ (List.mem_map.mpr ⟨k', hk', rfl⟩)⟩
  have fin : ∀ H6, Same H5 H6 → D.nx [some (V.ref z), some wd, some (V.ref t), some (V.ref dv), some (V.ref L), some (V.ref L2), v6, v7, v8, v9, v10] (upd H6 z (.ins C dz (fs7 wd t dv te tp m (sumMany ks)))) := fun H6 s6 =>
    go _ te tp es qs m (fun b o n e => by rw [upd_ne n]; exact s6 _ _ (k05 _ _ n e)) top upd_same (SqT.of (by rw [upd_ne tez]; exact s6 _ _ te5)) (SqT.of (by rw [upd_ne tpz]; exact s6 _ _ tp5)) nd1 (fun k => by rw [mem1 k, decide_eq_true_eq]) lq'
  -- the number of paths
  refine ⟨_, rfl, !(ks.map fun k => V.ref k.at_).isEmpty, .inr (.inl ⟨_, dv1 k05, rfl⟩), ?_⟩
  by_cases hk0 : ks = []
  · subst hk0
    exact iteF ⟨_, rfl, z, C, dz, _, rfl, z5, cl, pl _ (by simp), by show (6 : Nat) < 1000; decide, fin H5 (Same.refl _)⟩
  rw [show (!(ks.map fun k => V.ref k.at_).isEmpty) = true from by cases ks with | nil => exact absurd rfl hk0 | cons a b => rfl]
  refine iteT ⟨_, rfl, dv, rfl, ⟨_, dv1 k05⟩, fun Lm nLm => ?_⟩
  refine lc_tup (K := K) (a := dv) (xs := ks.map fun k => .ref k.at_) (fun i H4 => H4 Lm = some (.lst (((ks.take i).map fun k => ((k.many : Nat) : Int)).map V.int)) ∧ Same H5 H4) ⟨upd_same, same_new nLm⟩ (fun i H4 _ q => SqT.ext (dv1 k05) q.2) ?_ ?_
  · rintro i x H6 hx ⟨e6, s6⟩
    rw [List.getElem?_map] at hx
    obtain ⟨k, hk, rfl⟩ := Option.map_eq_some_iff.mp hx
    obtain ⟨C', dx, fs, ek, ck, pk, dk, mk⟩ := kid1 k05 k (List.mem_of_getElem? hk)
    refine ⟨rfl, iteT (B := True) ⟨_, rfl, k.at_, C', dx, fs, _, rfl, s6 _ _ ek, ck, pk _ (by simp), mk, _, e6, ?_, ?_, fun b o e => by rw [upd_ne (ne_of_none e nLm)]; exact s6 _ _ e⟩⟩
    · rw [List.length_map, List.length_map, List.length_take]
      omega
    · rw [List.take_add_one, hk, List.map_append, List.map_append]
      exact upd_same
  rintro H6 ⟨e6, s6⟩
  rw [List.length_map, List.take_length] at e6
  have sm : sumMany ks = (ks.map fun k => ((k.many : Nat) : Int)).sum := by
    unfold sumMany
    rw [if_neg hk0]
  rw [sm] at fin
  exact ⟨Lm, _, rfl, SqL.of e6, _, rfl, z, C, dz, _, rfl, s6 _ _ z5, cl, pl _ (by simp), by show (6 : Nat) < 1000; decide, fin H6 s6⟩
end
end K42

set_option Elab.async false
set_option linter.all false
set_option maxRecDepth 100000
set_option maxHeartbeats 4000000
set_option exponentiation.threshold 3000
/-! The law over draws for families: Draw.__init__ as a whole. -/
namespace K42
open PySem PySem.Spec PyProof.Rows L2 Vx Vr
theorem isd_at {K : PySem.W.Frag} {CE CR C : Addr} {M : Rest} {H : Hp} {a : Addr} : ∀ {d : Dr}, IsD K CE CR C M H a d → ∃ C' dx fs, (C' = CE ∨ C' = CR) ∧ H a = some (.ins C' dx fs) ∧ fs ≠ [] ∧ M d fs H
  | .fin nm, ⟨dx, fs, g, dr, h1, h2, h3, h4, h5, h6, h7⟩ => ⟨CE, dx, fs, .inl rfl, h1, (fun e => by rw [e] at h2; cases h2), h7⟩
  | .turn who x y, ⟨dx, fs, g, g1, sh, r1, r2, dr, a1, a2, h1, h2, h3, h4, h5, h6, h7, h8, h9, h10, h11, h12, h13⟩ => ⟨CR, dx, fs, .inr rfl, h1, (fun e => by rw [e] at h2; cases h2), h13⟩
theorem mm_keep {K : PySem.W.Frag} {H H' : Hp} {z C dz : Addr} {gs : List (Str × V)} (hz : H z = some (.ins C dz gs)) (k : Keep z H H') {d : Dr} {fs : List (Str × V)} : MM K d fs H → MM K d fs H' := fun ⟨te, tp, es, ps, h1, h2, h3, h4, h5, h6, h7⟩ =>
  ⟨te, tp, es, ps, h1, h2, h3, h4, sqT_keep hz k h5, sqT_keep hz k h6, h7⟩
theorem rt_keep {C C' : Addr} {H H' : Hp} {z dz a : Addr} {n d : Int} (hz : H z = some (.ins C' dz [])) (k : Keep z H H') (h : Rt C H a n d) : Rt C H' a n d := by
  obtain ⟨dx, e⟩ := h
  exact ⟨dx, k _ _ (fun q => by rw [q, hz] at e; cases e) e⟩
theorem isd_keep {K : PySem.W.Frag} {CE CR C C' : Addr} {H H' : Hp} {z dz : Addr} (hz : H z = some (.ins C' dz [])) (k : Keep z H H') : ∀ {d : Dr} {a : Addr}, IsD K CE CR C (MM K) H a d → IsD K CE CR C (MM K) H' a d
  | .fin nm, a, ⟨dx, fs, g, dr, h1, h2, h3, h4, h5, h6, h7⟩ => ⟨dx, fs, g, dr, k _ _ (fun q => by rw [q, hz] at h1; cases h1; cases h2) h1, h2, h3, h4, sqT_keep hz k h5, sqT_keep hz k h6, mm_keep hz k h7⟩
  | .turn who x y, a, ⟨dx, fs, g, g1, sh, r1, r2, dr, a1, a2, h1, h2, h3, h4, h5, h6, h7, h8, h9, h10, h11, h12, h13⟩ =>
    ⟨dx, fs, g, g1, sh, r1, r2, dr, a1, a2, k _ _ (fun q => by rw [q, hz] at h1; cases h1; cases h2) h1, h2, h3, h4, sqT_keep hz k h5, sqT_keep hz k h6, sqT_keep hz k h7, rt_keep hz k h8, rt_keep hz k h9, sqT_keep hz k h10, isd_keep hz k h11, isd_keep hz k h12, mm_keep hz k h13⟩
section
variable {P : Program} {w : World} {K : PySem.W.Frag} {mg : Str → Option Value} {base : Heap} {CE CR C : Addr}
theorem ok_made {f : Addr} {fd : FuncData} (F : L2.Fun K "__init__" "Draw.__init__" (inD 0) f fd) (T : Bt mg) (U : Bu mg) (D : Dk P w K mg base CE CR) (pE : Plain K CE) (pR : Plain K CR) : FnOk P w K mg base CX0 8 f fd ["self", "word", "givers", "draws"] (spInitA K CE CR C) := by
  refine F.ok scDw (fun vs H Q E h => ?_) (fun cdv A outer s H vs Q E hr h => ?_)
  · rcases h with h | h
    · obtain ⟨z, dz, t, dv, nm, rfl, _⟩ := h
      rfl
    · obtain ⟨z, dz, t, t1, t2, r1, r2, dv, a, b, p, x, y, rfl, _⟩ := h
      rfl
  · have hu := hr.units
    refine ⟨_, pss_cons (ps_set (i := 4) scDw.nd rfl (.inl rfl) (pe_ifExp (pt_truth (pv 3) (by intro _; rfl)) (pe_lst pa_nil) (pe_lst (pa_cons (pv 1) pa_nil))))
      (pss_cons (ps_setLc (i := 5) (own := [("person", 7), ("shares", 8), ("stand_in", 9)]) (g := gTup K 3 (gCons (gName 7) (gCons (gName 8) (gCons (gName 9) gNil)))) (tt := tYes) rfl scDw.nd rfl rfl (sw_true rfl rfl rfl (by decide +kernel)) (pi_tup (pv 2)) (blkOk_by (N := NDw) (sc := defScope (inD 0)) (by decide +kernel))
          (fun _ _ _ _ _ => pg_tupK K rfl (by rfl) (pgs_cons (pg_name (i := 7) scDw.nd rfl (.inl rfl)) (pgs_cons (pg_name (i := 8) scDw.nd rfl (.inl rfl)) (pgs_cons (pg_name (i := 9) scDw.nd rfl (.inl rfl)) pgs_nil)))) (fun _ _ _ _ _ => pts_nil) (fun _ _ _ _ _ => pv 7))
      (pss_cons (ps_for PassesOwn.never rfl (pi_tup (pv 3)) (pg_name (i := 6) scDw.nd rfl (.inl rfl))
        (pss_cons (ps_expr (pe_bm PySem.F.plainAttrs_list PySem.F.slot_list_extend PySem.F.type_list_extend Dr.mt_extT (pv 4) (pa_cons (pe_fldK K rfl (pv 6)) pa_nil)))
        (pss_one (ps_expr (pe_bm PySem.F.plainAttrs_list PySem.F.slot_list_extend PySem.F.type_list_extend Dr.mt_extT (pv 5) (pa_cons (pe_fldK K rfl (pv 6)) pa_nil))))))
      (rest_ok T U hu))), ?_⟩
    have big : (1000 : Nat) ≤ sizeLine := by decide
    rcases h with h | h
    · obtain ⟨z, dz, t, dv, nm, rfl, hz, ht, hdv, yn, go⟩ := h
      refine ⟨_, rfl, false, .inr (.inl ⟨_, hdv, rfl⟩), iteF ⟨_, rfl, by show 1 ≤ sizeLine; omega, fun L nL => ?_⟩⟩
      have s1 : Same H (upd H L (.lst [.str nm])) := same_new nL
      have eL : (upd H L (.lst [.str nm])) L = some (.lst [.str nm]) := upd_same
      generalize upd H L (.lst [.str nm]) = H1 at s1 eL ⊢
      refine ⟨_, rfl, t, rfl, ⟨_, SqT.ext ht s1⟩, fun L2 nL2 => ?_⟩
      refine lc_tup (K := K) (a := t) (xs := []) (fun i H2 => H2 L2 = some (.lst []) ∧ Same H1 H2) ⟨upd_same, same_new nL2⟩ (fun i H2 _ q => SqT.ext ht (s1.trans q.2)) (fun i x H2 hx _ => by simp at hx) ?_
      rintro H2 ⟨e2, s2⟩
      have s12 := s1.trans s2
      refine ⟨_, rfl, dv, rfl, ⟨_, SqT.ext hdv s12⟩, for_tup (K := K) (a := dv) (xs := []) (fun i σ H3 => H3 = H2 ∧ ∃ v6 v7 v8 v9 v10, σ = [some (.ref z), some (.str nm), some (.ref t), some (.ref dv), some (.ref L), some (.ref L2), v6, v7, v8, v9, v10])
        ⟨rfl, _, _, _, _, _, rfl⟩ (fun i σ H3 _ h => by rw [h.1]; exact SqT.ext hdv s12) (fun i x σ H3 hx _ => by simp at hx) ?_⟩
      rintro σ H3 ⟨rfl, v6, v7, v8, v9, v10, rfl⟩
      refine ⟨CE, dz, z, t, dv, L, L2, .str nm, v6, v7, v8, v9, v10, [nm], [], [], rfl, s12 _ _ hz, D.ownE.cls, pE, s2 _ _ eL, e2, by show 1 < 64; decide, by show 0 < 64; decide, SqT.ext hdv s12, (fun k hk => nomatch hk), Nat.zero_le _, fun H' te tp es qs m kp top e hte htp nd mem lq => ?_⟩
      have k0 : Keep z H H' := fun c o n q => kp c o n (s12 _ _ q)
      have m1 : m = -1 := by
        rcases top with ⟨_, h⟩ | ⟨⟨k, hk, _⟩, _⟩
        · exact h
        · cases hk
      subst m1
      refine go H' k0 ⟨dz, _, t, dv, e, rfl, rfl, rfl, sqT_keep hz k0 ht, sqT_keep hz k0 hdv, te, tp, es, qs, rfl, rfl, rfl, rfl, hte, htp, nd, fun x hx => ?_, ?_⟩
      · obtain rfl : x = nm := by simpa using (mem x).mp hx
        exact yn
      · show qs.length + 1 ≤ 2 ^ 0
        have : qs.length ≤ 0 := lq
        omega
    · obtain ⟨z, dz, t, t1, t2, r1, r2, dv, a, b, p, x, y, rfl, hz, ht, ht1, ht2, q1, q2, np, hdv, i1, i2, l1, l2, go⟩ := h
      refine ⟨_, rfl, true, .inr (.inl ⟨_, hdv, rfl⟩), iteT ⟨by show 0 ≤ sizeLine; omega, fun L nL => ?_⟩⟩
      have s1 : Same H (upd H L (.lst [])) := same_new nL
      have eL : (upd H L (.lst [])) L = some (.lst []) := upd_same
      show tSeq _ _ _ _ (upd H L (.lst []))
      generalize upd H L (.lst []) = H1 at s1 eL ⊢
      refine ⟨_, rfl, t, rfl, ⟨_, SqT.ext ht s1⟩, fun L2 nL2 => ?_⟩
      refine lc_tup (K := K) (a := t) (xs := [.ref t1]) (fun i H2 => H2 L2 = some (.lst ((List.replicate i p).map V.str)) ∧ Same H1 H2) ⟨upd_same, same_new nL2⟩ (fun i H2 _ q => SqT.ext ht (s1.trans q.2)) ?_ ?_
      · rintro i q H2 hq ⟨e2, s2⟩
        have hi : i < 1 := (List.getElem?_eq_some_iff.mp hq).1
        obtain rfl : i = 0 := by omega
        obtain rfl : q = .ref t1 := by simpa using hq.symm
        refine ⟨t1, _, rfl, SqT.ext ht1 (s1.trans s2), rfl, _, _, rfl, _, _, rfl, _, _, rfl, rfl, rfl, iteT (B := True) ⟨_, rfl, _, e2, by show 0 < sizeLine; omega, upd_same, fun b o e => by rw [upd_ne (ne_of_none e nL2)]; exact s2 _ _ e⟩⟩
      rintro H2 ⟨e2, s2⟩
      have s12 := s1.trans s2
      have eL2 := s2 _ _ eL
      obtain ⟨Ca, da, fa, ca, ea, fa0, tea, tpa, esa, psa, a1, a2, a3, a4, a5, a6, a7, a8, a9⟩ := isd_at i1
      obtain ⟨Cb, db, fb, cb, eb, fb0, teb, tpb, esb, psb, b1, b2, b3, b4, b5, b6, b7, b8, b9⟩ := isd_at i2
      have clA : Cls K Ca ∧ Plain K Ca := by
        rcases ca with rfl | rfl
        · exact ⟨D.ownE.cls, pE⟩
        · exact ⟨D.ownR.cls, pR⟩
      have clB : Cls K Cb ∧ Plain K Cb := by
        rcases cb with rfl | rfl
        · exact ⟨D.ownE.cls, pE⟩
        · exact ⟨D.ownR.cls, pR⟩
      have pa : psa.length < 32 := by
        have : 2 ^ x.deep ≤ 2 ^ 5 := Nat.pow_le_pow_right (by decide) (by omega)
        omega
      have pb : psb.length < 32 := by
        have : 2 ^ y.deep ≤ 2 ^ 5 := Nat.pow_le_pow_right (by decide) (by omega)
        omega
      have na := two_ends a7 a8
      have nb := two_ends b7 b8
      have neLL : L ≠ L2 := ne_of_none eL nL2
      have nL2H : H L2 = none := by
        cases e : H L2 with
        | none => rfl
        | some o =>
          rw [s1 _ _ e] at nL2
          cases nL2
      refine ⟨_, rfl, dv, rfl, ⟨_, SqT.ext hdv s12⟩, for_tup (K := K) (a := dv) (xs := [.ref a, .ref b]) (fun i σ H3 => ∃ ns ps v6 v7 v8 v9 v10, σ = [some (.ref z), some (.str "open"), some (.ref t), some (.ref dv), some (.ref L), some (.ref L2), v6, v7, v8, v9, v10] ∧
          H3 L = some (.lst (ns.map V.str)) ∧ H3 L2 = some (.lst (ps.map V.str)) ∧ Same H H3 ∧ ((i = 0 ∧ ns = [] ∧ ps = [p]) ∨ (i = 1 ∧ ns = esa ∧ ps = p :: psa) ∨ (i = 2 ∧ ns = esa ++ esb ∧ ps = p :: (psa ++ psb))))
        ⟨[], [p], _, _, _, _, _, rfl, eL2, e2, s12, .inl ⟨rfl, rfl, rfl⟩⟩ (fun i σ H3 _ h => ?_) ?_ ?_⟩
      · obtain ⟨ns, ps, _, _, _, _, _, _, h1, h2, h3, _⟩ := h
        exact SqT.ext hdv h3
      · rintro i q σ H3 hq ⟨ns, ps, v6, v7, v8, v9, v10, rfl, h1, h2, h3, w⟩
        have i2' : i < 2 := (List.getElem?_eq_some_iff.mp hq).1
        obtain ⟨c, C', dc, fc, te, tp, es, qs, rfl, ec, cl, pl, le, lp, qe, qp, k1, k2, nxt⟩ : ∃ (c C' dc : Addr) (fc : List (Str × V)) (te tp : Addr) (es qs : List Str), q = .ref c ∧ H c = some (.ins C' dc fc) ∧ Cls K C' ∧ Plain K C' ∧ fc.lookup ("_ends" : Str) = some (.ref te) ∧ fc.lookup ("_people" : Str) = some (.ref tp) ∧ SqT K H te (es.map V.str) ∧ SqT K H tp (qs.map V.str) ∧
            ns.length + es.length ≤ 100 ∧ ps.length + qs.length ≤ 100 ∧ ((i + 1 = 0 ∧ ns ++ es = [] ∧ ps ++ qs = [p]) ∨ (i + 1 = 1 ∧ ns ++ es = esa ∧ ps ++ qs = p :: psa) ∨ (i + 1 = 2 ∧ ns ++ es = esa ++ esb ∧ ps ++ qs = p :: (psa ++ psb))) := by
          rcases w with ⟨rfl, rfl, rfl⟩ | ⟨rfl, rfl, rfl⟩ | ⟨rfl, _⟩
          · refine ⟨a, Ca, da, fa, tea, tpa, esa, psa, by simpa using hq.symm, ea, clA.1, clA.2, a1, a2, a5, a6, ?_, ?_, .inr (.inl ⟨rfl, rfl, rfl⟩)⟩
            · simp only [List.length_nil]
              omega
            · simp only [List.length_cons, List.length_nil]
              omega
          · refine ⟨b, Cb, db, fb, teb, tpb, esb, psb, by simpa using hq.symm, eb, clB.1, clB.2, b1, b2, b5, b6, by omega, ?_, .inr (.inr ⟨rfl, rfl, rfl⟩)⟩
            simp only [List.length_cons]
            omega
          · omega
        refine ⟨_, rfl, .inl ⟨rfl, _, SqL.of h1⟩, _, rfl, c, C', dc, fc, _, rfl, h3 _ _ ec, cl, pl _ (by simp), le, L, te, _, _, rfl, rfl, h1, SqT.ext qe h3, by rw [List.length_map, List.length_map]; omega, ?_⟩
        rw [← List.map_append]
        have h3' : Same H (upd H3 L (.lst ((ns ++ es).map V.str))) := fun c o e => by
          rw [upd_ne (ne_of_none e nL)]
          exact h3 _ _ e
        have h2' : (upd H3 L (.lst ((ns ++ es).map V.str))) L2 = some (.lst (ps.map V.str)) := by
          rw [upd_ne (Ne.symm neLL)]
          exact h2
        have h1' : (upd H3 L (.lst ((ns ++ es).map V.str))) L = some (.lst ((ns ++ es).map V.str)) := upd_same
        generalize upd H3 L (.lst ((ns ++ es).map V.str)) = H4 at h1' h2' h3' ⊢
        refine ⟨_, rfl, .inl ⟨rfl, _, SqL.of h2'⟩, _, rfl, c, C', dc, fc, _, rfl, h3' _ _ ec, cl, pl _ (by simp), lp, L2, tp, _, _, rfl, rfl, h2', SqT.ext qp h3', by rw [List.length_map, List.length_map]; omega, ?_⟩
        rw [← List.map_append]
        exact ⟨ns ++ es, ps ++ qs, _, _, _, _, _, rfl, by rw [upd_ne neLL]; exact h1', upd_same, fun c o e => by rw [upd_ne (ne_of_none e nL2H)]; exact h3' _ _ e, nxt⟩
      · rintro σ H3 ⟨ns, ps, v6, v7, v8, v9, v10, rfl, h1, h2, h3, w⟩
        obtain ⟨rfl, rfl⟩ : ns = esa ++ esb ∧ ps = p :: (psa ++ psb) := by
          rcases w with ⟨h, _⟩ | ⟨h, _⟩ | ⟨_, h⟩
          · cases h
          · cases h
          · exact h
        have hz3 := h3 _ _ hz
        have kid : ∀ {c C' dc : Addr} {fc : List (Str × V)} {dd mm : Nat}, H c = some (.ins C' dc fc) → fc ≠ [] → Cls K C' → Plain K C' → fc.lookup ("_depth" : Str) = some (.int dd) → fc.lookup ("_many" : Str) = some (.int mm) → KidOk K H3 ⟨c, dd, mm⟩ ∧ c ≠ z := fun {c C' dc fc dd mm} e e0 cl pl h4 h5 =>
          ⟨⟨C', dc, fc, h3 _ _ e, cl, pl, h4, h5⟩, fun q => by rw [q, hz] at e; cases e; exact e0 rfl⟩
        refine ⟨CR, dz, z, t, dv, L, L2, .str "open", v6, v7, v8, v9, v10, esa ++ esb, p :: (psa ++ psb), [⟨a, x.deep, x.many⟩, ⟨b, y.deep, y.many⟩], rfl, hz3, D.ownR.cls, pR, h1, h2, ?_, ?_, SqT.ext hdv h3, ?_, by show 2 ≤ 16; decide, fun H' te tp es qs m kp top e hte htp nd mem lq => ?_⟩
        · rw [List.length_append]
          omega
        · rw [List.length_cons, List.length_append]
          omega
        · intro k hk
          simp only [List.mem_cons, List.not_mem_nil, or_false] at hk
          rcases hk with rfl | rfl
          · exact kid ea fa0 clA.1 clA.2 a3 a4
          · exact kid eb fb0 clB.1 clB.2 b3 b4
        · have k0 : Keep z H H' := fun c o n q => kp c o n (h3 _ _ q)
          have m1 : 1 + m = (((Dr.turn p x y).deep : Nat) : Int) := by
            rcases top with ⟨h, _⟩ | ⟨⟨k, hk, rfl⟩, le⟩
            · cases h
            · have la := le ⟨a, x.deep, x.many⟩ (by simp)
              have lb := le ⟨b, y.deep, y.many⟩ (by simp)
              simp only [List.mem_cons, List.not_mem_nil, or_false] at hk
              show _ = ((max x.deep y.deep + 1 : Nat) : Int)
              rcases hk with rfl | rfl
              · simp only at la lb ⊢
                omega
              · simp only at la lb ⊢
                omega
          have m2 : sumMany [⟨a, x.deep, x.many⟩, ⟨b, y.deep, y.many⟩] = (((Dr.turn p x y).many : Nat) : Int) := by
            show ((x.many : Nat) : Int) + (((y.many : Nat) : Int) + 0) = ((x.many + y.many : Nat) : Int)
            omega
          unfold fs7 at e
          rw [m1, m2] at e
          refine go H' k0 ⟨dz, _, t, t1, t2, r1, r2, dv, a, b, e, rfl, rfl, rfl, sqT_keep hz k0 ht, sqT_keep hz k0 ht1, sqT_keep hz k0 ht2, rt_keep hz k0 q1, rt_keep hz k0 q2, sqT_keep hz k0 hdv, isd_keep hz k0 i1, isd_keep hz k0 i2, te, tp, es, qs, rfl, rfl, rfl, rfl, hte, htp, nd, fun x hx => ?_, ?_⟩
          · rcases List.mem_append.mp ((mem x).mp hx) with h | h
            · exact a8 _ h
            · exact b8 _ h
          · rw [List.length_cons, List.length_append] at lq
            show qs.length + 1 ≤ 2 ^ (max x.deep y.deep + 1)
            have p1 : 2 ^ x.deep ≤ 2 ^ (max x.deep y.deep) := Nat.pow_le_pow_right (by decide) (Nat.le_max_left _ _)
            have p2 : 2 ^ y.deep ≤ 2 ^ (max x.deep y.deep) := Nat.pow_le_pow_right (by decide) (Nat.le_max_right _ _)
            rw [Nat.pow_succ]
            omega
end
end K42

set_option Elab.async false
set_option linter.all false
set_option maxRecDepth 100000
set_option maxHeartbeats 4000000
/-! Own layer, part E4: tuples compared, where what is known is known by their items alone. -/
namespace Se
open PySem PySem.Spec PyProof.Rows L2 Vx Vr
section
variable {X : Cx} {n : Nat} {D : Ans}
/-- two tuples; with the same items they are equal -/
def ATu (K : PySem.W.Frag) (D : Ans) : Ans := fun x y r H => ∃ a b xs ys, x = .ref a ∧ y = .ref b ∧ SqT K H a xs ∧ SqT K H b ys ∧ Its D H xs ys r ∧ (xs = ys → r = true)
theorem mon_atu {K : PySem.W.Frag} (mo : MonA D) : MonA (ATu K D) := fun x y r H H' e ⟨a, b, xs, ys, hx, hy, h1, h2, p, c⟩ => ⟨a, b, xs, ys, hx, hy, h1.ext e, h2.ext e, p.mon mo e, c⟩
theorem eqB_tu (mo : MonA D) (h : EqB X n D) : EqB X (n + 1) (ATu X.K D) := fun A pins s σ H x y u v r sb I rx ry ⟨a, b, xs, ys, ex, ey, ha, hb, p, c⟩ =>
  eqB_tup mo h A pins s σ H x y u v r sb I rx ry ⟨a, b, xs, ys, ex, ey, ha, hb, p, fun e => c (I.tuple_inj (by rw [e] at ha; exact ha) hb)⟩
/-- two tuples, by their items alone -/
def AT0 (K : PySem.W.Frag) (D : Ans) : Ans := fun x y r H => ∃ a b xs ys, x = .ref a ∧ y = .ref b ∧ SqT K H a xs ∧ SqT K H b ys ∧ Its D H xs ys r
theorem rcB_t0_ne (mo : MonA D) (h : EqB X n D) : RcB X (n + 1) .NotEq not (AT0 X.K D) := by
  intro A pins s σ H x y u v r sb I rx ry ⟨a, b, xs, ys, ex, ey, ha, hb, p⟩
  subst ex ey
  cases rx
  cases ry
  obtain ⟨its, v1, e1, z1⟩ := I.tuple ha
  obtain ⟨its2, v2, e2, z2⟩ := I.tuple hb
  refine rc_tup_ne sb.room.units0 (fun i s' => LoopI X pins σ H s' ∧ Its D H (xs.drop i) (ys.drop i) r) e1 e2 (fun i h1 h2 s' q => wpAny_mono (turn_any mo h sb v1 v2 h1 h2 q.1 q.2) (fun t s2 z => ?_) fun _ _ x => x) (fun s' q => ⟨?_, q.1⟩) ⟨⟨H, I, Ext.rfl'⟩, p⟩
  · exact z.imp id fun ⟨z1, z2, z3⟩ => ⟨z1, by rw [z3]; rfl, z2⟩
  · have w := Its.end_ _ (by rw [v1.length, v2.length, List.size_toArray, List.size_toArray]) q.2
    rw [w, v1.length, v2.length, List.size_toArray, List.size_toArray] <;> rfl
end
end Se

set_option Elab.async false
set_option linter.all false
set_option maxRecDepth 100000
set_option maxHeartbeats 4000000
set_option exponentiation.threshold 3000
/-! The law over draws for families: _are_alike. -/
namespace K42
open PySem PySem.Spec PyProof.Rows L2 Vx Vr
def Dr.size : Dr → Nat
  | .fin _ => 1
  | .turn _ x y => x.size + y.size + 1
theorem Dr.size_pos : ∀ d : Dr, 0 < d.size
  | .fin _ => Nat.one_pos
  | .turn _ _ _ => Nat.succ_pos _
theorem Dr.size_le : ∀ d : Dr, d.size + 1 ≤ 2 ^ (d.deep + 1)
  | .fin _ => Nat.le_refl 2
  | .turn _ x y => by
    have hx := x.size_le
    have hy := y.size_le
    show x.size + y.size + 1 + 1 ≤ 2 ^ (max x.deep y.deep + 1 + 1)
    have p1 : 2 ^ (x.deep + 1) ≤ 2 ^ (max x.deep y.deep + 1) := Nat.pow_le_pow_right (by decide) (by omega)
    have p2 : 2 ^ (y.deep + 1) ≤ 2 ^ (max x.deep y.deep + 1) := Nat.pow_le_pow_right (by decide) (by omega)
    rw [Nat.pow_succ 2 (max x.deep y.deep + 1)]
    omega
/-- what the givers are compared by -/
abbrev D1 (K : PySem.W.Frag) (C : Addr) : Se.Ans := fun x y r H => Se.AFlat x y r H ∨ Se.ATup K (Se.AIns C (RR C)) x y r H
theorem mon_D1 {K : PySem.W.Frag} {C : Addr} : Se.MonA (D1 K C) := Se.MonA.or Se.mon_aflat (Se.mon_atup mon_RR)
theorem eqB_D1 {X : Cx} {C : Addr} (EQ : Mth X.prog X.w X.K X.mg X.base C "__eq__" 3 ["self", "other"] (spEq X.K C)) : Se.EqB X 4 (D1 X.K C) := Se.EqB.or (Se.eqB_flat.mono (by decide)) (Se.eqB_tup mon_RR (eqB_RR EQ))
theorem ne_givers {X : Cx} {C : Addr} (EQ : Mth X.prog X.w X.K X.mg X.base C "__eq__" 3 ["self", "other"] (spEq X.K C)) (hr : Room 6 X.A) : OpR X (compareOp .NotEq) (Se.rB (Se.AT0 X.K (Se.ATu X.K (D1 X.K C))) not) :=
  Se.op_any (Se.rcB_t0_ne (Se.mon_atu mon_D1) (Se.eqB_tu mon_D1 (eqB_D1 EQ))) hr
theorem eqV_str {p q : Str} : eqV (.str p) (.str q) = decide (p = q) := by
  rw [Bool.eq_iff_iff, decide_eq_true_eq]
  simp [eqV]
/-- the givers of two turns -/
theorem giv_two {K : PySem.W.Frag} {C : Addr} {H : Hp} {g g' g1 g1' sh sh' r1 r2 r1' r2' : Addr} {p q : Str} (a1 : SqT K H g [.ref g1]) (a2 : SqT K H g1 [.str p, .ref sh, .int 0]) (a3 : SqT K H sh [.ref r1, .ref r2]) (t1 : Rt C H r1 1 2) (t2 : Rt C H r2 1 2)
    (b1 : SqT K H g' [.ref g1']) (b2 : SqT K H g1' [.str q, .ref sh', .int 0]) (b3 : SqT K H sh' [.ref r1', .ref r2']) (u1 : Rt C H r1' 1 2) (u2 : Rt C H r2' 1 2) : Se.AT0 K (Se.ATu K (D1 K C)) (.ref g) (.ref g') (decide (p = q)) H := by
  have pair : ∀ {u v : Addr}, Rt C H u 1 2 → Rt C H v 1 2 → Se.AIns C (RR C) (.ref u) (.ref v) true H := fun {u v} ⟨du, hu⟩ ⟨dv, hv⟩ => ⟨u, v, du, dv, _, _, rfl, rfl, hu, hv, ⟨1, 2, 1, 2, ⟨du, hu⟩, ⟨dv, hv⟩, rfl⟩, fun _ => rfl⟩
  have shares : D1 K C (.ref sh) (.ref sh') true H := .inr ⟨sh, sh', _, _, rfl, rfl, a3, b3, .inl ⟨pair t1 u1, .inl ⟨pair t2 u2, rfl⟩⟩, fun _ => rfl⟩
  refine ⟨g, g', _, _, rfl, rfl, a1, b1, ?_⟩
  have inner : ∀ r, r = decide (p = q) → Se.ATu K (D1 K C) (.ref g1) (.ref g1') r H := fun r er => by
    refine ⟨g1, g1', _, _, rfl, rfl, a2, b2, ?_, fun e => ?_⟩
    · by_cases h : p = q
      · rw [decide_eq_true h] at er
        subst er
        exact .inl ⟨.inl ⟨rfl, rfl, by rw [eqV_str]; exact decide_eq_true h⟩, .inl ⟨shares, .inl ⟨.inl ⟨rfl, rfl, rfl⟩, rfl⟩⟩⟩
      · rw [decide_eq_false h] at er
        subst er
        exact .inr ⟨.inl ⟨rfl, rfl, by rw [eqV_str]; exact decide_eq_false h⟩, rfl⟩
    · have h : p = q := by
        have e1 := (List.cons.inj e).1
        exact V.str.inj e1
      rw [er]
      exact decide_eq_true h
  by_cases h : p = q
  · rw [decide_eq_true h]
    exact .inl ⟨inner true (decide_eq_true h).symm, rfl⟩
  · rw [decide_eq_false h]
    exact .inr ⟨inner false (decide_eq_false h).symm, rfl⟩
/-- the pairs that are still to be compared -/
structure Duo where
  at_ : Addr
  a : Addr
  b : Addr
  x : Dr
  y : Dr
/-- the pair stands in H, its draws have stood in H0 -/
def DuoOk (K : PySem.W.Frag) (CE CR C : Addr) (H0 H : Hp) (q : Duo) : Prop := H q.at_ = some (.tup [.ref q.a, .ref q.b]) ∧ IsD K CE CR C (MM K) H0 q.a q.x ∧ IsD K CE CR C (MM K) H0 q.b q.y
/-- what is read of a draw -/
structure Look (K : PySem.W.Frag) (CE CR C : Addr) (H : Hp) (a : Addr) (C' dx g dr : Addr) (fs : List (Str × V)) (wd : Str) : Prop where
  cls : C' = CE ∨ C' = CR
  at_ : H a = some (.ins C' dx fs)
  word : fs.lookup ("_word" : Str) = some (.str wd)
  giv : fs.lookup ("_givers" : Str) = some (.ref g)
  drs : fs.lookup ("_draws" : Str) = some (.ref dr)
theorem look_fin {K : PySem.W.Frag} {CE CR C : Addr} {M : Rest} {H : Hp} {a : Addr} {nm : Str} : IsD K CE CR C M H a (.fin nm) → ∃ C' dx g dr fs, Look K CE CR C H a C' dx g dr fs nm ∧ SqT K H g [] ∧ SqT K H dr [] := fun ⟨dx, fs, g, dr, h1, h2, h3, h4, h5, h6, h7⟩ =>
  ⟨CE, dx, g, dr, fs, ⟨.inl rfl, h1, h2, h3, h4⟩, h5, h6⟩
theorem look_turn {K : PySem.W.Frag} {CE CR C : Addr} {M : Rest} {H : Hp} {a : Addr} {p : Str} {x y : Dr} : IsD K CE CR C M H a (.turn p x y) → ∃ C' dx g dr fs g1 sh r1 r2 a1 a2, Look K CE CR C H a C' dx g dr fs "open" ∧ SqT K H g [.ref g1] ∧ SqT K H g1 [.str p, .ref sh, .int 0] ∧ SqT K H sh [.ref r1, .ref r2] ∧ Rt C H r1 1 2 ∧ Rt C H r2 1 2 ∧
    SqT K H dr [.ref a1, .ref a2] ∧ IsD K CE CR C M H a1 x ∧ IsD K CE CR C M H a2 y := fun ⟨dx, fs, g, g1, sh, r1, r2, dr, a1, a2, h1, h2, h3, h4, h5, h6, h7, h8, h9, h10, h11, h12, h13⟩ =>
  ⟨CR, dx, g, dr, fs, g1, sh, r1, r2, a1, a2, ⟨.inr rfl, h1, h2, h3, h4⟩, h5, h6, h7, h8, h9, h10, h11, h12⟩
def Dr.word : Dr → Str
  | .fin nm => nm
  | .turn _ _ _ => "open"
theorem look_any {K : PySem.W.Frag} {CE CR C : Addr} {M : Rest} {H : Hp} {a : Addr} : ∀ {d : Dr}, IsD K CE CR C M H a d → ∃ C' dx g dr fs, Look K CE CR C H a C' dx g dr fs d.word
  | .fin nm, h => let ⟨C', dx, g, dr, fs, l, _⟩ := look_fin h; ⟨C', dx, g, dr, fs, l⟩
  | .turn p x y, h => let ⟨C', dx, g, dr, fs, _, _, _, _, _, _, l, _⟩ := look_turn h; ⟨C', dx, g, dr, fs, l⟩
theorem Look.same {K : PySem.W.Frag} {CE CR C : Addr} {H : Hp} {a C1 dx g dr C2 dy g2 dr2 : Addr} {fs gs : List (Str × V)} {w1 w2 : Str} (l : Look K CE CR C H a C1 dx g dr fs w1) (l2 : Look K CE CR C H a C2 dy g2 dr2 gs w2) : g = g2 ∧ dr = dr2 := by
  have e := l.at_.symm.trans l2.at_
  injection e with e
  injection e with e1 e2 e3
  subst e3
  have h1 := l.giv.symm.trans l2.giv
  have h2 := l.drs.symm.trans l2.drs
  injection h1 with h1
  injection h2 with h2
  injection h1 with h1
  injection h2 with h2
  exact ⟨h1, h2⟩
def sizes (qs : List Duo) : Nat := (qs.map fun q => q.x.size).sum
theorem sizes_snoc (qs : List Duo) (q : Duo) : sizes (qs ++ [q]) = sizes qs + q.x.size := by
  unfold sizes
  rw [List.map_append, List.sum_append]
  simp
theorem len_sizes (qs : List Duo) : qs.length ≤ sizes qs := by
  induction qs with
  | nil => exact Nat.le_refl _
  | cons q r ih =>
    have := q.x.size_pos
    unfold sizes at ih ⊢
    rw [List.map_cons, List.sum_cons, List.length_cons]
    omega
/-- all pairs are alike -/
def Alike (qs : List Duo) : Prop := ∀ q ∈ qs, q.x = q.y
theorem sizes_app (qs rs : List Duo) : sizes (qs ++ rs) = sizes qs + sizes rs := by
  unfold sizes
  rw [List.map_append, List.sum_append]
theorem put_at : ∀ (ts : List Addr) (ks : List Duo), ts.length = ks.length → ∃ js : List Duo, js.map (fun q => V.ref q.at_) = ts.map V.ref ∧ sizes js = sizes ks ∧ (Alike js ↔ Alike ks) ∧ ∀ (j : Nat) (q : Duo), js[j]? = some q → ∃ (k : Duo) (t : Addr), ks[j]? = some k ∧ ts[j]? = some t ∧ q = ⟨t, k.a, k.b, k.x, k.y⟩
  | [], [], _ => ⟨[], rfl, rfl, Iff.rfl, fun j q h => by simp at h⟩
  | t :: ts, k :: ks, e => by
    obtain ⟨js, h1, h2, h3, h4⟩ := put_at ts ks (by simpa using e)
    refine ⟨⟨t, k.a, k.b, k.x, k.y⟩ :: js, by rw [List.map_cons, List.map_cons, h1], ?_, ?_, ?_⟩
    · unfold sizes at h2 ⊢
      rw [List.map_cons, List.map_cons, List.sum_cons, List.sum_cons, h2]
    · unfold Alike at h3 ⊢
      simp only [List.mem_cons, forall_eq_or_imp]
      rw [h3]
    · intro j q h
      cases j with
      | zero => exact ⟨k, t, rfl, rfl, by simpa using h.symm⟩
      | succ j => exact h4 j q (by simpa using h)
  | [], k :: ks, e => by simp at e
  | t :: ts, [], e => by simp at e
abbrev NAl : List Str := ["one", "other", "pairs", "left", "right", "pair"]
theorem scAl : FnScope NAl ["one", "other"] (defScope (top 39)) := ⟨rfl, rfl, rfl, by decide +kernel, rfl, by decide +kernel, by decide +kernel⟩
section
variable {P : Program} {w : World} {K : PySem.W.Frag} {mg : Str → Option Value} {base : Heap} {CE CR C : Addr}
theorem isd_cls (D : Dk P w K mg base CE CR) (pE : Plain K CE) (pR : Plain K CR) {C' : Addr} (h : C' = CE ∨ C' = CR) : Cls K C' ∧ Plain K C' := by
  rcases h with rfl | rfl
  · exact ⟨D.ownE.cls, pE⟩
  · exact ⟨D.ownR.cls, pR⟩
theorem ok_alike {f : Addr} {fd : FuncData} (F : L2.Fun K "_are_alike" "_are_alike" (top 39) f fd) (T : Bt mg) (zp : mg "zip" = none) (EQ : Mth P w K mg base C "__eq__" 3 ["self", "other"] (spEq K C)) (D : Dk P w K mg base CE CR) (pE : Plain K CE) (pR : Plain K CR) : FnOk P w K mg base CX0 7 f fd ["one", "other"] (spSame K CE CR C (MM K)) := by
  refine F.ok scAl (fun vs H Q E h => ?_) (fun cdv A outer s H vs Q E hr h => ?_)
  · obtain ⟨a, b, d, e, rfl, _⟩ := h
    rfl
  · obtain ⟨a, b, d, e, rfl, ia, ib, ld, le, go⟩ := h
    refine ⟨_, pss_cons (ps_set (i := 2) scAl.nd rfl (.inl rfl) (pe_lst (pa_cons (pe_tup (pa_cons (pv 0) (pa_cons (pv 1) pa_nil))) pa_nil)))
      (pss_cons (ps_while PassesOwn.never (pt_truth (pv 2) (by intro _; rfl))
        (pss_cons (ps_asg (pe_bm0 PySem.F.plainAttrs_list PySem.F.slot_list_pop PySem.F.type_list_pop mt_pop (pv 2)) (pg_tup (by rfl) (pgs_cons (pg_name (i := 3) scAl.nd rfl (.inl rfl)) (pgs_cons (pg_name (i := 4) scAl.nd rfl (.inl rfl)) pgs_nil))))
        (pss_cons (ps_if (PW.pt (pw_or (pt_cmpR op_ne (pe_fldK K rfl (pv 3)) (pe_fldK K rfl (pv 4)) (nomark _)) (pw_or1 (pt_cmpR (ne_givers EQ hr) (pe_fldK K rfl (pv 3)) (pe_fldK K rfl (pv 4)) (nomark _))))) (pss_one (ps_ret pe_bl)) pss_nil)
        (pss_one (Dr.ps_forZ PassesOwn.never rfl (by rfl) zp (pa_cons (pe_fldK K rfl (pv 3)) (pa_cons (pe_fldK K rfl (pv 4)) pa_nil)) (pg_name (i := 5) scAl.nd rfl (.inl rfl))
          (pss_one (ps_expr (pe_bm PySem.F.plainAttrs_list PySem.F.slot_list_append PySem.F.type_list_append mt_append (pv 2) (pa_cons (pv 5) pa_nil)))))))))
      (pss_one (ps_ret pe_bl))), ?_⟩
    have big : (1000 : Nat) ≤ sizeLine := by decide
    refine ⟨_, rfl, _, rfl, by show 2 ≤ sizeLine; omega, fun t nt => ⟨by show 1 ≤ sizeLine; omega, fun L nL => ?_⟩⟩
    have nLt : t ≠ L := ne_of_none upd_same nL
    have nLH : H L = none := by
      cases q : H L with
      | none => rfl
      | some o =>
        rw [same_new (o := HO.tup [.ref a, .ref b]) nt _ _ q] at nL
        cases nL
    have s0 : Same H (upd (upd H t (.tup [.ref a, .ref b])) L (.lst [.ref t])) := (same_new nt).trans (same_new nL)
    have ft : ∀ {H' : Hp}, Same H H' → (d = e) = (d = e) := fun _ => rfl
    have small : d.size ≤ 200 := by
      have h1 := d.size_le
      have h2 : 2 ^ (d.deep + 1) ≤ 2 ^ 7 := Nat.pow_le_pow_right (by decide) (by omega)
      omega
    have yes : ∀ {H' : Hp}, Same H H' → d = e → Q (.bl true) H' := fun {H'} s q => by
      have g := go H' s
      rw [decide_eq_true q] at g
      exact g
    have no : ∀ {H' : Hp}, Same H H' → d ≠ e → Q (.bl false) H' := fun {H'} s q => by
      have g := go H' s
      rw [decide_eq_false q] at g
      exact g
    refine ⟨fun m σ H' => ∃ qs v3 v4 v5, σ = [some (.ref a), some (.ref b), some (.ref L), v3, v4, v5] ∧ H' L = some (.lst (qs.map fun q => V.ref q.at_)) ∧ Same H H' ∧ (∀ q ∈ qs, DuoOk K CE CR C H H' q ∧ q.at_ ≠ L) ∧ sizes qs = m ∧ m ≤ 200 ∧ (Alike qs ↔ d = e),
      ⟨d.size, [⟨t, a, b, d, e⟩], _, _, _, rfl, upd_same, s0, fun q hq => ?_, ?_, small, ?_⟩, ?_⟩
    · obtain rfl : q = ⟨t, a, b, d, e⟩ := by simpa using hq
      exact ⟨⟨by rw [upd_ne nLt]; exact upd_same, ia, ib⟩, nLt⟩
    · show d.size + 0 = d.size
      omega
    · constructor
      · intro h
        exact h _ (List.mem_cons_self ..)
      · intro h q hq
        obtain rfl : q = ⟨t, a, b, d, e⟩ := by simpa using hq
        exact h
    rintro m σ H1 ⟨qs, v3, v4, v5, rfl, hL, s1, ok, sz, m2, al⟩
    refine ⟨_, rfl, !(qs.map fun q => V.ref q.at_).isEmpty, .inl ⟨_, SqL.of hL, rfl⟩, ?_⟩
    rcases List.eq_nil_or_concat qs with rfl | ⟨rs, q, rfl⟩
    · refine iteF ?_
      exact yes s1 (al.mp fun q hq => nomatch hq)
    rw [List.concat_eq_append] at *
    rw [show (!((rs ++ [q]).map fun q => V.ref q.at_).isEmpty) = true from by rw [List.map_append]; cases rs.map (fun q => V.ref q.at_) <;> rfl]
    refine iteT ⟨fun σ' H' => ∃ m', m' < m ∧ ∃ qs v3 v4 v5, σ' = [some (.ref a), some (.ref b), some (.ref L), v3, v4, v5] ∧ H' L = some (.lst (qs.map fun q => V.ref q.at_)) ∧ Same H H' ∧ (∀ q ∈ qs, DuoOk K CE CR C H H' q ∧ q.at_ ≠ L) ∧ sizes qs = m' ∧ m' ≤ 200 ∧ (Alike qs ↔ d = e), fun _ _ h => h, ?_⟩
    obtain ⟨⟨hq, qa, qb⟩, nq⟩ := ok q (List.mem_append_right _ (List.mem_cons_self ..))
    obtain ⟨t', a', b', x, y⟩ := q
    simp only at hq qa qb nq
    refine ⟨_, rfl, .inl ⟨rfl, _, SqL.of hL⟩, L, _, .ref t', rfl, rfl, hL, by simp, ?_⟩
    rw [List.map_append, List.map_singleton, List.dropLast_concat]
    have hL2 : (upd H1 L (.lst (rs.map fun q => V.ref q.at_))) L = some (.lst (rs.map fun q => V.ref q.at_)) := upd_same
    have s2 : Same H (upd H1 L (.lst (rs.map fun q => V.ref q.at_))) := fun c o e => by
      rw [upd_ne (ne_of_none e nLH)]
      exact s1 _ _ e
    have ok2 : ∀ q ∈ rs, DuoOk K CE CR C H (upd H1 L (.lst (rs.map fun q => V.ref q.at_))) q ∧ q.at_ ≠ L := fun q hq => by
      obtain ⟨⟨h1, h2, h3⟩, h4⟩ := ok q (List.mem_append_left _ hq)
      exact ⟨⟨by rw [upd_ne h4]; exact h1, h2, h3⟩, h4⟩
    have ht2 : (upd H1 L (.lst (rs.map fun q => V.ref q.at_))) t' = some (.tup [.ref a', .ref b']) := by
      rw [upd_ne nq]
      exact hq
    generalize upd H1 L (.lst (rs.map fun q => V.ref q.at_)) = H2 at hL2 s2 ok2 ht2 ⊢
    refine ⟨t', _, rfl, SqT.of ht2, rfl, _, _, rfl, _, _, rfl, rfl, ?_⟩
    rw [sizes_snoc] at sz
    simp only at sz
    have al' : (Alike rs ∧ x = y) ↔ d = e := by
      rw [← al]
      constructor
      · rintro ⟨h1, h2⟩ q hq
        rcases List.mem_append.mp hq with h | h
        · exact h1 q h
        · obtain rfl : q = ⟨t', a', b', x, y⟩ := by simpa using h
          exact h2
      · intro h
        exact ⟨fun q hq => h q (List.mem_append_left _ hq), h _ (List.mem_append_right _ (List.mem_cons_self ..))⟩
    -- the words and the givers
    obtain ⟨C1, dx, g1, dr1, fs, lk1⟩ := look_any qa
    obtain ⟨C2, dy, g2, dr2, gs, lk2⟩ := look_any qb
    obtain ⟨cl1, pl1⟩ := isd_cls D pE pR lk1.cls
    obtain ⟨cl2, pl2⟩ := isd_cls D pE pR lk2.cls
    refine ⟨_, rfl, a', C1, dx, fs, _, rfl, s2 _ _ lk1.at_, cl1, pl1 _ (by simp), lk1.word, _, rfl, b', C2, dy, gs, _, rfl, s2 _ _ lk2.at_, cl2, pl2 _ (by simp), lk2.word, by trivial, _, rfl, ?_⟩
    have noXY : ∀ {H' : Hp}, Same H H' → x ≠ y → Q (.bl false) H' := fun {H'} s n => no s fun de => n (al'.mpr de).2
    by_cases hw : x.word = y.word
    case neg =>
      rw [show (!decide (V.str x.word = V.str y.word)) = true from by
        rw [Bool.not_eq_true', decide_eq_false_iff_not]
        exact fun z => hw (V.str.inj z)]
      refine iteT ?_
      exact noXY s2 fun z => hw (by rw [z])
    rw [show (!decide (V.str x.word = V.str y.word)) = false from by rw [hw, decide_eq_true rfl] <;> rfl]
    refine iteF ⟨_, rfl, a', C1, dx, fs, _, rfl, s2 _ _ lk1.at_, cl1, pl1 _ (by simp), lk1.giv, _, rfl, b', C2, dy, gs, _, rfl, s2 _ _ lk2.at_, cl2, pl2 _ (by simp), lk2.giv, ?_⟩
    -- what the givers tell
    have giv : ∃ r, Se.AT0 K (Se.ATu K (D1 K C)) (.ref g1) (.ref g2) r H2 ∧ (r = false → x ≠ y) ∧ (r = true → ∃ ks : List Duo, (∀ q ∈ ks, IsD K CE CR C (MM K) H q.a q.x ∧ IsD K CE CR C (MM K) H q.b q.y) ∧ SqT K H dr1 (ks.map fun q => .ref q.a) ∧ SqT K H dr2 (ks.map fun q => .ref q.b) ∧ ks.length ≤ 2 ∧ sizes ks + 1 = x.size ∧ (Alike ks ↔ x = y)) := by
      cases x with
      | fin n =>
        obtain ⟨_, _, _, _, _, l1, h1, h2⟩ := look_fin qa
        obtain ⟨rfl, rfl⟩ := lk1.same l1
        cases y with
        | fin n' =>
          obtain ⟨_, _, _, _, _, l2, h3, h4⟩ := look_fin qb
          obtain ⟨rfl, rfl⟩ := lk2.same l2
          have e : n = n' := hw
          exact ⟨true, ⟨g1, g2, [], [], rfl, rfl, SqT.ext h1 s2, SqT.ext h3 s2, rfl⟩, (fun z => nomatch z), fun _ => ⟨[], (fun q hq => nomatch hq), h2, h4, Nat.zero_le _, rfl, (fun _ => by rw [e]), fun _ q hq => nomatch hq⟩⟩
        | turn p u v =>
          obtain ⟨_, _, _, _, _, _, _, _, _, _, _, l2, h3, _⟩ := look_turn qb
          obtain ⟨rfl, rfl⟩ := lk2.same l2
          exact ⟨false, ⟨g1, g2, [], _, rfl, rfl, SqT.ext h1 s2, SqT.ext h3 s2, rfl⟩, (fun _ z => nomatch z), fun z => nomatch z⟩
      | turn p u v =>
        obtain ⟨_, _, _, _, _, g3, sh, r1, r2, a1, a2, l1, h1, h2, h3, h4, h5, h6, h7, h8⟩ := look_turn qa
        obtain ⟨rfl, rfl⟩ := lk1.same l1
        cases y with
        | fin n' =>
          obtain ⟨_, _, _, _, _, l2, k1, k2⟩ := look_fin qb
          obtain ⟨rfl, rfl⟩ := lk2.same l2
          exact ⟨false, ⟨g1, g2, _, [], rfl, rfl, SqT.ext h1 s2, SqT.ext k1 s2, rfl⟩, (fun _ z => nomatch z), fun z => nomatch z⟩
        | turn p' u' v' =>
          obtain ⟨_, _, _, _, _, g3', sh', r1', r2', b1, b2, l2, k1, k2, k3, k4, k5, k6, k7, k8⟩ := look_turn qb
          obtain ⟨rfl, rfl⟩ := lk2.same l2
          refine ⟨decide (p = p'), giv_two (SqT.ext h1 s2) (SqT.ext h2 s2) (SqT.ext h3 s2) (h4.same s2) (h5.same s2) (SqT.ext k1 s2) (SqT.ext k2 s2) (SqT.ext k3 s2) (k4.same s2) (k5.same s2), fun z w => ?_, fun z => ⟨[⟨0, a1, b1, u, u'⟩, ⟨0, a2, b2, v, v'⟩], fun q hq => ?_, h6, k6, Nat.le_refl _, ?_, ?_⟩⟩
          · exact absurd (Dr.turn.inj w).1 (of_decide_eq_false z)
          · simp only [List.mem_cons, List.not_mem_nil, or_false] at hq
            rcases hq with rfl | rfl
            · exact ⟨h7, k7⟩
            · exact ⟨h8, k8⟩
          · show u.size + (v.size + 0) + 1 = u.size + v.size + 1
            omega
          · have ep := of_decide_eq_true z
            constructor
            · intro al2
              have w1 : u = u' := al2 ⟨0, a1, b1, u, u'⟩ (by simp)
              have w2 : v = v' := al2 ⟨0, a2, b2, v, v'⟩ (by simp)
              rw [ep, w1, w2]
            · intro w q hq
              obtain ⟨_, w1, w2⟩ := Dr.turn.inj w
              simp only [List.mem_cons, List.not_mem_nil, or_false] at hq
              rcases hq with rfl | rfl
              · exact w1
              · exact w2
    obtain ⟨r, rel, r0, r1⟩ := giv
    refine ⟨r, rel, fun H3 s3 => ⟨_, rfl, ?_⟩⟩
    have s3' : Same H H3 := s2.trans s3
    cases r with
    | false => exact iteT (noXY s3' (r0 rfl))
    | true =>
      obtain ⟨ks, kd, kq1, kq2, k2, ksz, kal⟩ := r1 rfl
      refine iteF ?_
      have hL3 := s3 _ _ hL2
      have ok3 : ∀ q ∈ rs, DuoOk K CE CR C H H3 q ∧ q.at_ ≠ L := fun q hq => by
        obtain ⟨⟨h1, h2, h3⟩, h4⟩ := ok2 q hq
        exact ⟨⟨s3 _ _ h1, h2, h3⟩, h4⟩
      have few := len_sizes rs
      refine ⟨_, rfl, a', C1, dx, fs, _, rfl, s3' _ _ lk1.at_, cl1, pl1 _ (by simp), lk1.drs, _, rfl, b', C2, dy, gs, _, rfl, s3' _ _ lk2.at_, cl2, pl2 _ (by simp), lk2.drs, dr1, dr2, _, _, rfl, SqT.ext kq1 s3', SqT.ext kq2 s3', by rw [List.length_map, List.length_map], fun i T σ H4 => ∃ (ts : List Addr) (v5 : Option V), σ = [some (.ref a), some (.ref b), some (.ref L), some (.ref a'), some (.ref b'), v5] ∧ ts.length = i ∧ i ≤ ks.length ∧ T = ts.head? ∧
        H4 L = some (.lst (rs.map (fun q => V.ref q.at_) ++ ts.map V.ref)) ∧ Same H H4 ∧ (∀ q ∈ rs, DuoOk K CE CR C H H4 q ∧ q.at_ ≠ L) ∧ (∀ (j : Nat) (t : Addr), ts[j]? = some t → ∃ q : Duo, ks[j]? = some q ∧ H4 t = some (.tup [.ref q.a, .ref q.b]) ∧ t ≠ L), ⟨[], _, rfl, rfl, Nat.zero_le _, rfl, by rw [List.map_nil, List.append_nil]; exact hL3, s3', ok3, fun j t h => by simp at h⟩, ?_⟩
      rintro i T σ H4 ⟨ts, v5, rfl, rfl, ik, rfl, h4L, s4, ok4, tk⟩
      refine ⟨by rw [List.length_map]; exact ik, SqT.ext kq1 s4, SqT.ext kq2 s4, fun t ht => ?_, ?_, ?_⟩
      · obtain ⟨q, _, e, _⟩ := tk 0 t (by rw [← ht]; cases ts <;> rfl)
        exact ⟨_, e⟩
      · intro vx vy t hx hy nt4
        rw [List.getElem?_map] at hx hy
        obtain ⟨q, hq, rfl⟩ := Option.map_eq_some_iff.mp hx
        rw [hq] at hy
        obtain rfl : V.ref q.b = vy := by simpa using hy
        have lt : ts.length < ks.length := (List.getElem?_eq_some_iff.mp hq).1
        have tL : t ≠ L := fun e => ne_of_none h4L nt4 e.symm
        have h5L : (upd H4 t (.tup [.ref q.a, .ref q.b])) L = some (.lst (rs.map (fun q => V.ref q.at_) ++ ts.map V.ref)) := by
          rw [upd_ne (Ne.symm tL)]
          exact h4L
        refine ⟨_, rfl, .inl ⟨rfl, _, SqL.of h5L⟩, _, rfl, L, _, .ref t, rfl, rfl, h5L, ?_, ts ++ [t], _, rfl, by rw [List.length_append]; rfl, lt, ?_, ?_, fun c o e => ?_, fun q' hq' => ?_, fun j t2 h => ?_⟩
        · rw [List.length_append, List.length_map, List.length_map]
          omega
        · cases ts <;> rfl
        · rw [List.map_append, ← List.append_assoc]
          exact upd_same
        · rw [upd_ne (ne_of_none e nLH), upd_ne (ne_of_none (s4 _ _ e) nt4)]
          exact s4 _ _ e
        · obtain ⟨⟨h1, h2, h3⟩, h4⟩ := ok4 q' hq'
          exact ⟨⟨by rw [upd_ne h4, upd_ne (ne_of_none h1 nt4)]; exact h1, h2, h3⟩, h4⟩
        · by_cases hj : j < ts.length
          · rw [List.getElem?_append_left hj] at h
            obtain ⟨q2, e1, e2, e3⟩ := tk j t2 h
            exact ⟨q2, e1, by rw [upd_ne e3, upd_ne (ne_of_none e2 nt4)]; exact e2, e3⟩
          · have ej : j = ts.length := by
              have := (List.getElem?_eq_some_iff.mp h).1
              rw [List.length_append, List.length_singleton] at this
              omega
            subst ej
            rw [List.getElem?_append_right (Nat.le_refl _), Nat.sub_self] at h
            obtain rfl : t = t2 := by simpa using h
            exact ⟨q, hq, by rw [upd_ne tL]; exact upd_same, tL⟩
      · intro e
        rw [List.length_map] at e
        obtain ⟨js, j1, j2, j3, j4⟩ := put_at ts ks e
        refine ⟨sizes (rs ++ js), by rw [sizes_app]; omega, rs ++ js, _, _, _, rfl, by rw [List.map_append, j1]; exact h4L, s4, fun q hq => ?_, rfl, by rw [sizes_app]; omega, ?_⟩
        · rcases List.mem_append.mp hq with h | h
          · exact ok4 q h
          · obtain ⟨j, hj⟩ := List.mem_iff_getElem?.mp h
            obtain ⟨k, t2, e1, e2, rfl⟩ := j4 j q hj
            obtain ⟨q2, f1, f2, f3⟩ := tk j t2 e2
            rw [e1] at f1
            obtain rfl : k = q2 := by simpa using f1
            obtain ⟨g1', g2'⟩ := kd k (List.mem_of_getElem? e1)
            exact ⟨⟨f2, g1', g2'⟩, f3⟩
        · rw [← al', ← kal, ← j3]
          constructor
          · intro h
            exact ⟨fun q hq => h q (List.mem_append_left _ hq), fun q hq => h q (List.mem_append_right _ hq)⟩
          · rintro ⟨h1, h2⟩ q hq
            rcases List.mem_append.mp hq with h | h
            · exact h1 q h
            · exact h2 q h
end
end K42

set_option Elab.async false
set_option linter.all false
set_option maxRecDepth 100000
set_option maxHeartbeats 4000000
set_option exponentiation.threshold 3000
/-! The law over draws for families: Draw.__eq__. -/
namespace K42
open PySem PySem.Spec PyProof.Rows L2 Vx Vr
theorem FnOk.imp {P : Program} {w : World} {K : PySem.W.Frag} {mg : Str → Option Value} {base : Heap} {CX : CXT} {k : Nat} {f : Addr} {fd : FuncData} {ps : List Str} {sp sp' : Sp} (h : FnOk P w K mg base CX k f fd ps sp) (i : ∀ vs H Q E, sp' vs H Q E → sp vs H Q E) : FnOk P w K mg base CX k f fd ps sp' := by
  obtain ⟨h1, h2⟩ := h
  exact ⟨fun vs H Q E z => h1 vs H Q E (i _ _ _ _ z), fun A outer s H args us vs Q E hr e b r z => h2 A outer s H args us vs Q E hr e b r (i _ _ _ _ z)⟩
theorem scSm : FnScope ["self", "other"] ["self", "other"] (defScope (inD 1)) := ⟨rfl, rfl, rfl, by decide +kernel, rfl, by decide +kernel, by decide +kernel⟩
section
variable {P : Program} {w : World} {K : PySem.W.Frag} {mg : Str → Option Value} {base : Heap} {CE CR C CD : Addr}
theorem ok_same {f : Addr} {fd : FuncData} (F : L2.Fun K "__eq__" "Draw.__eq__" (inD 1) f fd) (T : Bt mg) (D : Dk P w K mg base CE CR) (gD : mg "Draw" = some (.ref CD)) (iE : PySem.W.kitOne K (.ref CE) (.ref CD) = some true) (iR : PySem.W.kitOne K (.ref CR) (.ref CD) = some true)
    (AL : Cal P w K mg base "_are_alike" 7 ["one", "other"] (spSame K CE CR C (MM K))) : FnOk P w K mg base CX0 8 f fd ["self", "other"] (spSame K CE CR C (MM K)) := by
  refine F.ok scSm (fun vs H Q E h => ?_) (fun cdv A outer s H vs Q E hr h => ?_)
  · obtain ⟨a, b, d, e, rfl, _⟩ := h
    rfl
  · obtain ⟨a, b, d, e, rfl, ia, ib, ld, le, go⟩ := h
    refine ⟨_, pss_one (ps_ret (pe_and (pe_callB call_isi (by rfl) T.isi (by decide +kernel) (pa_cons (pv 1) (pa_cons (pe_glob (v := .ref CD) (by rfl) gD rfl) pa_nil))) (pe_one (pe_cal AL hr (pa_cons (pv 0) (pa_cons (pv 1) pa_nil)))))), ?_⟩
    have rest : ∀ C', TyX K H (.ref b) (.ref C') → PySem.W.kitOne K (.ref C') (.ref CD) = some true → True := fun _ _ _ => trivial
    obtain ⟨C', dx, fs, hc, eb, _⟩ := isd_at ib
    rcases hc with rfl | rfl
    · exact ⟨_, rfl, .ref b, .ref CD, .ref C', _, _, rfl, .own CD, D.tyE eb, iE, _, rfl, iteT ⟨_, rfl, _, rfl, a, b, d, e, rfl, ia, ib, ld, le, go⟩⟩
    · exact ⟨_, rfl, .ref b, .ref CD, .ref C', _, _, rfl, .own CD, D.tyR eb, iR, _, rfl, iteT ⟨_, rfl, _, rfl, a, b, d, e, rfl, ia, ib, ld, le, go⟩⟩
end
end K42

set_option Elab.async false
set_option linter.all false
set_option maxRecDepth 100000
set_option maxHeartbeats 4000000
set_option exponentiation.threshold 3000
/-! The law over draws for families: facts for the law's reading. -/
namespace K42
open PySem PySem.Spec PyProof.Rows L2 Vx Vr
theorem cut_to (xs : List V) {z : Int} (h : 0 ≤ z) : cutV xs none (some z) = xs.take z.toNat := by
  unfold cutV HT.sIx
  simp only [List.drop_zero, Nat.sub_zero]
  have e : ∀ m : Nat, m = min z.toNat xs.length → xs.take m = xs.take z.toNat := fun m hm => by
    rw [hm]
    rcases Nat.le_total z.toNat xs.length with l | l
    · rw [Nat.min_eq_left l]
    · rw [Nat.min_eq_right l, List.take_length, List.take_of_length_le l]
  refine e _ ?_
  split <;> omega
/-- the folk: some of the names, at least one -/
theorem folk_of {names : List Str} {ys : List V} (p : ys.Perm (names.map V.str)) (nd : names.Nodup) (l : names.length = 6) {z : Int} (z1 : 1 ≤ z) : ∃ ws : List Str, cutV ys none (some z) = ws.map V.str ∧ ws.Nodup ∧ (∀ x ∈ ws, x ∈ names) ∧ 1 ≤ ws.length ∧ ws.length ≤ 6 := by
  obtain ⟨zs, pz, rfl⟩ := strs_perm p
  have lz := pz.length_eq
  refine ⟨zs.take z.toNat, by rw [cut_to _ (by omega), List.map_take], List.Pairwise.sublist (List.take_sublist _ _) (pz.nodup_iff.mpr nd), fun x hx => pz.mem_iff.mp (List.mem_of_mem_take hx), ?_, ?_⟩
  · rw [List.length_take]
    omega
  · rw [List.length_take]
    omega
/-- what is due: a set of the drawn ones lies in the people -/
theorem due_iff (who : List Str) (lots : List (List Str)) : (!((lots.filter fun lot => decide ((lot.filter fun x => decide (x ∉ who)) = [])).isEmpty)) = decide (Some' who lots) := by
  rw [Bool.eq_iff_iff, Bool.not_eq_true', decide_eq_true_eq]
  have inside : ∀ lot : List Str, ((lot.filter fun x => decide (x ∉ who)) = []) ↔ ∀ x ∈ lot, x ∈ who := fun lot => by
    rw [List.filter_eq_nil_iff]
    constructor
    · intro h x hx
      have q := h x hx
      rw [decide_eq_true_eq, Classical.not_not] at q
      exact q
    · intro h x hx
      rw [decide_eq_true_eq, Classical.not_not]
      exact h x hx
  constructor
  · intro h
    cases e : lots.filter fun lot => decide ((lot.filter fun x => decide (x ∉ who)) = []) with
    | nil => rw [e] at h; cases h
    | cons lot r =>
      have m : lot ∈ lots.filter fun lot => decide ((lot.filter fun x => decide (x ∉ who)) = []) := by
        rw [e]
        exact List.mem_cons_self ..
      obtain ⟨m1, m2⟩ := List.mem_filter.mp m
      exact ⟨lot, m1, (inside lot).mp (of_decide_eq_true m2)⟩
  · rintro ⟨lot, h1, h2⟩
    have m : lot ∈ lots.filter fun lot => decide ((lot.filter fun x => decide (x ∉ who)) = []) := List.mem_filter.mpr ⟨h1, decide_eq_true ((inside lot).mpr h2)⟩
    cases e : lots.filter fun lot => decide ((lot.filter fun x => decide (x ∉ who)) = []) with
    | nil => rw [e] at m; cases m
    | cons a r => rfl
end K42

set_option Elab.async false
set_option linter.all false
set_option maxRecDepth 100000
set_option maxHeartbeats 4000000
set_option exponentiation.threshold 3000
/-! The law over draws for families: lists of names and lists of these as data. -/
namespace K42
open PySem PySem.Spec PyProof.Rows L2 Vr
mutual
theorem dp_same {K : PySem.W.Frag} {H H' : Hp} (s : Same H H') : ∀ (d : PyData) (v : V), Dp K H v d → Dp K H' v d
  | .none, _, h => by
    cases h
    exact .non
  | .bool b, _, h => by
    cases h
    exact .bl b
  | .int i, _, h => by
    cases h
    exact .int i
  | .str x, _, h => by
    cases h
    exact .str x
  | .list ds, _, h => by
    cases h with
    | lst q r => exact .lst (SqL.ext q s) (dpa_same s ds _ r)
  | .tuple ds, _, h => by
    cases h with
    | tup q r => exact .tup (SqT.ext q s) (dpa_same s ds _ r)
  | .dict _, _, h => by cases h
theorem dpa_same {K : PySem.W.Frag} {H H' : Hp} (s : Same H H') : ∀ (ds : List PyData) (vs : List V), DpAll K H vs ds → DpAll K H' vs ds
  | [], _, h => by
    cases h
    exact .nil
  | d :: ds, _, h => by
    cases h with
    | cons h1 h2 => exact .cons (dp_same s d _ h1) (dpa_same s ds _ h2)
end
theorem sok_names : ∀ x ∈ folkA ++ folkB, PyData.strOk x = true := by decide +kernel
theorem lay_names : ∀ xs : List Str, (∀ x ∈ xs, x ∈ folkA ++ folkB) → PyData.canLayAll0 (xs.map PyData.str) = true
  | [], _ => by simp [PyData.canLayAll0]
  | b :: bs, h => by simp [PyData.canLayAll0, PyData.canLay0, sok_names b (h b (List.mem_cons_self ..)), lay_names bs fun x hx => h x (List.mem_cons_of_mem _ hx)]
theorem deep_names : ∀ xs : List Str, PyData.depthAll (xs.map PyData.str) ≤ 1
  | [] => by simp [PyData.depthAll]
  | b :: bs => by
    have := deep_names bs
    simp [PyData.depthAll, PyData.depth]
    omega
theorem dict_names : ∀ xs : List Str, PyData.hasDictAll (xs.map PyData.str) = false
  | [] => by simp [PyData.hasDictAll]
  | b :: bs => by simp [PyData.hasDictAll, PyData.hasDict, dict_names bs]
theorem shaped_names (xs : List Str) (h : ∀ x ∈ xs, x ∈ folkA ++ folkB) : SeqAt.shaped (.list (xs.map PyData.str)) = true := by
  have := deep_names xs
  unfold SeqAt.shaped
  simp [PyData.canLay0, lay_names xs h, PyData.depth]
  omega
theorem dp_names {K : PySem.W.Frag} {H : Hp} : ∀ xs : List Str, DpAll K H (xs.map V.str) (xs.map PyData.str)
  | [] => .nil
  | b :: bs => .cons (.str b) (dp_names bs)
theorem eqv_nil (ds : List PyData) : PyData.eqv (.list ds) (.list []) = ds.isEmpty := by
  cases ds <;> simp [PyData.eqv, PyData.eqvAll]
/-- a list or a tuple of names as data -/
theorem dp_row {K : PySem.W.Frag} {H : Hp} {a : Addr} {xs : List Str} (h : Seq H a (xs.map V.str)) : ∃ d, Dp K H (.ref a) d ∧ (d = .list (xs.map PyData.str) ∨ d = .tuple (xs.map PyData.str)) := by
  rcases h with h | h
  · exact ⟨_, .lst (SqL.of h) (dp_names xs), .inl rfl⟩
  · exact ⟨_, .tup (SqT.of h) (dp_names xs), .inr rfl⟩
theorem row_dict {d : PyData} {xs : List Str} (ok : ∀ x ∈ xs, x ∈ folkA ++ folkB) (h : d = .list (xs.map PyData.str) ∨ d = .tuple (xs.map PyData.str)) : d.hasDict = false ∧ d.depth ≤ 3 ∧ d.canLay0 = true := by
  have := deep_names xs
  rcases h with rfl | rfl
  · refine ⟨by simp [PyData.hasDict, dict_names xs], ?_, by simp [PyData.canLay0, lay_names xs ok]⟩
    simp [PyData.depth]
    omega
  · refine ⟨by simp [PyData.hasDict, dict_names xs], ?_, by simp [PyData.canLay0, lay_names xs ok]⟩
    simp [PyData.depth]
    omega
/-- the lots, as lists or tuples, as data -/
theorem dp_lots {K : PySem.W.Frag} {H : Hp} : ∀ {rs : List Addr} {lots : List (List Str)}, Fm H rs lots → (∀ lot ∈ lots, lot.length ≤ 6 ∧ ∀ x ∈ lot, x ∈ folkA ++ folkB) →
    ∃ ds, DpAll K H (rs.map V.ref) ds ∧ ds.length = lots.length ∧ (∀ d ∈ ds, Row d) ∧ PyData.hasDictAll ds = false ∧ PyData.depthAll ds ≤ 4 ∧ PyData.canLayAll0 ds = true
  | [], [], _, _ => ⟨[], .nil, rfl, (fun d h => nomatch h), by simp [PyData.hasDictAll], by simp [PyData.depthAll], by simp [PyData.canLayAll0]⟩
  | r :: rs, lot :: lots, h, ok => by
    obtain ⟨ds, h1, h2, h3, h4, h5, h6⟩ := dp_lots (K := K) h.2 fun l hl => ok l (List.mem_cons_of_mem _ hl)
    obtain ⟨d, d1, d2⟩ := dp_row (K := K) h.1
    obtain ⟨o1, o2⟩ := ok lot (List.mem_cons_self ..)
    obtain ⟨q1, q2, q3⟩ := row_dict o2 d2
    refine ⟨d :: ds, .cons d1 h1, by rw [List.length_cons, List.length_cons, h2], fun e he => ?_, by simp [PyData.hasDictAll, q1, h4], ?_, by simp [PyData.canLayAll0, q3, h6]⟩
    · rcases List.mem_cons.mp he with rfl | he
      · exact ⟨lot, d2, o1, o2⟩
      · exact h3 e he
    · simp [PyData.depthAll]
      omega
/-- the lots as data: shaped -/
theorem shaped_lots {ds : List PyData} (h1 : PyData.depthAll ds ≤ 4) (h2 : PyData.canLayAll0 ds = true) : SeqAt.shaped (.list ds) = true := by
  unfold SeqAt.shaped
  simp [PyData.canLay0, h2, PyData.depth]
  omega
/-- what repr([given, handed]) tells -/
theorem repr_both {K : PySem.W.Frag} {H : Hp} {D hd RL : Addr} {gs : List Addr} {lots : List (List Str)} {ws : List Str} (eD : H D = some (.lst (gs.map V.ref))) (fm : Fm H gs lots) (few : lots.length ≤ 6) (ok : ∀ lot ∈ lots, lot.length ≤ 6 ∧ ∀ x ∈ lot, x ∈ folkA ++ folkB)
    (sq : Seq H hd (ws.map V.str)) (w6 : ws.length ≤ 6) (wr : ∀ x ∈ ws, x ∈ folkA ++ folkB) : ∃ t : Str, ∀ {H' : Hp} {RL : Addr}, Same H H' → H' RL = some (.lst [.ref D, .ref hd]) → ∀ Q : VK, Q (.str t) H' → Vx.rRepr K 60 [.ref RL] H' Q := by
  have row : ∀ {H' : Hp}, Same H H' → ∀ ds, DpAll K H (gs.map V.ref) ds → DpAll K H' (gs.map V.ref) ds := fun {H'} s ds h => dpa_same s ds _ h
  obtain ⟨ds, h1, h2, h3, h4, h5, h6⟩ := dp_lots (K := K) fm ok
  obtain ⟨d, d1, d2⟩ := dp_row (K := K) sq
  obtain ⟨q1, q2, q3⟩ := row_dict wr d2
  obtain ⟨b1, b2⟩ := both_len (e := d) h3 (by omega) ⟨ws, d2, w6, wr⟩
  refine ⟨(PyData.list [.list ds, d]).shown, fun {H' RL} s e Q q => ⟨_, .list [.list ds, d], rfl, .of (.lst (SqL.of e) (.cons (.lst (SqL.of (s _ _ eD)) (row s ds h1)) (.cons (dp_same s d _ d1) .nil))) ?_, b1, ?_, ?_, q⟩⟩
  · simp [PyData.hasDict, PyData.hasDictAll, h4, q1]
  · simp [PyData.depth, PyData.depthAll]
    omega
  · have : (1000 : Nat) ≤ sizeLine := by decide
    omega
end K42

set_option Elab.async false
set_option linter.all false
set_option maxRecDepth 100000
set_option maxHeartbeats 16000000
set_option exponentiation.threshold 3000
/-! The law over draws for families: the law itself, read. -/
namespace K42
open PySem PySem.Spec PyProof.Rows L2 Vx Vr
theorem Keep.old {b : Addr} {H G G' : Hp} (s : Same H G) (n : H b = none) (k : Keep b G G') : Same H G' := fun c o e => k c o (fun z => by rw [z, n] at e; cases e) (s c o e)
theorem Same.free' {H G : Hp} {b : Addr} (s : Same H G) (n : G b = none) : H b = none := by
  cases e : H b with
  | none => rfl
  | some o =>
    rw [s _ _ e] at n
    cases n
/-- one of the two lists of names -/
theorem one_folk {r : Int} {LA LB : Addr} (r0 : 0 ≤ r) (r1 : r < 2) : ∃ (Ls : Addr), atI [V.ref LA, .ref LB] r = some (.ref Ls) ∧ ((r = 0 ∧ Ls = LA) ∨ (r = 1 ∧ Ls = LB)) := by
  rcases (by omega : r = 0 ∨ r = 1) with e | e <;> subst e
  · exact ⟨LA, rfl, .inl ⟨rfl, rfl⟩⟩
  · exact ⟨LB, rfl, .inr ⟨rfl, rfl⟩⟩
/-- the folk of a turn of the law: its list, the tape -/
structure Folk (H G : Hp) (b fl : Addr) (ws : List Str) : Prop where
  old : Same H G
  nb : H b = none
  tp : Tp G b
  at_ : G fl = some (.lst (ws.map V.str))
  nd : ws.Nodup
  nm : ∀ x ∈ ws, Nm x
  lo : 1 ≤ ws.length
  hi : ws.length ≤ 6
  row : ∀ x ∈ ws, x ∈ folkA ++ folkB
theorem Folk.keep {H G G' : Hp} {b fl : Addr} {ws : List Str} (f : Folk H G b fl ws) (k : Keep b G G') (t : Tp G' b) : Folk H G' b fl ws := ⟨Keep.old f.old f.nb k, f.nb, t, k _ _ (tp_ne f.tp f.at_) f.at_, f.nd, f.nm, f.lo, f.hi, f.row⟩
theorem Folk.same {H G G' : Hp} {b fl : Addr} {ws : List Str} (f : Folk H G b fl ws) (s : Same G G') : Folk H G' b fl ws := by
  refine f.keep (fun c o _ e => s _ _ e) ?_
  obtain ⟨x, y, e, r⟩ := f.tp
  exact ⟨x, y, s _ _ e, r⟩
theorem seq_ne {b q : Addr} {H : Hp} {lot : List Str} (t : Tp H b) (e : Seq H q (lot.map V.str)) : q ≠ b := by
  rcases e with e | e
  · exact tp_ne t e
  · obtain ⟨x, y, e', _⟩ := t
    rintro rfl
    rw [e'] at e
    cases e
theorem Fm.tape {b : Addr} {H H' : Hp} (t : Tp H b) (k : Keep b H H') : ∀ {rs : List Addr} {lots : List (List Str)}, Fm H rs lots → Fm H' rs lots
  | [], [], _ => trivial
  | r :: rs, lot :: lots, h => ⟨h.1.imp (k _ _ (seq_ne t h.1)) (k _ _ (seq_ne t h.1)), Fm.tape t k h.2⟩
/-- a list or a tuple of the same names, by the tape -/
theorem choice {G G5 : Hp} {b u u2 LL : Addr} {x : Int} {xs : List Str} (tp : Tp G b) (nu : G u = none) (nu2 : (upd G u (.lst (xs.map V.str))) u2 = none) (nLL : (upd (upd G u (.lst (xs.map V.str))) u2 (.tup (xs.map V.str))) LL = none)
    (k5 : Keep b (upd (upd (upd G u (.lst (xs.map V.str))) u2 (.tup (xs.map V.str))) LL (.lst [.ref u, .ref u2])) G5) (x0 : 0 ≤ x) (x1 : x < 2) :
    ∃ Ls, atI [V.ref u, .ref u2] x = some (.ref Ls) ∧ Seq G5 Ls (xs.map V.str) ∧ G5 LL = some (.lst [.ref u, .ref u2]) ∧ Keep b G G5 ∧ ∀ q o, G q = some o → q ≠ Ls := by
  have c3 : Same G (upd (upd (upd G u (.lst (xs.map V.str))) u2 (.tup (xs.map V.str))) LL (.lst [.ref u, .ref u2])) := ((same_new nu).trans (same_new nu2)).trans (same_new nLL)
  have kG : Keep b G G5 := fun c o n e => k5 c o n (c3 _ _ e)
  have t3 : Tp (upd (upd (upd G u (.lst (xs.map V.str))) u2 (.tup (xs.map V.str))) LL (.lst [.ref u, .ref u2])) b := ((tp.new nu).new nu2).new nLL
  have e1 : (upd (upd (upd G u (.lst (xs.map V.str))) u2 (.tup (xs.map V.str))) LL (.lst [.ref u, .ref u2])) u = some (.lst (xs.map V.str)) := ((same_new nu2).trans (same_new nLL)) _ _ upd_same
  have e2 : (upd (upd (upd G u (.lst (xs.map V.str))) u2 (.tup (xs.map V.str))) LL (.lst [.ref u, .ref u2])) u2 = some (.tup (xs.map V.str)) := (same_new nLL) _ _ upd_same
  have e3 : (upd (upd (upd G u (.lst (xs.map V.str))) u2 (.tup (xs.map V.str))) LL (.lst [.ref u, .ref u2])) LL = some (.lst [.ref u, .ref u2]) := upd_same
  have nL : LL ≠ b := tp_ne_refs (rs := [u, u2]) t3 e3
  have nf2 : G u2 = none := (Same.free' (same_new nu) nu2)
  rcases (by omega : x = 0 ∨ x = 1) with h | h <;> subst h
  · exact ⟨u, rfl, .inl (k5 _ _ (tp_ne t3 e1) e1), k5 _ _ nL e3, kG, fun q o e => ne_of_none e nu⟩
  · exact ⟨u2, rfl, .inr (k5 _ _ (seq_ne t3 (.inr e2)) e2), k5 _ _ nL e3, kG, fun q o e => ne_of_none e nf2⟩
section
variable {P : Program} {w : World} {K : PySem.W.Frag} {mg : Str → Option Value} {base : Heap} {CE CR C : Addr} {M : Rest}
theorem kp_law {f : Addr} {fd : FuncData} (F : L2.Fun K "law" "law" (top 56) f fd) (L : Lw P w K mg base CE CR C M) (mo : MonR M) : Kp P w K mg base CX0 24 f fd ["_law_script"] (spLaw K) := by
  refine kp_fun0 F scLaw (fun vs H Q E h => ?_) (fun cdv A outer s H vs Q E hr hg h => ?_)
  · obtain ⟨a, ns, rfl, _⟩ := h
    rfl
  · obtain ⟨a, ns, rfl, hS, few, go⟩ := h
    have T := L.bt
    have U := L.bu
    have h1 := hr.mono (show 1 ≤ 23 by decide)
    have h2 := hr.mono (show 2 ≤ 23 by decide)
    have h3 := hr.mono (show 3 ≤ 23 by decide)
    have h8 := hr.mono (show 8 ≤ 23 by decide)
    have h9 := hr.mono (show 9 ≤ 23 by decide)
    have h11 := hr.mono (show 11 ≤ 23 by decide)
    have h12 := hr.mono (show 12 ≤ 23 by decide)
    have h21 := hr.mono (show 21 ≤ 23 by decide)
    obtain ⟨ff, ffd, fg, FF, mF, kF, bF⟩ := L.famK
    have hu := hr.units
    refine ⟨_, pss_cons (ps_for PassesOwn.never rfl (pi_range1 rfl T.range (pa_cons (pe_callB (call_max2 rfl) (by rfl) T.max (by decide +kernel) (pa_cons pe_int (pa_cons (pe_callB (call_min2 rfl) (by rfl) T.min (by decide +kernel) (pa_cons pe_int (pa_cons (pe_callB call_len_seq (by rfl) T.len PySem.boot_len (pa_cons (pv 0) pa_nil)) pa_nil))) pa_nil))) pa_nil)) (pg_name (i := 1) scLaw.nd rfl (.inl rfl))
        (pss_cons (ps_set (i := 2) scLaw.nd rfl (.inr rfl) (pe_cal L.tape h1 (pa_cons (pv 0) (pa_cons (pv 1) pa_nil))))
        (pss_cons (ps_set (i := 3) scLaw.nd rfl (.inl rfl) (pe_ix ix_list (pe_lst (pa_cons (pe_lst (pa_cons pe_str (pa_cons pe_str (pa_cons pe_str (pa_cons pe_str (pa_cons pe_str (pa_cons pe_str pa_nil))))))) (pa_cons (pe_lst (pa_cons pe_str (pa_cons pe_str (pa_cons pe_str (pa_cons pe_str (pa_cons pe_str (pa_cons pe_str pa_nil))))))) pa_nil)))
            (pe_cal L.pick h1 (pa_cons (pv 2) (pa_cons pe_int pa_nil))) (fun _ _ => rfl)))
        (pss_cons (ps_set (i := 4) scLaw.nd rfl (.inl rfl) (pe_slice sl_list (pe_cal L.mixed h2 (pa_cons (pv 2) (pa_cons (pv 3) pa_nil))) po_none (po_some (pe_op op_add pe_int (pe_cal L.pick h1 (pa_cons (pv 2) (pa_cons pe_int pa_nil)))))))
        (pss_cons (ps_for PassesOwn.never rfl (pi_range1 rfl T.range (pa_cons pe_int pa_nil)) (pg_name (i := 5) scLaw.nd rfl (.inl rfl))
          (pss_cons (ps_set (i := 6) scLaw.nd rfl (.inl rfl) (pe_cal L.drawn h3 (pa_cons (pv 2) (pa_cons (pv 4) pa_nil))))
          (pss_cons (ps_setLc (i := 7) (own := [("_law_lot", 13)]) (g := gName 13) (tt := tYes) rfl scLaw.nd rfl rfl (sw_true rfl rfl rfl (by decide +kernel)) (pi_list (pv 6)) (blkOk_by (N := NL) (sc := defScope (top 56)) (by decide +kernel)) (fun _ _ _ _ _ => pg_name (i := 13) scLaw.nd rfl (Or.inl rfl)) (fun _ _ _ _ _ => pts_nil)
              (fun _ _ _ _ _ => pe_ix (ix_listK K rfl) (pe_lst (pa_cons (pe_callTy (call_list_ofK K rfl) (by rfl) U.list (by decide +kernel) (pa_cons (pv 13) pa_nil)) (pa_cons (pe_callTy (call_tuple_ofK K rfl) (by rfl) U.tuple (by decide +kernel) (pa_cons (pv 13) pa_nil)) pa_nil))) (pe_cal L.pick h1 (pa_cons (pv 2) (pa_cons pe_int pa_nil))) (fun _ _ => rfl)))
          (pss_cons (ps_set (i := 8) scLaw.nd rfl (.inl rfl) (pe_ix ix_list (pe_lst (pa_cons (pe_callTy call_list_of (by rfl) U.list (by decide +kernel) (pa_cons (pv 4) pa_nil)) (pa_cons (pe_callTy call_tuple_of (by rfl) U.tuple (by decide +kernel) (pa_cons (pv 4) pa_nil)) pa_nil))) (pe_cal L.pick h1 (pa_cons (pv 2) (pa_cons pe_int pa_nil))) (fun _ _ => rfl)))
          (pss_cons (ps_set (i := 9) scLaw.nd rfl (.inl rfl) (pe_callB (call_reprK (K := K) rfl hg hu) (by rfl) U.repr (by decide +kernel) (pa_cons (pe_lst (pa_cons (pv 7) (pa_cons (pv 8) pa_nil))) pa_nil)))
          (pss_cons (ps_set (i := 10) scLaw.nd rfl (.inl rfl) (Vk.pe_callK0 FF h21 (by rfl) mF kF bF pass0 (pk_cons (pv 7) (pk_cons (pv 8) pk_nil))))
          (pss_cons (ps_if (pt_cmpR op_ne (pe_callB (call_reprK (K := K) rfl hg hu) (by rfl) U.repr (by decide +kernel) (pa_cons (pe_lst (pa_cons (pv 7) (pa_cons (pv 8) pa_nil))) pa_nil)) (pv 9) (nomark _)) (pss_one (ps_ret pe_bl)) pss_nil)
          (pss_cons (ps_if (pt_not (pt_val (pe_cal L.fair h12 (pa_cons (pv 10) (pa_cons (pv 4) (pa_cons (pe_callB call_len_seq (by rfl) T.len PySem.boot_len (pa_cons (pv 4) pa_nil)) pa_nil)))))) (pss_one (ps_ret pe_bl)) pss_nil)
          (pss_one (ps_for PassesOwn.never rfl (pi_list (pe_cal L.lots h1 (pa_cons (pv 4) pa_nil))) (pg_name (i := 11) scLaw.nd rfl (.inr rfl))
            (pss_cons (ps_set (i := 12) scLaw.nd rfl (.inl rfl) (pe_cmpR (op_neD hu) (pe_lc (own := [("_law_lot", 13)]) (g := gName 13) (tt := ttDue K) rfl scLaw.nd (pi_list (pv 6)) (blkOk_by (N := NL) (sc := defScope (top 56)) (by decide +kernel)) (fun _ _ _ _ _ => pg_name (i := 13) scLaw.nd rfl (Or.inl rfl))
                (fun _ _ _ _ _ => pts_one (pt_cmpR (op_eqDK K rfl hu) (pe_lc (own := [("_law_name", 14)]) (g := gName 14) (tt := tTest (tOp (rIn K true) (tVar 14) (tVar 11))) rfl scLaw.nd (pi_listK K rfl (pv 13)) (blkOk_by (N := NL) (sc := lotSc) (by decide +kernel)) (fun _ _ _ _ _ => pg_name (i := 14) scLaw.nd rfl (Or.inl rfl))
                  (fun _ _ _ _ _ => pts_one (pt_cmpR (op_notInK K rfl) (pv 14) (pv 11) (by rfl))) (fun _ _ _ _ _ => pv 14)) (pe_lst pa_nil) (nomark _))) (fun _ _ _ _ _ => pv 13)) (pe_lst pa_nil) (nomark _)))
            (pss_one (ps_if (pt_cmpR op_ne (pe_cal L.yes h9 (pa_cons (pv 10) (pa_cons (pv 11) pa_nil))) (pv 12) (nomark _)) (pss_one (ps_ret pe_bl)) pss_nil)))))))))))))
        (pss_one (ps_if (PW.pt (pw_or (pt_not (pt_cmpR (op_same L.eqs h8) (pe_cal L.fam h21 (pa_cons (pv 4) (pa_cons (pe_lst pa_nil) pa_nil))) (pe_end L.mkE h11 pe_str) (nomark _)))
            (pw_or1 (pt_not (pt_cmpR (op_same L.eqs h8) (pe_cal L.fam h21 (pa_cons (pv 4) (pa_cons (pe_lst (pa_cons (pv 4) (pa_cons (pe_tup pa_nil) pa_nil))) pa_nil))) (pe_end L.mkE h11 pe_str) (nomark _)))))) (pss_one (ps_ret pe_bl)) pss_nil)))))))
      (pss_one (ps_ret pe_bl)), ?_⟩
    have big : (100000 : Nat) ≤ sizeLine := by decide
    refine ⟨_, rfl, a, _, rfl, .inl hS, _, _, rfl, _, _, rfl, ?_⟩
    have nb : ∀ k : Int, 0 ≤ k → ∀ m : Int, m = (if (if k < 4 then k else 4) > 2 then (if k < 4 then k else 4) else 2) → 2 ≤ m ∧ m ≤ 4 := fun k k0 m e => by
      rw [e]
      split <;> split <;> omega
    obtain ⟨n0, n1⟩ := nb ((ns.map V.int).length : Int) (by omega) _ rfl
    refine ⟨_, rfl, by omega, by omega, for_range (fun i σ H1 => (∃ v1 v2 v3 v4 v5 v6 v7 v8 v9 v10 v11 v12 v13 v14, σ = [some (.ref a), v1, v2, v3, v4, v5, v6, v7, v8, v9, v10, v11, v12, v13, v14]) ∧ Same H H1) ⟨⟨_, _, _, _, _, _, _, _, _, _, _, _, _, _, rfl⟩, Same.refl _⟩ ?_ ?_⟩
    case refine_2 =>
      rintro σ H1 ⟨⟨v1, v2, v3, v4, v5, v6, v7, v8, v9, v10, v11, v12, v13, v14, rfl⟩, s1⟩
      exact go H1
    rintro i σ H1 hi ⟨⟨v1, v2, v3, v4, v5, v6, v7, v8, v9, v10, v11, v12, v13, v14, rfl⟩, s1⟩
    have ez : (0 : Int) + (i : Int) = (i : Int) := by omega
    rw [ez]
    refine ⟨_, rfl, _, rfl, a, ns, i, rfl, SqL.ext hS s1, few, by omega, fun b H2 s2 nb1 tp2 => ?_⟩
    have s12 := s1.trans s2
    have nbH : H b = none := Same.free' s1 nb1
    -- the names
    refine ⟨by show 6 ≤ sizeLine; omega, fun LA nLA => ⟨by show 6 ≤ sizeLine; omega, fun LB nLB => ⟨by show 2 ≤ sizeLine; omega, fun LL nLL => ?_⟩⟩⟩
    generalize hH3 : upd (upd (upd H2 LA _) LB _) LL _ = H3
    have nAB : LA ≠ LB := ne_of_none upd_same nLB
    have nAL : LA ≠ LL := by
      refine ne_of_none (o := HO.lst (folkA.map V.str)) ?_ nLL
      rw [upd_ne nAB]
      exact upd_same
    have nBL : LB ≠ LL := ne_of_none upd_same nLL
    have c3 : Same H2 H3 := by
      rw [← hH3]
      exact ((same_new nLA).trans (same_new nLB)).trans (same_new nLL)
    have eA : H3 LA = some (.lst (folkA.map V.str)) := by
      rw [← hH3, upd_ne nAL, upd_ne nAB, upd_same]
      rfl
    have eB : H3 LB = some (.lst (folkB.map V.str)) := by
      rw [← hH3, upd_ne nBL, upd_same]
      rfl
    have eL : H3 LL = some (.lst [.ref LA, .ref LB]) := by
      rw [← hH3, upd_same]
    clear hH3
    have s13 := s12.trans c3
    have tp3 : Tp H3 b := by
      obtain ⟨x, y, e, r⟩ := tp2
      exact ⟨x, y, c3 _ _ e, r⟩
    have far : ∀ {c : Addr} {xs : List V}, H3 c = some (.lst xs) → (∀ x y : Int, xs ≠ [.int x, .int y]) → c ≠ b := fun {c xs} e n z => by
      obtain ⟨x, y, e', _⟩ := tp3
      rw [z, e'] at e
      injection e with e
      injection e with e
      exact n x y e.symm
    refine ⟨_, rfl, b, 2, rfl, tp3, by decide, by decide, fun r H4 r0 r1 k4 tp4 => ?_⟩
    obtain ⟨Ls, atr, which⟩ := one_folk (LA := LA) (LB := LB) r0 r1
    refine ⟨LL, _, r, .ref Ls, rfl, rfl, SqL.of (k4 _ _ (far eL (fun x y e => by cases e)) eL), atr, ?_⟩
    obtain ⟨folk, ef, fnd, fnm, l6, row⟩ : ∃ folk : List Str, H4 Ls = some (.lst (folk.map V.str)) ∧ folk.Nodup ∧ (∀ x ∈ folk, Nm x) ∧ folk.length = 6 ∧ ∀ x ∈ folk, x ∈ folkA ++ folkB := by
      rcases which with ⟨_, rfl⟩ | ⟨_, rfl⟩
      · exact ⟨folkA, k4 _ _ (far eA (fun x y e => by cases e)) eA, nd_A, nm_A, rfl, fun x hx => List.mem_append_left _ hx⟩
      · exact ⟨folkB, k4 _ _ (far eB (fun x y e => by cases e)) eB, nd_B, nm_B, rfl, fun x hx => List.mem_append_right _ hx⟩
    have s14 : Same H H4 := Keep.old s13 nbH k4
    clear which atr far
    refine ⟨_, rfl, _, rfl, b, Ls, _, rfl, tp4, .inl (SqL.of ef), by rw [List.length_map]; omega, fun q ys H5 pm k5 tp5 nq eq => ?_⟩
    have s15 : Same H H5 := Keep.old s14 nbH k5
    have qb : q ≠ b := fun e => tp4.is (by rw [← e]; exact nq)
    refine ⟨_, rfl, b, 6, rfl, tp5, by decide, by decide, fun r2 H6 r20 r21 k6 tp6 => ⟨_, _, rfl, rfl, _, rfl, q, _, rfl, SqL.of (k6 _ _ qb eq), fun fl nfl => ?_⟩⟩
    have s16 : Same H H6 := Keep.old s15 nbH k6
    obtain ⟨ws, ew, wnd, wsub, w1, w6⟩ := folk_of pm fnd l6 (z := 1 + r2) (by omega)
    rw [ew]
    have fk : Folk H (upd H6 fl (.lst (ws.map V.str))) b fl ws := ⟨s16.trans (same_new nfl), nbH, tp6.new nfl, upd_same, wnd, fun x hx => fnm x (wsub x hx), w1, w6, fun x hx => row x (wsub x hx)⟩
    generalize upd H6 fl (.lst (ws.map V.str)) = G0 at fk ⊢
    clear s1 s2 nb1 tp2 s12 nLA nLB nLL nAB nAL nBL c3 eA eB eL s13 tp3 k4 tp4 ef fnd fnm l6 row s14 pm k5 tp5 nq eq s15 qb r20 r21 k6 tp6 nfl s16 ew wsub r0 r1
    -- the laps
    refine ⟨_, rfl, by decide, by decide, for_range (n := 3) (fun j σ G => (∃ v3 v5 v6 v7 v8 v9 v10 v11 v12 v13 v14, σ = [some (.ref a), some (.int i), some (.ref b), v3, some (.ref fl), v5, v6, v7, v8, v9, v10, v11, v12, v13, v14]) ∧ Folk H G b fl ws) ⟨⟨_, _, _, _, _, _, _, _, _, _, _, rfl⟩, fk⟩ ?_ ?_⟩
    · clear fk
      rintro j σ G hj ⟨⟨v3, v5, v6, v7, v8, v9, v10, v11, v12, v13, v14, rfl⟩, fk⟩
      refine ⟨_, rfl, _, rfl, b, fl, ws, rfl, fk.tp, fk.at_, fk.nd, fk.hi, fun p rs G1 k1 tp1 np ep se l6 => ?_⟩
      have fk1 := fk.keep k1 tp1
      obtain ⟨lots, fm, wi, nd⟩ := sets_fm se
      have rl := fm.len
      have atR : ∀ {i : Nat} {r : Addr}, rs[i]? = some r → ∃ lot, lots[i]? = some lot ∧ G1 r = some (.lst (lot.map V.str)) := fun {i r} h => by
        obtain ⟨lot, h1, h2⟩ := fm.get h
        obtain ⟨lot', h3, _⟩ := se r (List.mem_of_getElem? h)
        rcases h2 with h2 | h2
        · exact ⟨lot, h1, h2⟩
        · rw [h3] at h2
          cases h2
      have pb : p ≠ b := tp_ne_refs tp1 ep
      clear fk k1 np
      -- the sets, as lists or tuples
      refine ⟨_, rfl, p, rfl, ⟨_, SqL.of ep⟩, fun D nD => ?_⟩
      have nDb : D ≠ b := fun e => fk1.tp.is (by rw [← e]; exact nD)
      refine lc_list (K := K) (a := p) (xs := rs.map V.ref) (fun j G' => ∃ gs : List Addr, G' D = some (.lst (gs.map V.ref)) ∧ Keep b G1 G' ∧ Tp G' b ∧ Fm G' gs (lots.take j) ∧ gs.length = j ∧ ∀ q ∈ gs, q ≠ D)
        ⟨[], upd_same, Keep.new nD, fk1.tp.new nD, trivial, rfl, fun q h => nomatch h⟩ (fun j G' _ ⟨gs, _, k, _⟩ => SqL.of (k _ _ pb ep)) ?_ ?_
      · rintro j z G' hz ⟨gs, gD, kG, tG, fG, lG, oG⟩
        rw [List.getElem?_map] at hz
        obtain ⟨r, hr2, rfl⟩ := Option.map_eq_some_iff.mp hz
        obtain ⟨lot, hlot, er⟩ := atR hr2
        have jl : j < rs.length := (List.getElem?_eq_some_iff.mp hr2).1
        have er' := kG _ _ (tp_ne fk1.tp er) er
        refine ⟨rfl, iteT (B := True) ⟨_, rfl, r, _, rfl, .inl (SqL.of er'), fun u nu => ⟨_, rfl, r, _, rfl, .inl ⟨SqL.of ((same_new nu) _ _ er'), fun u2 nu2 => ⟨by show 2 ≤ sizeLine; omega, fun LL nLL => ⟨_, rfl, b, 2, rfl, ((tG.new nu).new nu2).new nLL, by decide, by decide, fun x G5 x0 x1 k5 tp5 => ?_⟩⟩⟩⟩⟩⟩
        obtain ⟨Ls, atx, sq, eLL, kk, ol⟩ := choice tG nu nu2 nLL k5 x0 x1
        have gD5 := kk _ _ nDb gD
        have LsD : Ls ≠ D := Ne.symm (ol _ _ gD)
        have Lb : Ls ≠ b := seq_ne tp5 sq
        refine ⟨LL, _, x, .ref Ls, rfl, rfl, SqL.of eLL, atx, _, gD5, by rw [List.length_map]; omega, gs ++ [Ls], by rw [List.map_append]; exact upd_same, fun c o n e => ?_, ?_, ?_, by rw [List.length_append, lG] <;> rfl, fun q hq => ?_⟩
        · rw [upd_ne (ne_of_none e nD)]
          exact kk _ _ n (kG _ _ n e)
        · exact tp5.other nDb
        · rw [List.take_add_one, hlot]
          exact (Fm.put (Fm.tape tG kk fG) oG).snoc (sq.imp (fun e => by rw [upd_ne LsD]; exact e) (fun e => by rw [upd_ne LsD]; exact e))
        · rcases List.mem_append.mp hq with h | h
          · exact oG q h
          · rw [List.mem_singleton.mp h]
            exact LsD
      rintro G2 ⟨gs, gD, kG, tG, fG, lG, oG⟩
      rw [List.length_map, rl, List.take_length] at fG
      rw [List.length_map] at lG
      have fk2 := fk1.keep kG tG
      have ep2 := kG _ _ pb ep
      have atR2 : ∀ {i : Nat} {r : Addr}, rs[i]? = some r → ∃ lot, lots[i]? = some lot ∧ G2 r = some (.lst (lot.map V.str)) := fun {i r} h => by
        obtain ⟨lot, h1, h2⟩ := atR h
        exact ⟨lot, h1, kG _ _ (tp_ne fk1.tp h2) h2⟩
      clear fk1 atR ep kG fm nD oG se
      -- the people, as a list or a tuple
      refine ⟨_, rfl, fl, _, rfl, .inl (SqL.of fk2.at_), fun u nu => ⟨_, rfl, fl, _, rfl, .inl ⟨SqL.of ((same_new nu) _ _ fk2.at_), fun u2 nu2 => ⟨by show 2 ≤ sizeLine; omega, fun LL nLL => ⟨_, rfl, b, 2, rfl, ((tG.new nu).new nu2).new nLL, by decide, by decide, fun x G3 x0 x1 k5 tp5 => ?_⟩⟩⟩⟩⟩
      obtain ⟨hd, atx, sq, eLL, kk, ol⟩ := choice tG nu nu2 nLL k5 x0 x1
      refine ⟨LL, _, x, .ref hd, rfl, rfl, SqL.of eLL, atx, ?_⟩
      have fk3 := fk2.keep kk tp5
      have ep3 := kk _ _ pb ep2
      have gD3 := kk _ _ nDb gD
      have fG3 := Fm.tape tG kk fG
      have atR3 : ∀ {i : Nat} {r : Addr}, rs[i]? = some r → ∃ lot, lots[i]? = some lot ∧ G3 r = some (.lst (lot.map V.str)) := fun {i r} h => by
        obtain ⟨lot, h1, h2⟩ := atR2 h
        exact ⟨lot, h1, kk _ _ (tp_ne tG h2) h2⟩
      clear fk2 ep2 gD fG atR2 nu nu2 nLL k5 x0 x1 atx eLL kk ol tG tp5
      have few6 : lots.length ≤ 6 := by omega
      have each : ∀ lot ∈ lots, lot.length ≤ 6 ∧ lot.Nodup := fun lot h => ⟨Nat.le_trans (lot_few (nd lot h) (wi lot h)) fk3.hi, nd lot h⟩
      have eachR : ∀ lot ∈ lots, lot.length ≤ 6 ∧ ∀ x ∈ lot, x ∈ folkA ++ folkB := fun lot h => ⟨(each lot h).1, fun x hx => fk3.row x (wi lot h x hx)⟩
      obtain ⟨txt, rt⟩ := repr_both (K := K) (RL := 0) gD3 fG3 few6 eachR sq fk3.hi fk3.row
      refine ⟨_, rfl, _, rfl, by show 2 ≤ sizeLine; omega, fun RL nRL => ?_⟩
      unfold tNil
      show Vx.rRepr K 60 [.ref RL] _ _
      refine rt (same_new nRL) upd_same _ ?_
      have s4 : Same G3 (upd G3 RL (.lst [.ref D, .ref hd])) := same_new nRL
      generalize upd G3 RL (.lst [.ref D, .ref hd]) = G4 at s4 ⊢
      have fk4 := fk3.same s4
      -- the draw
      refine ⟨_, rfl, _, rfl, hd, D, ws, gs, lots, rfl, sq.keep s4, fk3.lo, fk3.hi, fk3.nd, fk3.nm, s4 _ _ gD3, fG3.keep s4, few6, each, wi, fun q qs G5 s5 pm isd => ?_⟩
      have s35 := s4.trans s5
      obtain ⟨_, fdeep, ffair⟩ := fam_right (who := []) pm wi
      -- what was handed in has stayed
      refine ⟨_, rfl, _, rfl, by show 2 ≤ sizeLine; omega, fun RL2 nRL2 => ?_⟩
      show Vx.rRepr K 60 [.ref RL2] _ _
      refine rt (s35.trans (same_new nRL2)) upd_same _ ?_
      have s56 : Same G5 (upd G5 RL2 (.lst [.ref D, .ref hd])) := same_new nRL2
      have s36 := s35.trans s56
      generalize upd G5 RL2 (.lst [.ref D, .ref hd]) = G6 at s56 s36 ⊢
      have fk6 := fk3.same s36
      have isd6 := isd.same mo s56
      refine ⟨_, rfl, by trivial, _, rfl, ?_⟩
      rw [show (!decide (V.str txt = V.str txt)) = false from by rw [decide_eq_true rfl] <;> rfl]
      refine iteF ?_
      -- fair
      have nws : [V.ref q, V.ref fl, V.int (((ws.map V.str).length : Nat) : Int)] = [V.ref q, V.ref fl, V.int ((ws.length : Nat) : Int)] := by rw [List.length_map]
      have d7 : (fam qs lots).deep < 7 := by
        have := fk3.hi
        omega
      refine ⟨_, rfl, _, rfl, _, rfl, fl, _, rfl, .inl (SqL.of fk6.at_), q, fl, ws.length, fam qs lots, ws, nws, isd6, d7, fdeep, ffair, fk6.at_, fun G7 s67 => ⟨_, rfl, iteF ?_⟩⟩
      have s37 := s36.trans s67
      have fk7 := fk6.same s67
      -- all sets of people
      refine ⟨_, rfl, fl, ws, rfl, SqL.of fk7.at_, fk7.hi, fun pw rw' G8 s78 epw low l64 => ?_⟩
      have s38 := s37.trans s78
      have fk8 := fk7.same s78
      have isd8 := isd6.same mo (s67.trans s78)
      refine ⟨pw, rfl, ⟨_, SqL.of epw⟩, for_list (K := K) (a := pw) (xs := rw'.map V.ref) (fun jj σ G' => (∃ v11 v12 v13 v14, σ = [some (.ref a), some (.int i), some (.ref b), v3, some (.ref fl), some (.int (0 + (j : Int))), some (.ref p), some (.ref D), some (.ref hd), some (.str txt), some (.ref q), v11, v12, v13, v14]) ∧ Same G8 G') ⟨⟨_, _, _, _, rfl⟩, Same.refl _⟩ (fun jj σ G' _ h => SqL.of (h.2 _ _ epw)) ?_ ?_⟩
      · rintro jj z σ G9 hz ⟨⟨u11, u12, u13, u14, rfl⟩, s89⟩
        rw [List.getElem?_map] at hz
        obtain ⟨wl, hwl, rfl⟩ := Option.map_eq_some_iff.mp hz
        obtain ⟨who, ewho, wfew⟩ := low wl (List.mem_of_getElem? hwl)
        have s39 := s38.trans s89
        have ep9 := s39 _ _ ep3
        have ewho9 := s89 _ _ ewho
        refine ⟨_, rfl, p, rfl, ⟨_, SqL.of ep9⟩, fun D2 nD2 => ?_⟩
        refine lc_list (K := K) (a := p) (xs := rs.map V.ref) (fun m G' => ∃ ss : List Addr, G' D2 = some (.lst (ss.map V.ref)) ∧ Same G9 G' ∧ Fm G' ss ((lots.take m).filter fun lot => decide ((lot.filter fun x => decide (x ∉ who)) = [])) ∧ ss.length ≤ m ∧ ∀ q ∈ ss, q ≠ D2)
          ⟨[], upd_same, same_new nD2, trivial, Nat.le_refl _, fun q h => nomatch h⟩ (fun m G' _ ⟨ss, _, k, _⟩ => SqL.of (k _ _ ep9)) ?_ ?_
        · rintro m z Ga hz ⟨ss, ssD, sa, fa, la, oa⟩
          rw [List.getElem?_map] at hz
          obtain ⟨r, hr2, rfl⟩ := Option.map_eq_some_iff.mp hz
          obtain ⟨lot, hlot, er⟩ := atR3 hr2
          have ml : m < rs.length := (List.getElem?_eq_some_iff.mp hr2).1
          have lotR : ∀ x ∈ lot, x ∈ folkA ++ folkB := (eachR lot (List.mem_of_getElem? hlot)).2
          have lot6 : lot.length ≤ 6 := (eachR lot (List.mem_of_getElem? hlot)).1
          have era := sa _ _ (s39 _ _ er)
          have ewa := sa _ _ ewho9
          refine ⟨rfl, _, rfl, r, rfl, ⟨_, SqL.of era⟩, fun D3 nD3 => ?_⟩
          refine lc_list (K := K) (a := r) (xs := lot.map V.str) (fun k G' => G' D3 = some (.lst (((lot.take k).filter fun x => decide (x ∉ who)).map V.str)) ∧ Same Ga G') ⟨upd_same, same_new nD3⟩ (fun k G' _ q => SqL.of (q.2 _ _ era)) ?_ ?_
          · rintro k z Gb hz ⟨eb, sb⟩
            rw [List.getElem?_map] at hz
            obtain ⟨x, hx, rfl⟩ := Option.map_eq_some_iff.mp hz
            have kl : k < lot.length := (List.getElem?_eq_some_iff.mp hx).1
            have lenf : ((lot.take k).filter fun x => decide (x ∉ who)).length ≤ k := Nat.le_trans (List.length_filter_le _ _) (by rw [List.length_take]; omega)
            refine ⟨rfl, _, rfl, _, rfl, wl, _, rfl, .inl (SqL.of (sb _ _ ewa)), rfl, flat_all, _, rfl, ?_⟩
            show if (!inV (.str x) (who.map V.str)) = true then _ else _
            rw [inV_str]
            have step : (lot.take (k + 1)).filter (fun x => decide (x ∉ who)) = (lot.take k).filter (fun x => decide (x ∉ who)) ++ (if x ∈ who then [] else [x]) := by
              rw [List.take_add_one, hx, List.filter_append]
              congr 1
              by_cases c : x ∈ who
              · rw [if_pos c]
                simp [c]
              · rw [if_neg c]
                simp [c]
            by_cases c : x ∈ who
            · rw [decide_eq_true c]
              rw [if_pos c, List.append_nil] at step
              exact iteF ⟨by rw [step]; exact eb, sb⟩
            · rw [decide_eq_false c]
              rw [if_neg c] at step
              refine iteT ⟨_, rfl, _, eb, by rw [List.length_map]; omega, ?_, fun c o e => by rw [upd_ne (ne_of_none e nD3)]; exact sb _ _ e⟩
              rw [step, List.map_append]
              exact upd_same
          · rintro Gb ⟨eb, sb⟩
            rw [List.length_map, List.take_length] at eb
            refine ⟨by show 0 ≤ sizeLine; omega, fun LN nLN => ?_⟩
            have sbc : Same Gb (upd Gb LN (.lst [])) := same_new nLN
            have eLN : (upd Gb LN (.lst [])) LN = some (.lst []) := upd_same
            generalize upd Gb LN (.lst []) = Gc at sbc eLN ⊢
            have sac := sb.trans sbc
            refine ⟨_, _, .lst (SqL.of (sbc _ _ eb)) (dp_names _), .lst (SqL.of eLN) .nil, shaped_names _ (fun x hx => lotR x (List.mem_filter.mp hx).1), rfl, _, rfl, ?_⟩
            rw [eqv_nil]
            have nee : ((lot.filter fun x => decide (x ∉ who)).map PyData.str).isEmpty = decide ((lot.filter fun x => decide (x ∉ who)) = []) := by
              cases (lot.filter fun x => decide (x ∉ who)) with
              | nil => rfl
              | cons a b => rfl
            rw [nee]
            have fc := fa.keep sac
            have ssc := sac _ _ ssD
            have step : (lots.take (m + 1)).filter (fun lot => decide ((lot.filter fun x => decide (x ∉ who)) = [])) = (lots.take m).filter (fun lot => decide ((lot.filter fun x => decide (x ∉ who)) = [])) ++ (if (lot.filter fun x => decide (x ∉ who)) = [] then [lot] else []) := by
              rw [List.take_add_one, hlot, List.filter_append]
              congr 1
              by_cases c : (lot.filter fun x => decide (x ∉ who)) = []
              · rw [if_pos c]
                exact List.filter_cons_of_pos (decide_eq_true c)
              · rw [if_neg c]
                exact List.filter_cons_of_neg (by rw [decide_eq_false c]; decide)
            by_cases c : (lot.filter fun x => decide (x ∉ who)) = []
            · rw [decide_eq_true c]
              rw [if_pos c] at step
              have erc := sac _ _ era
              have rD : r ≠ D2 := fun e => by
                rw [e] at er
                exact ne_of_none (s39 _ _ er) nD2 rfl
              refine iteT ⟨_, rfl, _, ssc, by rw [List.length_map]; omega, ss ++ [r], by rw [List.map_append]; exact upd_same, fun c o e => by rw [upd_ne (ne_of_none e nD2)]; exact (sa.trans sac) _ _ e, ?_, by rw [List.length_append]; show _ + 1 ≤ _; omega, fun q hq => ?_⟩
              · rw [step]
                exact (fc.put oa).snoc (.inl (by rw [upd_ne rD]; exact erc))
              · rcases List.mem_append.mp hq with h | h
                · exact oa q h
                · rw [List.mem_singleton.mp h]
                  exact rD
            · rw [decide_eq_false c]
              rw [if_neg c, List.append_nil] at step
              exact iteF ⟨ss, ssc, sa.trans sac, by rw [step]; exact fc, by omega, oa⟩
        rintro Ga ⟨ss, ssD, sa, fa, la, oa⟩
        rw [List.length_map, rl, List.take_length] at fa
        obtain ⟨ds, h1, h2, h3, h4, h5, h6⟩ := dp_lots (K := K) fa fun lot h => eachR lot (List.mem_filter.mp h).1
        refine ⟨by show 0 ≤ sizeLine; omega, fun LN nLN => ?_⟩
        have sab : Same Ga (upd Ga LN (.lst [])) := same_new nLN
        have eLN : (upd Ga LN (.lst [])) LN = some (.lst []) := upd_same
        generalize upd Ga LN (.lst []) = Gb at sab eLN ⊢
        refine ⟨.list ds, .list [], .lst (SqL.of (sab _ _ ssD)) (dpa_same sab ds _ h1), .lst (SqL.of eLN) .nil, shaped_lots h5 h6, rfl, ?_⟩
        rw [eqv_nil]
        have due : (!ds.isEmpty) = decide (Some' who lots) := by
          rw [← due_iff who lots]
          congr 1
          cases ds with
          | nil =>
            cases e : lots.filter fun lot => decide ((lot.filter fun x => decide (x ∉ who)) = []) with
            | nil => rfl
            | cons a b => rw [e] at h2; cases h2
          | cons d ds' =>
            cases e : lots.filter fun lot => decide ((lot.filter fun x => decide (x ∉ who)) = []) with
            | nil => rw [e] at h2; cases h2
            | cons a b => rfl
        rw [due]
        have sb9 := sa.trans sab
        refine ⟨_, rfl, _, rfl, q, wl, fam qs lots, who, rfl, isd8.same mo (s89.trans sb9), d7, SqL.of (sb9 _ _ ewho9), fun Gc sc => ?_⟩
        obtain ⟨fr, _, _⟩ := fam_right (who := who) pm wi
        rw [fr]
        refine ⟨_, rfl, by trivial, _, rfl, ?_⟩
        rw [show (!decide (V.bl (decide (Some' who lots)) = V.bl (decide (Some' who lots)))) = false from by rw [decide_eq_true rfl] <;> rfl]
        exact iteF ⟨⟨_, _, _, _, rfl⟩, (s89.trans sb9).trans sc⟩
      · rintro σ G9 ⟨⟨u11, u12, u13, u14, rfl⟩, s89⟩
        exact ⟨⟨_, _, _, _, _, _, _, _, _, _, _, rfl⟩, fk8.same s89⟩
    · rintro σ G ⟨⟨v3, v5, v6, v7, v8, v9, v10, v11, v12, v13, v14, rfl⟩, fk⟩
      have d0 : ∀ {qs : List Str} {lots : List (List Str)}, qs.Perm ws → (fam qs lots).deep ≤ 6 := fun {qs lots} pm => by
        have h1 := fam_deep qs lots
        have h2 := pm.length_eq
        have h3 := fk.hi
        omega
      refine ⟨_, rfl, by show 0 ≤ sizeLine; omega, fun E1 nE1 => ?_⟩
      have s1' : Same G (upd G E1 (.lst [])) := same_new nE1
      have eE1 : (upd G E1 (.lst [])) E1 = some (.lst []) := upd_same
      generalize upd G E1 (.lst []) = G1 at s1' eE1 ⊢
      have fk1 := fk.same s1'
      refine ⟨fl, E1, ws, [], [], rfl, .inl fk1.at_, fk1.lo, fk1.hi, fk1.nd, fk1.nm, eE1, trivial, Nat.zero_le _, (fun lot h => nomatch h), (fun lot h => nomatch h), fun q qs G2 s12 pm isd => ?_⟩
      have fk2 := fk1.same s12
      intro px pd hx hd ne
      refine rd_end hx hd ne (by rfl) (.inl rfl) fun G3 s23 isd3 => ⟨rfl, ?_⟩
      have fk3 := fk2.same s23
      rw [fam_no] at isd
      refine ⟨q, px, _, _, rfl, rfl, isd.same mo s23, isd3, Nat.zero_le _, Nat.zero_le _, fun G4 s34 => ⟨_, rfl, ?_⟩⟩
      have fk4 := fk3.same s34
      rw [decide_eq_true (rfl : Dr.fin ("no" : Str) = Dr.fin "no")]
      refine iteF ⟨_, rfl, _, rfl, by show 0 ≤ sizeLine; omega, fun TT nTT => ⟨by show 2 ≤ sizeLine; omega, fun E2 nE2 => ?_⟩⟩
      have s45 : Same G4 (upd (upd G4 TT (.tup [])) E2 (.lst [.ref fl, .ref TT])) := (same_new nTT).trans (same_new nE2)
      have eTT : (upd (upd G4 TT (.tup [])) E2 (.lst [.ref fl, .ref TT])) TT = some (.tup []) := (same_new nE2) _ _ upd_same
      have eE2 : (upd (upd G4 TT (.tup [])) E2 (.lst [.ref fl, .ref TT])) E2 = some (.lst [.ref fl, .ref TT]) := upd_same
      generalize upd (upd G4 TT (.tup [])) E2 (.lst [.ref fl, .ref TT]) = G5 at s45 eTT eE2 ⊢
      have fk5 := fk4.same s45
      refine ⟨fl, E2, ws, [fl, TT], [ws, []], rfl, .inl fk5.at_, fk5.lo, fk5.hi, fk5.nd, fk5.nm, eE2, ⟨.inl fk5.at_, .inr eTT, trivial⟩, by show 2 ≤ 6; decide, (fun lot h => ?_), (fun lot h x hx => ?_), fun q2 qs2 G6 s56 pm2 isd2 => ?_⟩
      · simp only [List.mem_cons, List.not_mem_nil, or_false] at h
        rcases h with rfl | rfl
        · exact ⟨fk5.hi, fk5.nd⟩
        · exact ⟨Nat.zero_le _, List.nodup_nil⟩
      · simp only [List.mem_cons, List.not_mem_nil, or_false] at h
        rcases h with rfl | rfl
        · exact hx
        · cases hx
      have fk6 := fk5.same s56
      intro py pe hy he ne2
      refine rd_end hy he ne2 (by rfl) (.inr rfl) fun G7 s67 isd7 => ⟨rfl, ?_⟩
      have fk7 := fk6.same s67
      rw [fam_yes _ (List.mem_cons_of_mem _ (List.mem_cons_self ..))] at isd2
      refine ⟨q2, py, _, _, rfl, rfl, isd2.same mo s67, isd7, Nat.zero_le _, Nat.zero_le _, fun G8 s78 => ⟨_, rfl, ?_⟩⟩
      have fk8 := fk7.same s78
      rw [decide_eq_true (rfl : Dr.fin ("yes" : Str) = Dr.fin "yes")]
      refine iteF ?_
      exact ⟨⟨_, _, _, _, _, _, _, _, _, _, _, _, _, _, rfl⟩, fk8.old⟩
end
end K42

set_option Elab.async false
set_option linter.all false
set_option maxRecDepth 100000
set_option maxHeartbeats 4000000
/-! The law over draws for families: what the top has written. -/
namespace K42
open PySem PySem.Spec PyProof.Rows L2 Vx Vr
/-- a def stands at f -/
def FnB (K : PySem.W.Frag) (x qual : Str) (st : Stmt) (f : Addr) (ps : List Str) : Prop := ∃ fd, L2.Fun K x qual st f fd ∧ Binds K fd ps []
theorem fb_t4 {K : PySem.W.Frag} {f : Addr} {oc kV doc pm cdv ct : Value} {od an : Option Addr} {osl : Array (Option Value)}
    (l : K.lookup f = some ⟨oc, od, .func (PySem.W.fnOf "is_whole" "is_whole" (defArgs (top 4)) (defBody (top 4)) (defScope (top 4)) .none kV doc pm an cdv ct), osl⟩) (c : PySem.W.codeIn K cdv "is_whole" = true) (k : PySem.W.keepIn K (.ref f) = true) : FnB K "is_whole" "is_whole" (top 4) f ["value"] :=
  ⟨_, fun_mk l c k, (fun_mk l c k).binds fun _ _ _ _ _ _ us hl => match us, hl with | [_], _ => rfl⟩
theorem fb_t5 {K : PySem.W.Frag} {f : Addr} {oc kV doc pm cdv ct : Value} {od an : Option Addr} {osl : Array (Option Value)}
    (l : K.lookup f = some ⟨oc, od, .func (PySem.W.fnOf "is_list" "is_list" (defArgs (top 5)) (defBody (top 5)) (defScope (top 5)) .none kV doc pm an cdv ct), osl⟩) (c : PySem.W.codeIn K cdv "is_list" = true) (k : PySem.W.keepIn K (.ref f) = true) : FnB K "is_list" "is_list" (top 5) f ["value"] :=
  ⟨_, fun_mk l c k, (fun_mk l c k).binds fun _ _ _ _ _ _ us hl => match us, hl with | [_], _ => rfl⟩
theorem fb_t6 {K : PySem.W.Frag} {f : Addr} {oc kV doc pm cdv ct : Value} {od an : Option Addr} {osl : Array (Option Value)}
    (l : K.lookup f = some ⟨oc, od, .func (PySem.W.fnOf "is_name" "is_name" (defArgs (top 6)) (defBody (top 6)) (defScope (top 6)) .none kV doc pm an cdv ct), osl⟩) (c : PySem.W.codeIn K cdv "is_name" = true) (k : PySem.W.keepIn K (.ref f) = true) : FnB K "is_name" "is_name" (top 6) f ["value"] :=
  ⟨_, fun_mk l c k, (fun_mk l c k).binds fun _ _ _ _ _ _ us hl => match us, hl with | [_], _ => rfl⟩
theorem fb_t7 {K : PySem.W.Frag} {f : Addr} {oc kV doc pm cdv ct : Value} {od an : Option Addr} {osl : Array (Option Value)}
    (l : K.lookup f = some ⟨oc, od, .func (PySem.W.fnOf "are_names" "are_names" (defArgs (top 7)) (defBody (top 7)) (defScope (top 7)) .none kV doc pm an cdv ct), osl⟩) (c : PySem.W.codeIn K cdv "are_names" = true) (k : PySem.W.keepIn K (.ref f) = true) : FnB K "are_names" "are_names" (top 7) f ["value", "most"] :=
  ⟨_, fun_mk l c k, (fun_mk l c k).binds fun _ _ _ _ _ _ us hl => match us, hl with | [_, _], _ => rfl⟩
theorem fb_t8 {K : PySem.W.Frag} {f : Addr} {oc kV doc pm cdv ct : Value} {od an : Option Addr} {osl : Array (Option Value)}
    (l : K.lookup f = some ⟨oc, od, .func (PySem.W.fnOf "are_some_of" "are_some_of" (defArgs (top 8)) (defBody (top 8)) (defScope (top 8)) .none kV doc pm an cdv ct), osl⟩) (c : PySem.W.codeIn K cdv "are_some_of" = true) (k : PySem.W.keepIn K (.ref f) = true) : FnB K "are_some_of" "are_some_of" (top 8) f ["value", "allowed"] :=
  ⟨_, fun_mk l c k, (fun_mk l c k).binds fun _ _ _ _ _ _ us hl => match us, hl with | [_, _], _ => rfl⟩
theorem fb_t25 {K : PySem.W.Frag} {f : Addr} {oc kV doc pm cdv ct : Value} {od an : Option Addr} {osl : Array (Option Value)}
    (l : K.lookup f = some ⟨oc, od, .func (PySem.W.fnOf "is_number" "is_number" (defArgs (top 25)) (defBody (top 25)) (defScope (top 25)) .none kV doc pm an cdv ct), osl⟩) (c : PySem.W.codeIn K cdv "is_number" = true) (k : PySem.W.keepIn K (.ref f) = true) : FnB K "is_number" "is_number" (top 25) f ["value"] :=
  ⟨_, fun_mk l c k, (fun_mk l c k).binds fun _ _ _ _ _ _ us hl => match us, hl with | [_], _ => rfl⟩
theorem fb_t26 {K : PySem.W.Frag} {f : Addr} {oc kV doc pm cdv ct : Value} {od an : Option Addr} {osl : Array (Option Value)}
    (l : K.lookup f = some ⟨oc, od, .func (PySem.W.fnOf "_parts" "_parts" (defArgs (top 26)) (defBody (top 26)) (defScope (top 26)) .none kV doc pm an cdv ct), osl⟩) (c : PySem.W.codeIn K cdv "_parts" = true) (k : PySem.W.keepIn K (.ref f) = true) : FnB K "_parts" "_parts" (top 26) f ["number"] :=
  ⟨_, fun_mk l c k, (fun_mk l c k).binds fun _ _ _ _ _ _ us hl => match us, hl with | [_], _ => rfl⟩
theorem fb_t27 {K : PySem.W.Frag} {f : Addr} {oc kV doc pm cdv ct : Value} {od an : Option Addr} {osl : Array (Option Value)}
    (l : K.lookup f = some ⟨oc, od, .func (PySem.W.fnOf "total" "total" (defArgs (top 27)) (defBody (top 27)) (defScope (top 27)) .none kV doc pm an cdv ct), osl⟩) (c : PySem.W.codeIn K cdv "total" = true) (k : PySem.W.keepIn K (.ref f) = true) : FnB K "total" "total" (top 27) f ["numbers"] :=
  ⟨_, fun_mk l c k, (fun_mk l c k).binds fun _ _ _ _ _ _ us hl => match us, hl with | [_], _ => rfl⟩
theorem fb_t34 {K : PySem.W.Frag} {f : Addr} {oc kV doc pm cdv ct : Value} {od an : Option Addr} {osl : Array (Option Value)}
    (l : K.lookup f = some ⟨oc, od, .func (PySem.W.fnOf "_checked_givers" "_checked_givers" (defArgs (top 34)) (defBody (top 34)) (defScope (top 34)) .none kV doc pm an cdv ct), osl⟩) (c : PySem.W.codeIn K cdv "_checked_givers" = true) (k : PySem.W.keepIn K (.ref f) = true) : FnB K "_checked_givers" "_checked_givers" (top 34) f ["givers"] :=
  ⟨_, fun_mk l c k, (fun_mk l c k).binds fun _ _ _ _ _ _ us hl => match us, hl with | [_], _ => rfl⟩
theorem fb_t35 {K : PySem.W.Frag} {f : Addr} {oc kV doc pm cdv ct : Value} {od an : Option Addr} {osl : Array (Option Value)}
    (l : K.lookup f = some ⟨oc, od, .func (PySem.W.fnOf "_are_shares" "_are_shares" (defArgs (top 35)) (defBody (top 35)) (defScope (top 35)) .none kV doc pm an cdv ct), osl⟩) (c : PySem.W.codeIn K cdv "_are_shares" = true) (k : PySem.W.keepIn K (.ref f) = true) : FnB K "_are_shares" "_are_shares" (top 35) f ["value"] :=
  ⟨_, fun_mk l c k, (fun_mk l c k).binds fun _ _ _ _ _ _ us hl => match us, hl with | [_], _ => rfl⟩
theorem fb_t39 {K : PySem.W.Frag} {f : Addr} {oc kV doc pm cdv ct : Value} {od an : Option Addr} {osl : Array (Option Value)}
    (l : K.lookup f = some ⟨oc, od, .func (PySem.W.fnOf "_are_alike" "_are_alike" (defArgs (top 39)) (defBody (top 39)) (defScope (top 39)) .none kV doc pm an cdv ct), osl⟩) (c : PySem.W.codeIn K cdv "_are_alike" = true) (k : PySem.W.keepIn K (.ref f) = true) : FnB K "_are_alike" "_are_alike" (top 39) f ["one", "other"] :=
  ⟨_, fun_mk l c k, (fun_mk l c k).binds fun _ _ _ _ _ _ us hl => match us, hl with | [_, _], _ => rfl⟩
theorem fb_t43 {K : PySem.W.Frag} {f : Addr} {oc kV doc pm cdv ct : Value} {od an : Option Addr} {osl : Array (Option Value)}
    (l : K.lookup f = some ⟨oc, od, .func (PySem.W.fnOf "fair_turn" "fair_turn" (defArgs (top 43)) (defBody (top 43)) (defScope (top 43)) .none kV doc pm an cdv ct), osl⟩) (c : PySem.W.codeIn K cdv "fair_turn" = true) (k : PySem.W.keepIn K (.ref f) = true) : FnB K "fair_turn" "fair_turn" (top 43) f ["person", "one", "other"] :=
  ⟨_, fun_mk l c k, (fun_mk l c k).binds fun _ _ _ _ _ _ us hl => match us, hl with | [_, _, _], _ => rfl⟩
theorem fb_t46 {K : PySem.W.Frag} {f : Addr} {oc kV doc pm cdv ct : Value} {od an : Option Addr} {osl : Array (Option Value)}
    (l : K.lookup f = some ⟨oc, od, .func (PySem.W.fnOf "family_draw" "family_draw" (defArgs (top 46)) (defBody (top 46)) (defScope (top 46)) .none kV doc pm an cdv ct), osl⟩) (c : PySem.W.codeIn K cdv "family_draw" = true) (k : PySem.W.keepIn K (.ref f) = true) : FnB K "family_draw" "family_draw" (top 46) f ["people", "sets"] :=
  ⟨_, fun_mk l c k, (fun_mk l c k).binds fun _ _ _ _ _ _ us hl => match us, hl with | [_, _], _ => rfl⟩
theorem fb_t47 {K : PySem.W.Frag} {f : Addr} {oc kV doc pm cdv ct : Value} {od an : Option Addr} {osl : Array (Option Value)}
    (l : K.lookup f = some ⟨oc, od, .func (PySem.W.fnOf "_family_draw" "_family_draw" (defArgs (top 47)) (defBody (top 47)) (defScope (top 47)) .none kV doc pm an cdv ct), osl⟩) (c : PySem.W.codeIn K cdv "_family_draw" = true) (k : PySem.W.keepIn K (.ref f) = true) : FnB K "_family_draw" "_family_draw" (top 47) f ["people", "sets"] :=
  ⟨_, fun_mk l c k, (fun_mk l c k).binds fun _ _ _ _ _ _ us hl => match us, hl with | [_, _], _ => rfl⟩
theorem fb_t49 {K : PySem.W.Frag} {f : Addr} {oc kV doc pm cdv ct : Value} {od an : Option Addr} {osl : Array (Option Value)}
    (l : K.lookup f = some ⟨oc, od, .func (PySem.W.fnOf "_law_tape" "_law_tape" (defArgs (top 49)) (defBody (top 49)) (defScope (top 49)) .none kV doc pm an cdv ct), osl⟩) (c : PySem.W.codeIn K cdv "_law_tape" = true) (k : PySem.W.keepIn K (.ref f) = true) : FnB K "_law_tape" "_law_tape" (top 49) f ["_law_script", "_law_k"] :=
  ⟨_, fun_mk l c k, (fun_mk l c k).binds fun _ _ _ _ _ _ us hl => match us, hl with | [_, _], _ => rfl⟩
theorem fb_t50 {K : PySem.W.Frag} {f : Addr} {oc kV doc pm cdv ct : Value} {od an : Option Addr} {osl : Array (Option Value)}
    (l : K.lookup f = some ⟨oc, od, .func (PySem.W.fnOf "_law_pick" "_law_pick" (defArgs (top 50)) (defBody (top 50)) (defScope (top 50)) .none kV doc pm an cdv ct), osl⟩) (c : PySem.W.codeIn K cdv "_law_pick" = true) (k : PySem.W.keepIn K (.ref f) = true) : FnB K "_law_pick" "_law_pick" (top 50) f ["_law_tape_here", "_law_many"] :=
  ⟨_, fun_mk l c k, (fun_mk l c k).binds fun _ _ _ _ _ _ us hl => match us, hl with | [_, _], _ => rfl⟩
theorem fb_t51 {K : PySem.W.Frag} {f : Addr} {oc kV doc pm cdv ct : Value} {od an : Option Addr} {osl : Array (Option Value)}
    (l : K.lookup f = some ⟨oc, od, .func (PySem.W.fnOf "_law_mixed" "_law_mixed" (defArgs (top 51)) (defBody (top 51)) (defScope (top 51)) .none kV doc pm an cdv ct), osl⟩) (c : PySem.W.codeIn K cdv "_law_mixed" = true) (k : PySem.W.keepIn K (.ref f) = true) : FnB K "_law_mixed" "_law_mixed" (top 51) f ["_law_tape_here", "_law_items"] :=
  ⟨_, fun_mk l c k, (fun_mk l c k).binds fun _ _ _ _ _ _ us hl => match us, hl with | [_, _], _ => rfl⟩
theorem fb_t52 {K : PySem.W.Frag} {f : Addr} {oc kV doc pm cdv ct : Value} {od an : Option Addr} {osl : Array (Option Value)}
    (l : K.lookup f = some ⟨oc, od, .func (PySem.W.fnOf "_law_lots" "_law_lots" (defArgs (top 52)) (defBody (top 52)) (defScope (top 52)) .none kV doc pm an cdv ct), osl⟩) (c : PySem.W.codeIn K cdv "_law_lots" = true) (k : PySem.W.keepIn K (.ref f) = true) : FnB K "_law_lots" "_law_lots" (top 52) f ["_law_names"] :=
  ⟨_, fun_mk l c k, (fun_mk l c k).binds fun _ _ _ _ _ _ us hl => match us, hl with | [_], _ => rfl⟩
theorem fb_t53 {K : PySem.W.Frag} {f : Addr} {oc kV doc pm cdv ct : Value} {od an : Option Addr} {osl : Array (Option Value)}
    (l : K.lookup f = some ⟨oc, od, .func (PySem.W.fnOf "_law_is_fair" "_law_is_fair" (defArgs (top 53)) (defBody (top 53)) (defScope (top 53)) .none kV doc pm an cdv ct), osl⟩) (c : PySem.W.codeIn K cdv "_law_is_fair" = true) (k : PySem.W.keepIn K (.ref f) = true) : FnB K "_law_is_fair" "_law_is_fair" (top 53) f ["_law_draw", "_law_folk_told", "_law_deep"] :=
  ⟨_, fun_mk l c k, (fun_mk l c k).binds fun _ _ _ _ _ _ us hl => match us, hl with | [_, _, _], _ => rfl⟩
theorem fb_t54 {K : PySem.W.Frag} {f : Addr} {oc kV doc pm cdv ct : Value} {od an : Option Addr} {osl : Array (Option Value)}
    (l : K.lookup f = some ⟨oc, od, .func (PySem.W.fnOf "_law_yes" "_law_yes" (defArgs (top 54)) (defBody (top 54)) (defScope (top 54)) .none kV doc pm an cdv ct), osl⟩) (c : PySem.W.codeIn K cdv "_law_yes" = true) (k : PySem.W.keepIn K (.ref f) = true) : FnB K "_law_yes" "_law_yes" (top 54) f ["_law_draw", "_law_who"] :=
  ⟨_, fun_mk l c k, (fun_mk l c k).binds fun _ _ _ _ _ _ us hl => match us, hl with | [_, _], _ => rfl⟩
theorem fb_t55 {K : PySem.W.Frag} {f : Addr} {oc kV doc pm cdv ct : Value} {od an : Option Addr} {osl : Array (Option Value)}
    (l : K.lookup f = some ⟨oc, od, .func (PySem.W.fnOf "_law_drawn_sets" "_law_drawn_sets" (defArgs (top 55)) (defBody (top 55)) (defScope (top 55)) .none kV doc pm an cdv ct), osl⟩) (c : PySem.W.codeIn K cdv "_law_drawn_sets" = true) (k : PySem.W.keepIn K (.ref f) = true) : FnB K "_law_drawn_sets" "_law_drawn_sets" (top 55) f ["_law_tape_here", "_law_folk_told"] :=
  ⟨_, fun_mk l c k, (fun_mk l c k).binds fun _ _ _ _ _ _ us hl => match us, hl with | [_, _], _ => rfl⟩
theorem fb_t56 {K : PySem.W.Frag} {f : Addr} {oc kV doc pm cdv ct : Value} {od an : Option Addr} {osl : Array (Option Value)}
    (l : K.lookup f = some ⟨oc, od, .func (PySem.W.fnOf "law" "law" (defArgs (top 56)) (defBody (top 56)) (defScope (top 56)) .none kV doc pm an cdv ct), osl⟩) (c : PySem.W.codeIn K cdv "law" = true) (k : PySem.W.keepIn K (.ref f) = true) : FnB K "law" "law" (top 56) f ["_law_script"] :=
  ⟨_, fun_mk l c k, (fun_mk l c k).binds fun _ _ _ _ _ _ us hl => match us, hl with | [_], _ => rfl⟩
theorem fb_m3 {K : PySem.W.Frag} {f : Addr} {oc kV doc pm cdv ct : Value} {od an : Option Addr} {osl : Array (Option Value)}
    (l : K.lookup f = some ⟨oc, od, .func (PySem.W.fnOf "__add__" "Ratio.__add__" (defArgs (mth 3)) (defBody (mth 3)) (defScope (mth 3)) .none kV doc pm an cdv ct), osl⟩) (c : PySem.W.codeIn K cdv "Ratio.__add__" = true) (k : PySem.W.keepIn K (.ref f) = true) : FnB K "__add__" "Ratio.__add__" (mth 3) f ["self", "other"] :=
  ⟨_, fun_mk l c k, (fun_mk l c k).binds fun _ _ _ _ _ _ us hl => match us, hl with | [_, _], _ => rfl⟩
theorem fb_m5 {K : PySem.W.Frag} {f : Addr} {oc kV doc pm cdv ct : Value} {od an : Option Addr} {osl : Array (Option Value)}
    (l : K.lookup f = some ⟨oc, od, .func (PySem.W.fnOf "__sub__" "Ratio.__sub__" (defArgs (mth 5)) (defBody (mth 5)) (defScope (mth 5)) .none kV doc pm an cdv ct), osl⟩) (c : PySem.W.codeIn K cdv "Ratio.__sub__" = true) (k : PySem.W.keepIn K (.ref f) = true) : FnB K "__sub__" "Ratio.__sub__" (mth 5) f ["self", "other"] :=
  ⟨_, fun_mk l c k, (fun_mk l c k).binds fun _ _ _ _ _ _ us hl => match us, hl with | [_, _], _ => rfl⟩
theorem fb_m7 {K : PySem.W.Frag} {f : Addr} {oc kV doc pm cdv ct : Value} {od an : Option Addr} {osl : Array (Option Value)}
    (l : K.lookup f = some ⟨oc, od, .func (PySem.W.fnOf "__mul__" "Ratio.__mul__" (defArgs (mth 7)) (defBody (mth 7)) (defScope (mth 7)) .none kV doc pm an cdv ct), osl⟩) (c : PySem.W.codeIn K cdv "Ratio.__mul__" = true) (k : PySem.W.keepIn K (.ref f) = true) : FnB K "__mul__" "Ratio.__mul__" (mth 7) f ["self", "other"] :=
  ⟨_, fun_mk l c k, (fun_mk l c k).binds fun _ _ _ _ _ _ us hl => match us, hl with | [_, _], _ => rfl⟩
theorem fb_m9 {K : PySem.W.Frag} {f : Addr} {oc kV doc pm cdv ct : Value} {od an : Option Addr} {osl : Array (Option Value)}
    (l : K.lookup f = some ⟨oc, od, .func (PySem.W.fnOf "__neg__" "Ratio.__neg__" (defArgs (mth 9)) (defBody (mth 9)) (defScope (mth 9)) .none kV doc pm an cdv ct), osl⟩) (c : PySem.W.codeIn K cdv "Ratio.__neg__" = true) (k : PySem.W.keepIn K (.ref f) = true) : FnB K "__neg__" "Ratio.__neg__" (mth 9) f ["self"] :=
  ⟨_, fun_mk l c k, (fun_mk l c k).binds fun _ _ _ _ _ _ us hl => match us, hl with | [_], _ => rfl⟩
theorem fb_m10 {K : PySem.W.Frag} {f : Addr} {oc kV doc pm cdv ct : Value} {od an : Option Addr} {osl : Array (Option Value)}
    (l : K.lookup f = some ⟨oc, od, .func (PySem.W.fnOf "__eq__" "Ratio.__eq__" (defArgs (mth 10)) (defBody (mth 10)) (defScope (mth 10)) .none kV doc pm an cdv ct), osl⟩) (c : PySem.W.codeIn K cdv "Ratio.__eq__" = true) (k : PySem.W.keepIn K (.ref f) = true) : FnB K "__eq__" "Ratio.__eq__" (mth 10) f ["self", "other"] :=
  ⟨_, fun_mk l c k, (fun_mk l c k).binds fun _ _ _ _ _ _ us hl => match us, hl with | [_, _], _ => rfl⟩
theorem fb_m13 {K : PySem.W.Frag} {f : Addr} {oc kV doc pm cdv ct : Value} {od an : Option Addr} {osl : Array (Option Value)}
    (l : K.lookup f = some ⟨oc, od, .func (PySem.W.fnOf "below" "Ratio.below" (defArgs (mth 13)) (defBody (mth 13)) (defScope (mth 13)) .none kV doc pm an cdv ct), osl⟩) (c : PySem.W.codeIn K cdv "Ratio.below" = true) (k : PySem.W.keepIn K (.ref f) = true) : FnB K "below" "Ratio.below" (mth 13) f ["self", "number"] :=
  ⟨_, fun_mk l c k, (fun_mk l c k).binds fun _ _ _ _ _ _ us hl => match us, hl with | [_, _], _ => rfl⟩
theorem fb_d0 {K : PySem.W.Frag} {f : Addr} {oc kV doc pm cdv ct : Value} {od an : Option Addr} {osl : Array (Option Value)}
    (l : K.lookup f = some ⟨oc, od, .func (PySem.W.fnOf "__init__" "Draw.__init__" (defArgs (inD 0)) (defBody (inD 0)) (defScope (inD 0)) .none kV doc pm an cdv ct), osl⟩) (c : PySem.W.codeIn K cdv "Draw.__init__" = true) (k : PySem.W.keepIn K (.ref f) = true) : FnB K "__init__" "Draw.__init__" (inD 0) f ["self", "word", "givers", "draws"] :=
  ⟨_, fun_mk l c k, (fun_mk l c k).binds fun _ _ _ _ _ _ us hl => match us, hl with | [_, _, _, _], _ => rfl⟩
theorem fb_d1 {K : PySem.W.Frag} {f : Addr} {oc kV doc pm cdv ct : Value} {od an : Option Addr} {osl : Array (Option Value)}
    (l : K.lookup f = some ⟨oc, od, .func (PySem.W.fnOf "__eq__" "Draw.__eq__" (defArgs (inD 1)) (defBody (inD 1)) (defScope (inD 1)) .none kV doc pm an cdv ct), osl⟩) (c : PySem.W.codeIn K cdv "Draw.__eq__" = true) (k : PySem.W.keepIn K (.ref f) = true) : FnB K "__eq__" "Draw.__eq__" (inD 1) f ["self", "other"] :=
  ⟨_, fun_mk l c k, (fun_mk l c k).binds fun _ _ _ _ _ _ us hl => match us, hl with | [_, _], _ => rfl⟩
theorem fb_e0 {K : PySem.W.Frag} {f : Addr} {oc kV doc pm cdv ct : Value} {od an : Option Addr} {osl : Array (Option Value)}
    (l : K.lookup f = some ⟨oc, od, .func (PySem.W.fnOf "__init__" "End.__init__" (defArgs (inE 0)) (defBody (inE 0)) (defScope (inE 0)) .none kV doc pm an cdv ct), osl⟩) (c : PySem.W.codeIn K cdv "End.__init__" = true) (k : PySem.W.keepIn K (.ref f) = true) : FnB K "__init__" "End.__init__" (inE 0) f ["self", "name"] :=
  ⟨_, fun_mk l c k, (fun_mk l c k).binds fun _ _ _ _ _ _ us hl => match us, hl with | [_, _], _ => rfl⟩
theorem fb_e1 {K : PySem.W.Frag} {f : Addr} {oc kV doc pm cdv ct : Value} {od an : Option Addr} {osl : Array (Option Value)}
    (l : K.lookup f = some ⟨oc, od, .func (PySem.W.fnOf "name" "End.name" (defArgs (inE 1)) (defBody (inE 1)) (defScope (inE 1)) .none kV doc pm an cdv ct), osl⟩) (c : PySem.W.codeIn K cdv "End.name" = true) (k : PySem.W.keepIn K (.ref f) = true) : FnB K "name" "End.name" (inE 1) f ["self"] :=
  ⟨_, fun_mk l c k, (fun_mk l c k).binds fun _ _ _ _ _ _ us hl => match us, hl with | [_], _ => rfl⟩
theorem fb_r0 {K : PySem.W.Frag} {f : Addr} {oc kV doc pm cdv ct : Value} {od an : Option Addr} {osl : Array (Option Value)}
    (l : K.lookup f = some ⟨oc, od, .func (PySem.W.fnOf "__init__" "Round.__init__" (defArgs (inR 0)) (defBody (inR 0)) (defScope (inR 0)) .none kV doc pm an cdv ct), osl⟩) (c : PySem.W.codeIn K cdv "Round.__init__" = true) (k : PySem.W.keepIn K (.ref f) = true) : FnB K "__init__" "Round.__init__" (inR 0) f ["self", "kind", "givers", "draws"] :=
  ⟨_, fun_mk l c k, (fun_mk l c k).binds fun _ _ _ _ _ _ us hl => match us, hl with | [_, _, _, _], _ => rfl⟩
theorem fb_r1 {K : PySem.W.Frag} {f : Addr} {oc kV doc pm cdv ct : Value} {od an : Option Addr} {osl : Array (Option Value)}
    (l : K.lookup f = some ⟨oc, od, .func (PySem.W.fnOf "kind" "Round.kind" (defArgs (inR 1)) (defBody (inR 1)) (defScope (inR 1)) .none kV doc pm an cdv ct), osl⟩) (c : PySem.W.codeIn K cdv "Round.kind" = true) (k : PySem.W.keepIn K (.ref f) = true) : FnB K "kind" "Round.kind" (inR 1) f ["self"] :=
  ⟨_, fun_mk l c k, (fun_mk l c k).binds fun _ _ _ _ _ _ us hl => match us, hl with | [_], _ => rfl⟩
theorem fb_r2 {K : PySem.W.Frag} {f : Addr} {oc kV doc pm cdv ct : Value} {od an : Option Addr} {osl : Array (Option Value)}
    (l : K.lookup f = some ⟨oc, od, .func (PySem.W.fnOf "givers" "Round.givers" (defArgs (inR 2)) (defBody (inR 2)) (defScope (inR 2)) .none kV doc pm an cdv ct), osl⟩) (c : PySem.W.codeIn K cdv "Round.givers" = true) (k : PySem.W.keepIn K (.ref f) = true) : FnB K "givers" "Round.givers" (inR 2) f ["self"] :=
  ⟨_, fun_mk l c k, (fun_mk l c k).binds fun _ _ _ _ _ _ us hl => match us, hl with | [_], _ => rfl⟩
theorem fb_r3 {K : PySem.W.Frag} {f : Addr} {oc kV doc pm cdv ct : Value} {od an : Option Addr} {osl : Array (Option Value)}
    (l : K.lookup f = some ⟨oc, od, .func (PySem.W.fnOf "draws" "Round.draws" (defArgs (inR 3)) (defBody (inR 3)) (defScope (inR 3)) .none kV doc pm an cdv ct), osl⟩) (c : PySem.W.codeIn K cdv "Round.draws" = true) (k : PySem.W.keepIn K (.ref f) = true) : FnB K "draws" "Round.draws" (inR 3) f ["self"] :=
  ⟨_, fun_mk l c k, (fun_mk l c k).binds fun _ _ _ _ _ _ us hl => match us, hl with | [_], _ => rfl⟩
/-- __init__ with its default -/
def FnI (K : PySem.W.Frag) (f : Addr) : Prop := ∃ fd, FunD K "__init__" "Ratio.__init__" (defArgs (mth 0)) (defBody (mth 0)) (defScope (mth 0)) [.int 1] [] f fd
theorem fi_mk {K : PySem.W.Frag} {f T : Addr} {oc kV doc pm cdv ct : Value} {od an : Option Addr} {osl : Array (Option Value)} {o : Obj} {t : Tok} {n : Nat}
    (l : K.lookup f = some ⟨oc, od, .func (PySem.W.fnOf "__init__" "Ratio.__init__" (defArgs (mth 0)) (defBody (mth 0)) (defScope (mth 0)) (.ref T) kV doc pm an cdv ct), osl⟩) (c : PySem.W.codeIn K cdv "Ratio.__init__" = true) (k : PySem.W.keepIn K (.ref f) = true)
    (lT : K.lookup T = some o) (oT : o.data = .seq #[.int 1 t] n) : FnI K f :=
  ⟨_, ⟨⟨oc, od, .ref T, kV, doc, pm, an, cdv, ct, osl, rfl, l, c, .inr ⟨by simp, T, o, [.int 1 t], n, rfl, lT, oT, .cons ⟨t, rfl⟩ .nil⟩, .inl rfl⟩, k⟩⟩
theorem init_binds {K : PySem.W.Frag} {f : Addr} {fd : FuncData} (F : FunD K "__init__" "Ratio.__init__" (defArgs (mth 0)) (defBody (mth 0)) (defScope (mth 0)) [.int 1] [] f fd) : Binds K fd ["self", "top", "bottom"] [] := by
  obtain ⟨ds, r, b⟩ := F.binds1 (ps := ["self", "top", "bottom"]) 3 1 (by simp) rfl fun T kV doc pm an cdv ct us its hu hi => match us, its, hu, hi with | [_, _, _], [_], _, _ => ⟨_, rfl, rfl⟩
  cases r
  exact b
theorem init_binds1 {K : PySem.W.Frag} {f : Addr} {fd : FuncData} (F : FunD K "__init__" "Ratio.__init__" (defArgs (mth 0)) (defBody (mth 0)) (defScope (mth 0)) [.int 1] [] f fd) : ∃ u, RelV (.int 1) u ∧ Binds K fd ["self", "top", "bottom"] [u] := by
  obtain ⟨ds, r, b⟩ := F.binds1 (ps := ["self", "top", "bottom"]) 2 0 (by simp) rfl fun T kV doc pm an cdv ct us its hu hi => match us, its, hu, hi with | [_, _], [_], _, _ => ⟨_, rfl, rfl⟩
  cases r with
  | cons r1 r2 =>
    cases r2
    exact ⟨_, r1, b⟩
/-- the kinds, as the top has written them -/
def KindsAt (K : PySem.W.Frag) (ad : Addr) : Prop := ∀ H, SqT K H ad (([("open" : Str), "sealed", "held", "last"] : List Str).map V.str)
theorem kinds_mk {K : PySem.W.Frag} {ad : Addr} {od : Option Addr} {osl : Array (Option Value)} {t1 t2 t3 t4 : Tok} {n : Nat} (l : K.lookup ad = some ⟨.type "tuple", od, .seq #[.str "open" t1, .str "sealed" t2, .str "held" t3, .str "last" t4] n, osl⟩) : KindsAt K ad :=
  fun H => .inr ⟨_, _, _, l, rfl, rfl, by show 4 ≤ sizeLine; decide, .cons ⟨t1, rfl⟩ (.cons ⟨t2, rfl⟩ (.cons ⟨t3, rfl⟩ (.cons ⟨t4, rfl⟩ .nil)))⟩
theorem fam_kb {K : PySem.W.Frag} {f : Addr} {fd : FuncData} (F : L2.Fun K "family_draw" "family_draw" (top 46) f fd) : KBinds K fd ["people", "sets"] ["sets", "people"] (fun us ws => us ++ ws.reverse) (fun vs zs => vs ++ zs.reverse) := by
  obtain ⟨oc, od, kV, doc, pm, an, cdv, ct, osl, rfl, lk, hcd⟩ := F.ex
  refine ⟨fun s us ws _ len => ?_, fun r1 r2 => r1.append r2.reverse⟩
  match us, ws, len with
  | [], [_, _], _ => exact .of_eq rfl
  | [_], [_], _ => exact .of_eq rfl
  | [_, _], [], _ => exact .of_eq rfl
  | [], [], h => cases h
  | [], [_], h => cases h
  | [], _ :: _ :: _ :: _, h => simp at h
  | [_], [], h => cases h
  | [_], _ :: _ :: _, h => simp at h
  | [_, _], _ :: _, h => simp at h
  | _ :: _ :: _ :: _, _, h => simp at h
theorem all_mk {l : PySem.W.OpenLaw} {w : World} {K : PySem.W.Frag} {h : Heap} {mg : Str → Option Value} {fa C CD CE CR ad : Addr} {k1 k2 k3 : Tok} (X : K.In h) (G : h.Ns mainGlobals mg) (hfa : mg "law" = some (.ref fa))
    {t4 t5 t6 t7 t8 t25 t26 t27 t34 t35 t39 t43 t46 t47 t49 t50 t51 t52 t53 t54 t55 t56 m0 m3 m4 m5 m6 m7 m8 m9 m10 m13 fd0 fd1 fe0 fe1 fr0 fr1 fr2 fr3 pe1 pr1 pr2 pr3 : Addr} {reste1 restr1 restr2 restr3 : List Value} {w0 w1 w2 w3 w4 w5 : Option Value}
    (haC : PySem.W.nsIn K mainGlobals "Ratio" = some (some (.ref C)))
    (haCD : PySem.W.nsIn K mainGlobals "Draw" = some (some (.ref CD)))
    (haCE : PySem.W.nsIn K mainGlobals "End" = some (some (.ref CE)))
    (haCR : PySem.W.nsIn K mainGlobals "Round" = some (some (.ref CR)))
    (haK : PySem.W.nsIn K mainGlobals "KINDS" = some (some (.ref ad)))
    (hkat : KindsAt K ad)
    (haRo : PySem.W.nsIn K mainGlobals "MOST_ROWS" = some (some (.int 16 k1)))
    (haPe : PySem.W.nsIn K mainGlobals "MOST_PEOPLE" = some (some (.int 6 k2)))
    (haLe : PySem.W.nsIn K mainGlobals "LETTERS" = some (some (.str "abcdefghijklmnopqrstuvwxyz" k3)))
    (hat4 : PySem.W.nsIn K mainGlobals "is_whole" = some (some (.ref t4)))
    (hkt4 : PySem.W.keepIn K (.ref t4) = true)
    (hft4 : FnB K "is_whole" "is_whole" (top 4) t4 ["value"])
    (hat5 : PySem.W.nsIn K mainGlobals "is_list" = some (some (.ref t5)))
    (hkt5 : PySem.W.keepIn K (.ref t5) = true)
    (hft5 : FnB K "is_list" "is_list" (top 5) t5 ["value"])
    (hat6 : PySem.W.nsIn K mainGlobals "is_name" = some (some (.ref t6)))
    (hkt6 : PySem.W.keepIn K (.ref t6) = true)
    (hft6 : FnB K "is_name" "is_name" (top 6) t6 ["value"])
    (hat7 : PySem.W.nsIn K mainGlobals "are_names" = some (some (.ref t7)))
    (hkt7 : PySem.W.keepIn K (.ref t7) = true)
    (hft7 : FnB K "are_names" "are_names" (top 7) t7 ["value", "most"])
    (hat8 : PySem.W.nsIn K mainGlobals "are_some_of" = some (some (.ref t8)))
    (hkt8 : PySem.W.keepIn K (.ref t8) = true)
    (hft8 : FnB K "are_some_of" "are_some_of" (top 8) t8 ["value", "allowed"])
    (hat25 : PySem.W.nsIn K mainGlobals "is_number" = some (some (.ref t25)))
    (hkt25 : PySem.W.keepIn K (.ref t25) = true)
    (hft25 : FnB K "is_number" "is_number" (top 25) t25 ["value"])
    (hat26 : PySem.W.nsIn K mainGlobals "_parts" = some (some (.ref t26)))
    (hkt26 : PySem.W.keepIn K (.ref t26) = true)
    (hft26 : FnB K "_parts" "_parts" (top 26) t26 ["number"])
    (hat27 : PySem.W.nsIn K mainGlobals "total" = some (some (.ref t27)))
    (hkt27 : PySem.W.keepIn K (.ref t27) = true)
    (hft27 : FnB K "total" "total" (top 27) t27 ["numbers"])
    (hat34 : PySem.W.nsIn K mainGlobals "_checked_givers" = some (some (.ref t34)))
    (hkt34 : PySem.W.keepIn K (.ref t34) = true)
    (hft34 : FnB K "_checked_givers" "_checked_givers" (top 34) t34 ["givers"])
    (hat35 : PySem.W.nsIn K mainGlobals "_are_shares" = some (some (.ref t35)))
    (hkt35 : PySem.W.keepIn K (.ref t35) = true)
    (hft35 : FnB K "_are_shares" "_are_shares" (top 35) t35 ["value"])
    (hat39 : PySem.W.nsIn K mainGlobals "_are_alike" = some (some (.ref t39)))
    (hkt39 : PySem.W.keepIn K (.ref t39) = true)
    (hft39 : FnB K "_are_alike" "_are_alike" (top 39) t39 ["one", "other"])
    (hat43 : PySem.W.nsIn K mainGlobals "fair_turn" = some (some (.ref t43)))
    (hkt43 : PySem.W.keepIn K (.ref t43) = true)
    (hft43 : FnB K "fair_turn" "fair_turn" (top 43) t43 ["person", "one", "other"])
    (hat46 : PySem.W.nsIn K mainGlobals "family_draw" = some (some (.ref t46)))
    (hkt46 : PySem.W.keepIn K (.ref t46) = true)
    (hft46 : FnB K "family_draw" "family_draw" (top 46) t46 ["people", "sets"])
    (hat47 : PySem.W.nsIn K mainGlobals "_family_draw" = some (some (.ref t47)))
    (hkt47 : PySem.W.keepIn K (.ref t47) = true)
    (hft47 : FnB K "_family_draw" "_family_draw" (top 47) t47 ["people", "sets"])
    (hat49 : PySem.W.nsIn K mainGlobals "_law_tape" = some (some (.ref t49)))
    (hkt49 : PySem.W.keepIn K (.ref t49) = true)
    (hft49 : FnB K "_law_tape" "_law_tape" (top 49) t49 ["_law_script", "_law_k"])
    (hat50 : PySem.W.nsIn K mainGlobals "_law_pick" = some (some (.ref t50)))
    (hkt50 : PySem.W.keepIn K (.ref t50) = true)
    (hft50 : FnB K "_law_pick" "_law_pick" (top 50) t50 ["_law_tape_here", "_law_many"])
    (hat51 : PySem.W.nsIn K mainGlobals "_law_mixed" = some (some (.ref t51)))
    (hkt51 : PySem.W.keepIn K (.ref t51) = true)
    (hft51 : FnB K "_law_mixed" "_law_mixed" (top 51) t51 ["_law_tape_here", "_law_items"])
    (hat52 : PySem.W.nsIn K mainGlobals "_law_lots" = some (some (.ref t52)))
    (hkt52 : PySem.W.keepIn K (.ref t52) = true)
    (hft52 : FnB K "_law_lots" "_law_lots" (top 52) t52 ["_law_names"])
    (hat53 : PySem.W.nsIn K mainGlobals "_law_is_fair" = some (some (.ref t53)))
    (hkt53 : PySem.W.keepIn K (.ref t53) = true)
    (hft53 : FnB K "_law_is_fair" "_law_is_fair" (top 53) t53 ["_law_draw", "_law_folk_told", "_law_deep"])
    (hat54 : PySem.W.nsIn K mainGlobals "_law_yes" = some (some (.ref t54)))
    (hkt54 : PySem.W.keepIn K (.ref t54) = true)
    (hft54 : FnB K "_law_yes" "_law_yes" (top 54) t54 ["_law_draw", "_law_who"])
    (hat55 : PySem.W.nsIn K mainGlobals "_law_drawn_sets" = some (some (.ref t55)))
    (hkt55 : PySem.W.keepIn K (.ref t55) = true)
    (hft55 : FnB K "_law_drawn_sets" "_law_drawn_sets" (top 55) t55 ["_law_tape_here", "_law_folk_told"])
    (hat56 : PySem.W.nsIn K mainGlobals "law" = some (some (.ref t56)))
    (hkt56 : PySem.W.keepIn K (.ref t56) = true)
    (hft56 : FnB K "law" "law" (top 56) t56 ["_law_script"])
    (ham3 : PySem.W.findIn K (.ref C) "__add__" = some (some (.ref m3)))
    (him3 : PySem.W.isFn K (.ref m3) = true)
    (hkm3 : PySem.W.keepIn K (.ref m3) = true)
    (hfm3 : FnB K "__add__" "Ratio.__add__" (mth 3) m3 ["self", "other"])
    (ham5 : PySem.W.findIn K (.ref C) "__sub__" = some (some (.ref m5)))
    (him5 : PySem.W.isFn K (.ref m5) = true)
    (hkm5 : PySem.W.keepIn K (.ref m5) = true)
    (hfm5 : FnB K "__sub__" "Ratio.__sub__" (mth 5) m5 ["self", "other"])
    (ham7 : PySem.W.findIn K (.ref C) "__mul__" = some (some (.ref m7)))
    (him7 : PySem.W.isFn K (.ref m7) = true)
    (hkm7 : PySem.W.keepIn K (.ref m7) = true)
    (hfm7 : FnB K "__mul__" "Ratio.__mul__" (mth 7) m7 ["self", "other"])
    (ham9 : PySem.W.findIn K (.ref C) "__neg__" = some (some (.ref m9)))
    (him9 : PySem.W.isFn K (.ref m9) = true)
    (hkm9 : PySem.W.keepIn K (.ref m9) = true)
    (hfm9 : FnB K "__neg__" "Ratio.__neg__" (mth 9) m9 ["self"])
    (ham10 : PySem.W.findIn K (.ref C) "__eq__" = some (some (.ref m10)))
    (him10 : PySem.W.isFn K (.ref m10) = true)
    (hkm10 : PySem.W.keepIn K (.ref m10) = true)
    (hfm10 : FnB K "__eq__" "Ratio.__eq__" (mth 10) m10 ["self", "other"])
    (ham13 : PySem.W.findIn K (.ref C) "below" = some (some (.ref m13)))
    (him13 : PySem.W.isFn K (.ref m13) = true)
    (hkm13 : PySem.W.keepIn K (.ref m13) = true)
    (hfm13 : FnB K "below" "Ratio.below" (mth 13) m13 ["self", "number"])
    (ham4 : PySem.W.findIn K (.ref C) "__radd__" = some (some (.ref m4)))
    (ham6 : PySem.W.findIn K (.ref C) "__rsub__" = some (some (.ref m6)))
    (ham8 : PySem.W.findIn K (.ref C) "__rmul__" = some (some (.ref m8)))
    (hai : PySem.W.findIn K (.ref C) "__init__" = some (some (.ref m0)))
    (hii : PySem.W.isFn K (.ref m0) = true)
    (hfi : FnI K m0)
    (hmks : PySem.W.makesIn K C = true)
    (hkC : PySem.W.keepIn K (.ref C) = true)
    (hcpg : PySem.W.plainGet K C Str.empty = true)
    (hchd : PySem.W.hasDictIn K C = true)
    (hcpo : PySem.W.plainOver K C = true)
    (hcsa : PySem.W.findIn K (.ref C) "__setattr__" = some (some (.builtin "object.__setattr__")))
    (hcsf : PySem.W.selfFirst K C = true)
    (hcob : PySem.W.mroIn K C (.type "object") = some true)
    (hcha : PySem.W.findIn K (.ref C) "__class__" = some (some (.builtin "object.__class__")))
    (hcepg : PySem.W.plainGet K CE Str.empty = true)
    (hcehd : PySem.W.hasDictIn K CE = true)
    (hcepo : PySem.W.plainOver K CE = true)
    (hcesa : PySem.W.findIn K (.ref CE) "__setattr__" = some (some (.builtin "object.__setattr__")))
    (hcesf : PySem.W.selfFirst K CE = true)
    (hceob : PySem.W.mroIn K CE (.type "object") = some true)
    (hceha : PySem.W.findIn K (.ref CE) "__class__" = some (some (.builtin "object.__class__")))
    (hcrpg : PySem.W.plainGet K CR Str.empty = true)
    (hcrhd : PySem.W.hasDictIn K CR = true)
    (hcrpo : PySem.W.plainOver K CR = true)
    (hcrsa : PySem.W.findIn K (.ref CR) "__setattr__" = some (some (.builtin "object.__setattr__")))
    (hcrsf : PySem.W.selfFirst K CR = true)
    (hcrob : PySem.W.mroIn K CR (.type "object") = some true)
    (hcrha : PySem.W.findIn K (.ref CR) "__class__" = some (some (.builtin "object.__class__")))
    (hcein : PySem.W.mroIn K CE (.type "int") = some false)
    (hcrin : PySem.W.mroIn K CR (.type "int") = some false)
    (hnoT : PySem.W.findIn K (.ref C) "_top" = some none)
    (hnoB : PySem.W.findIn K (.ref C) "_bottom" = some none)
    (hhn : PySem.W.specialIn K (.builtin "object.__class__") "__get__" = some (some (.builtin "getset_descriptor.__get__")))
    (hhtk : PySem.W.takesIn K (.builtin "object.__class__") = some true)
    (hone : PySem.W.kitOne K (.ref C) (.ref C) = some true)
    (hisb : PySem.W.subIn K (.type "int") (.ref C) = some false)
    (hfo0 : PySem.W.mroIn K C (.type "NoneType") = some false)
    (hfn0 : PySem.W.notFirst K C (.type "NoneType") = true)
    (hfk0 : PySem.W.kitOne K (.type "NoneType") (.ref C) = some false)
    (hfo1 : PySem.W.mroIn K C (.type "bool") = some false)
    (hfn1 : PySem.W.notFirst K C (.type "bool") = true)
    (hfk1 : PySem.W.kitOne K (.type "bool") (.ref C) = some false)
    (hfo2 : PySem.W.mroIn K C (.type "int") = some false)
    (hfn2 : PySem.W.notFirst K C (.type "int") = true)
    (hfk2 : PySem.W.kitOne K (.type "int") (.ref C) = some false)
    (hfo3 : PySem.W.mroIn K C (.type "str") = some false)
    (hfn3 : PySem.W.notFirst K C (.type "str") = true)
    (hfk3 : PySem.W.kitOne K (.type "str") (.ref C) = some false)
    (hfo4 : PySem.W.mroIn K C (.type "list") = some false)
    (hfn4 : PySem.W.notFirst K C (.type "list") = true)
    (hfk4 : PySem.W.kitOne K (.type "list") (.ref C) = some false)
    (hfo5 : PySem.W.mroIn K C (.type "tuple") = some false)
    (hfn5 : PySem.W.notFirst K C (.type "tuple") = true)
    (hfk5 : PySem.W.kitOne K (.type "tuple") (.ref C) = some false)
    (hfo6 : PySem.W.mroIn K C (.type "dict") = some false)
    (hfn6 : PySem.W.notFirst K C (.type "dict") = true)
    (hfk6 : PySem.W.kitOne K (.type "dict") (.ref C) = some false)
    (hz0 : PySem.W.findIn K (.type "int") "__add__" = some w0)
    (hz1 : PySem.W.findIn K (.type "int") "__radd__" = some w1)
    (hz2 : PySem.W.findIn K (.type "int") "__sub__" = some w2)
    (hz3 : PySem.W.findIn K (.type "int") "__rsub__" = some w3)
    (hz4 : PySem.W.findIn K (.type "int") "__mul__" = some w4)
    (hz5 : PySem.W.findIn K (.type "int") "__rmul__" = some w5)
    (hnce0 : PySem.W.findIn K (.ref CE) "_word" = some none)
    (hnce1 : PySem.W.findIn K (.ref CE) "_givers" = some none)
    (hnce2 : PySem.W.findIn K (.ref CE) "_draws" = some none)
    (hnce3 : PySem.W.findIn K (.ref CE) "_ends" = some none)
    (hnce4 : PySem.W.findIn K (.ref CE) "_people" = some none)
    (hnce5 : PySem.W.findIn K (.ref CE) "_depth" = some none)
    (hnce6 : PySem.W.findIn K (.ref CE) "_many" = some none)
    (hncr0 : PySem.W.findIn K (.ref CR) "_word" = some none)
    (hncr1 : PySem.W.findIn K (.ref CR) "_givers" = some none)
    (hncr2 : PySem.W.findIn K (.ref CR) "_draws" = some none)
    (hncr3 : PySem.W.findIn K (.ref CR) "_ends" = some none)
    (hncr4 : PySem.W.findIn K (.ref CR) "_people" = some none)
    (hncr5 : PySem.W.findIn K (.ref CR) "_depth" = some none)
    (hncr6 : PySem.W.findIn K (.ref CR) "_many" = some none)
    (hiEE : PySem.W.kitOne K (.ref CE) (.ref CE) = some true)
    (hiRE : PySem.W.kitOne K (.ref CR) (.ref CE) = some false)
    (hiRR : PySem.W.kitOne K (.ref CR) (.ref CR) = some true)
    (hiER : PySem.W.kitOne K (.ref CE) (.ref CR) = some false)
    (hiED : PySem.W.kitOne K (.ref CE) (.ref CD) = some true)
    (hiRD : PySem.W.kitOne K (.ref CR) (.ref CD) = some true)
    (haie0 : PySem.W.findIn K (.ref CE) "__init__" = some (some (.ref fe0)))
    (hiie0 : PySem.W.isFn K (.ref fe0) = true)
    (hmke0 : PySem.W.makesIn K CE = true)
    (hkke0 : PySem.W.keepIn K (.ref CE) = true)
    (hair0 : PySem.W.findIn K (.ref CR) "__init__" = some (some (.ref fr0)))
    (hiir0 : PySem.W.isFn K (.ref fr0) = true)
    (hmkr0 : PySem.W.makesIn K CR = true)
    (hkkr0 : PySem.W.keepIn K (.ref CR) = true)
    (heqE : PySem.W.findIn K (.ref CE) "__eq__" = some (some (.ref fd1)))
    (heqR : PySem.W.findIn K (.ref CR) "__eq__" = some (some (.ref fd1)))
    (heqI : PySem.W.isFn K (.ref fd1) = true)
    (her : PySem.W.notFirst K CE (.ref CR) = true)
    (hre : PySem.W.notFirst K CR (.ref CE) = true)
    (hur : PySem.W.readsIn K CD (.type "type") = true)
    (hug : PySem.W.specialIn K (.ref CD) "__getattribute__" = some (some (.builtin "type.__getattribute__")))
    (huf : PySem.W.findCls K (.ref CD) (.type "type") "__init__" = some (.val (.ref fd0)))
    (huk : PySem.W.keepIn K (.ref fd0) = true)
    (hpae1 : PySem.W.findIn K (.ref CE) "name" = some (some (.ref pe1)))
    (hpge1 : PySem.W.specialIn K (.ref pe1) "__get__" = some (some (.builtin "property.__get__")))
    (hpte1 : PySem.W.takesIn K (.ref pe1) = some true)
    (hpre1 : PySem.W.recIn K pe1 "property" = some (.ref fe1 :: reste1))
    (hpar1 : PySem.W.findIn K (.ref CR) "kind" = some (some (.ref pr1)))
    (hpgr1 : PySem.W.specialIn K (.ref pr1) "__get__" = some (some (.builtin "property.__get__")))
    (hptr1 : PySem.W.takesIn K (.ref pr1) = some true)
    (hprr1 : PySem.W.recIn K pr1 "property" = some (.ref fr1 :: restr1))
    (hpar2 : PySem.W.findIn K (.ref CR) "givers" = some (some (.ref pr2)))
    (hpgr2 : PySem.W.specialIn K (.ref pr2) "__get__" = some (some (.builtin "property.__get__")))
    (hptr2 : PySem.W.takesIn K (.ref pr2) = some true)
    (hprr2 : PySem.W.recIn K pr2 "property" = some (.ref fr2 :: restr2))
    (hpar3 : PySem.W.findIn K (.ref CR) "draws" = some (some (.ref pr3)))
    (hpgr3 : PySem.W.specialIn K (.ref pr3) "__get__" = some (some (.builtin "property.__get__")))
    (hptr3 : PySem.W.takesIn K (.ref pr3) = some true)
    (hprr3 : PySem.W.recIn K pr3 "property" = some (.ref fr3 :: restr3))
    (hfbd0 : FnB K "__init__" "Draw.__init__" (inD 0) fd0 ["self", "word", "givers", "draws"])
    (hfbd1 : FnB K "__eq__" "Draw.__eq__" (inD 1) fd1 ["self", "other"])
    (hfbe0 : FnB K "__init__" "End.__init__" (inE 0) fe0 ["self", "name"])
    (hfbe1 : FnB K "name" "End.name" (inE 1) fe1 ["self"])
    (hfbr0 : FnB K "__init__" "Round.__init__" (inR 0) fr0 ["self", "kind", "givers", "draws"])
    (hfbr1 : FnB K "kind" "Round.kind" (inR 1) fr1 ["self"])
    (hfbr2 : FnB K "givers" "Round.givers" (inR 2) fr2 ["self"])
    (hfbr3 : FnB K "draws" "Round.draws" (inR 3) fr3 ["self"])
    (hb_len : PySem.W.nsIn K mainGlobals "len" = some none)
    (hb_sum : PySem.W.nsIn K mainGlobals "sum" = some none)
    (hb_abs : PySem.W.nsIn K mainGlobals "abs" = some none)
    (hb_int : PySem.W.nsIn K mainGlobals "int" = some none)
    (hb_isinstance : PySem.W.nsIn K mainGlobals "isinstance" = some none)
    (hb_bool : PySem.W.nsIn K mainGlobals "bool" = some none)
    (hb_range : PySem.W.nsIn K mainGlobals "range" = some none)
    (hb_str : PySem.W.nsIn K mainGlobals "str" = some none)
    (hb_max : PySem.W.nsIn K mainGlobals "max" = some none)
    (hb_min : PySem.W.nsIn K mainGlobals "min" = some none)
    (hb_list : PySem.W.nsIn K mainGlobals "list" = some none)
    (hb_tuple : PySem.W.nsIn K mainGlobals "tuple" = some none)
    (hb_set : PySem.W.nsIn K mainGlobals "set" = some none)
    (hb_sorted : PySem.W.nsIn K mainGlobals "sorted" = some none)
    (hb_all : PySem.W.nsIn K mainGlobals "all" = some none)
    (hb_repr : PySem.W.nsIn K mainGlobals "repr" = some none)
    (hb_zip : PySem.W.nsIn K mainGlobals "zip" = some none)
    (hb_gcd : PySem.W.nsIn K mainGlobals "gcd" = some (some (.builtin "math.gcd")))
    : ∃ fd : FuncData, (∀ (s : Shared) (u : Value), BindsTo s fd ⟨[u], []⟩ [("_law_script", u)]) ∧
        ∀ base : Heap, K.In base → base.Ns mainGlobals mg → Kp l.prog w K mg base CX0 24 fa fd ["_law_script"] (spLaw K) := by
  have e := hfa.symm.trans (PySem.W.mg_of X G hat56)
  cases e
  have T : Bt mg := ⟨PySem.W.mg_none_of X G hb_len, PySem.W.mg_none_of X G hb_sum, PySem.W.mg_none_of X G hb_abs, PySem.W.mg_none_of X G hb_int, PySem.W.mg_none_of X G hb_isinstance, PySem.W.mg_none_of X G hb_bool, PySem.W.mg_none_of X G hb_range, PySem.W.mg_none_of X G hb_str, PySem.W.mg_none_of X G hb_max, PySem.W.mg_none_of X G hb_min, PySem.W.mg_of X G hb_gcd⟩
  have U : Bu mg := ⟨PySem.W.mg_none_of X G hb_list, PySem.W.mg_none_of X G hb_tuple, PySem.W.mg_none_of X G hb_set, PySem.W.mg_none_of X G hb_sorted, PySem.W.mg_none_of X G hb_all, PySem.W.mg_none_of X G hb_repr⟩
  have gC := PySem.W.mg_of X G haC
  have gD := PySem.W.mg_of X G haCD
  have gE := PySem.W.mg_of X G haCE
  have gR := PySem.W.mg_of X G haCR
  have zp := PySem.W.mg_none_of X G hb_zip
  have far : Far K C := by
    refine ⟨fun T h => ?_, fun T h => ?_⟩ <;>
      (simp only [List.mem_cons, List.not_mem_nil, or_false] at h
       rcases h with h | h | h | h | h | h | h <;> subst h <;> assumption)
  have oth : ∀ T ∈ ["NoneType", "bool", "int", "str", "list", "tuple", "dict"], PySem.W.kitOne K (.type T) (.ref C) = some false := by
    intro T h
    simp only [List.mem_cons, List.not_mem_nil, or_false] at h
    rcases h with h | h | h | h | h | h | h <;> subst h <;> assumption
  have pE : Plain K CE := by
    intro f h
    simp only [List.mem_cons, List.not_mem_nil, or_false] at h
    rcases h with h | h | h | h | h | h | h <;> subst h <;> assumption
  have pR : Plain K CR := by
    intro f h
    simp only [List.mem_cons, List.not_mem_nil, or_false] at h
    rcases h with h | h | h | h | h | h | h <;> subst h <;> assumption
  have R : Rc K C := ⟨⟨⟨hcpg, hchd, hcpo, hcsa⟩, hcsf, hcob, hfo2⟩, far, hnoT, hnoB, hcha, hhn, hhtk, hone, oth⟩
  obtain ⟨fdI, FI⟩ := hfi
  have mkC : Mk K C m0 := ⟨hmks, hai, hii, hkC⟩
  obtain ⟨d4, F4, b4⟩ := hft4
  obtain ⟨d5, F5, b5⟩ := hft5
  obtain ⟨d6, F6, b6⟩ := hft6
  obtain ⟨d7, F7, b7⟩ := hft7
  obtain ⟨d8, F8, b8⟩ := hft8
  obtain ⟨d25, F25, b25⟩ := hft25
  obtain ⟨d26, F26, b26⟩ := hft26
  obtain ⟨d27, F27, b27⟩ := hft27
  obtain ⟨d34, F34, b34⟩ := hft34
  obtain ⟨d35, F35, b35⟩ := hft35
  obtain ⟨d39, F39, b39⟩ := hft39
  obtain ⟨d43, F43, b43⟩ := hft43
  obtain ⟨d46, F46, b46⟩ := hft46
  obtain ⟨d47, F47, b47⟩ := hft47
  obtain ⟨d49, F49, b49⟩ := hft49
  obtain ⟨d50, F50, b50⟩ := hft50
  obtain ⟨d51, F51, b51⟩ := hft51
  obtain ⟨d52, F52, b52⟩ := hft52
  obtain ⟨d53, F53, b53⟩ := hft53
  obtain ⟨d54, F54, b54⟩ := hft54
  obtain ⟨d55, F55, b55⟩ := hft55
  obtain ⟨d56, F56, b56⟩ := hft56
  obtain ⟨e3, M3, c3⟩ := hfm3
  obtain ⟨e5, M5, c5⟩ := hfm5
  obtain ⟨e7, M7, c7⟩ := hfm7
  obtain ⟨e9, M9, c9⟩ := hfm9
  obtain ⟨e10, M10, c10⟩ := hfm10
  obtain ⟨e13, M13, c13⟩ := hfm13
  obtain ⟨fdd0, Fd0, bd0⟩ := hfbd0
  obtain ⟨fdd1, Fd1, bd1⟩ := hfbd1
  obtain ⟨fde0, Fe0, be0⟩ := hfbe0
  obtain ⟨fde1, Fe1, be1⟩ := hfbe1
  obtain ⟨fdr0, Fr0, br0⟩ := hfbr0
  obtain ⟨fdr1, Fr1, br1⟩ := hfbr1
  obtain ⟨fdr2, Fr2, br2⟩ := hfbr2
  obtain ⟨fdr3, Fr3, br3⟩ := hfbr3
  refine ⟨d56, fun s v => by
    obtain ⟨oc, od, kV, doc, pm, an, cdv, ct, osl, rfl, lk, hcd⟩ := F56.ex
    exact .of_eq rfl, fun base _ _ => ?_⟩
  have W : Cal l.prog w K mg base "is_whole" 1 ["value"] (spWhole K) := ⟨_, _, ok_whole F4 T, PySem.W.mg_of X G hat4, hkt4, b4⟩
  have us : Us l.prog w K mg base C := ⟨T, R, ⟨_, _, ok_number F25 T R gC W, PySem.W.mg_of X G hat25, hkt25, b25⟩, ⟨_, _, ok_parts F26 T R gC, PySem.W.mg_of X G hat26, hkt26, b26⟩,
    ⟨_, _, mkC, ok_init FI T R, gC, init_binds FI, init_binds1 FI⟩⟩
  have ops : Ops l.prog w K mg base C := ⟨us, ⟨_, _, ham3, him3, ok_add M3 us, c3⟩, ⟨_, _, ham5, him5, ok_sub M5 us, c5⟩, ⟨_, _, ham7, him7, ok_mul M7 us, c7⟩, ⟨_, _, ham9, him9, ok_neg M9 us, c9⟩, ⟨_, ham4⟩, ⟨_, ham6⟩, ⟨_, ham8⟩, hisb,
    ⟨_, _, hz0, hz1⟩, ⟨_, _, hz2, hz3⟩, ⟨_, _, hz4, hz5⟩⟩
  have EQ : Mth l.prog w K mg base C "__eq__" 3 ["self", "other"] (spEq K C) := ⟨_, _, ham10, him10, ok_eq M10 us, c10⟩
  have Mb : Meth K C "below" m13 := ⟨ham13, him13, hkm13⟩
  have Fb := ok_below (P := l.prog) (w := w) (mg := mg) (base := base) M13 us
  have TO : Cal l.prog w K mg base "total" 4 ["numbers"] (spTotal K C) := ⟨_, _, ok_total F27 ops, PySem.W.mg_of X G hat27, hkt27, b27⟩
  have IL : Cal l.prog w K mg base "is_list" 1 ["value"] (spIsL K) := ⟨_, _, ok_isL F5 T U, PySem.W.mg_of X G hat5, hkt5, b5⟩
  have NA : Cal l.prog w K mg base "is_name" 1 ["value"] spName := ⟨_, _, ok_name F6 T U _ (PySem.W.mg_of X G haLe), PySem.W.mg_of X G hat6, hkt6, b6⟩
  have NS : Cal l.prog w K mg base "are_names" 2 ["value", "most"] spNames := ⟨_, _, ok_names F7 T U IL NA, PySem.W.mg_of X G hat7, hkt7, b7⟩
  have SO : Cal l.prog w K mg base "are_some_of" 2 ["value", "allowed"] (spSome K) := ⟨_, _, ok_some F8 T U IL, PySem.W.mg_of X G hat8, hkt8, b8⟩
  have SH : Cal l.prog w K mg base "_are_shares" 6 ["value"] (spShares C) := ⟨_, _, ok_shares F35 T U us IL TO EQ Mb Fb c13, PySem.W.mg_of X G hat35, hkt35, b35⟩
  have GV : Cal l.prog w K mg base "_checked_givers" 7 ["givers"] (spGivers K C) := ⟨_, _, ok_givers F34 T U IL NA SH W, PySem.W.mg_of X G hat34, hkt34, b34⟩
  have oE : Vr.Own K CE := ⟨⟨hcepg, hcehd, hcepo, hcesa⟩, hcesf, hceob, hcein⟩
  have oR : Vr.Own K CR := ⟨⟨hcrpg, hcrhd, hcrpo, hcrsa⟩, hcrsf, hcrob, hcrin⟩
  have getE1 : FnOk l.prog w K mg base CX0 1 fe1 fde1 ["self"] (getSp CE "_word") := by
    obtain ⟨oc, od, kV, doc, pm, an, cdv, ct, osl, rfl, lk, hcd⟩ := Fe1.ex
    exact fn_getter (N := ["self"]) lk hcd ⟨rfl, rfl, rfl, by decide +kernel, rfl, by decide +kernel, by decide +kernel⟩ rfl rfl oE.cls hnce0
  have getR1 : FnOk l.prog w K mg base CX0 1 fr1 fdr1 ["self"] (getSp CR "_word") := by
    obtain ⟨oc, od, kV, doc, pm, an, cdv, ct, osl, rfl, lk, hcd⟩ := Fr1.ex
    exact fn_getter (N := ["self"]) lk hcd ⟨rfl, rfl, rfl, by decide +kernel, rfl, by decide +kernel, by decide +kernel⟩ rfl rfl oR.cls hncr0
  have getR2 : FnOk l.prog w K mg base CX0 1 fr2 fdr2 ["self"] (getSp CR "_givers") := by
    obtain ⟨oc, od, kV, doc, pm, an, cdv, ct, osl, rfl, lk, hcd⟩ := Fr2.ex
    exact fn_getter (N := ["self"]) lk hcd ⟨rfl, rfl, rfl, by decide +kernel, rfl, by decide +kernel, by decide +kernel⟩ rfl rfl oR.cls hncr1
  have getR3 : FnOk l.prog w K mg base CX0 1 fr3 fdr3 ["self"] (getSp CR "_draws") := by
    obtain ⟨oc, od, kV, doc, pm, an, cdv, ct, osl, rfl, lk, hcd⟩ := Fr3.ex
    exact fn_getter (N := ["self"]) lk hcd ⟨rfl, rfl, rfl, by decide +kernel, rfl, by decide +kernel, by decide +kernel⟩ rfl rfl oR.cls hncr2
  have D : Dk l.prog w K mg base CE CR := ⟨oE, oR, hceha, hcrha, hhn, hhtk, hiEE, hiRE, hiRR, hiER, gE, gR, ⟨_, _, _, ⟨hpae1, hpge1, hpte1, ⟨_, hpre1⟩⟩, getE1, be1⟩, ⟨_, _, _, ⟨hpar1, hpgr1, hptr1, ⟨_, hprr1⟩⟩, getR1, br1⟩,
    ⟨_, _, _, ⟨hpar2, hpgr2, hptr2, ⟨_, hprr2⟩⟩, getR2, br2⟩, ⟨_, _, _, ⟨hpar3, hpgr3, hptr3, ⟨_, hprr3⟩⟩, getR3, br3⟩⟩
  have I8 := ok_made (P := l.prog) (w := w) (mg := mg) (base := base) (C := C) Fd0 T U D pE pR
  have IF : FnOk l.prog w K mg base CX0 8 fd0 fdd0 ["self", "word", "givers", "draws"] (spInitF K CE CR C (MM K)) := FnOk.imp I8 fun _ _ _ _ z => .inl z
  have IT : FnOk l.prog w K mg base CX0 8 fd0 fdd0 ["self", "word", "givers", "draws"] (spInitT K CE CR C (MM K)) := FnOk.imp I8 fun _ _ _ _ z => .inr z
  have UB : Dr.Unb K CD (.type "type") "__init__" fd0 := ⟨⟨hur, hug⟩, huf, huk⟩
  have ME : MkE l.prog w K mg base CE CR C (MM K) := ⟨_, _, ⟨hmke0, haie0, hiie0, hkke0⟩, ok_end Fe0 gD UB IF bd0 NA, gE, be0⟩
  have MR : MkR l.prog w K mg base CE CR C (MM K) := ⟨_, _, ⟨hmkr0, hair0, hiir0, hkkr0⟩, ok_round Fr0 T U D gD hiED hiRD UB IT bd0 (PySem.W.mg_of X G haK) hkat _ (PySem.W.mg_of X G haRo) IL GV mon_mm, gR, br0⟩
  have AL : Cal l.prog w K mg base "_are_alike" 7 ["one", "other"] (spSame K CE CR C (MM K)) := ⟨_, _, ok_alike F39 T zp EQ D pE pR, PySem.W.mg_of X G hat39, hkt39, b39⟩
  have SM := ok_same (P := l.prog) (w := w) (mg := mg) (base := base) Fd1 T D gD hiED hiRD AL
  have ES : Eqs l.prog w K mg base CE CR C (MM K) := ⟨⟨_, _, heqE, heqI, SM, bd1⟩, ⟨_, _, heqR, heqI, SM, bd1⟩, her, hre⟩
  have TU : Cal l.prog w K mg base "fair_turn" 12 ["person", "one", "other"] (spTurn K CE CR C (MM K)) := ⟨_, _, ok_turn F43 us.mkr MR mon_mm, PySem.W.mg_of X G hat43, hkt43, b43⟩
  have FA : Cal l.prog w K mg base "_family_draw" 20 ["people", "sets"] (spFam K CE CR C (MM K) 7) := ⟨_, _, ok_fam F47 T U ME TU ES mon_mm (PySem.W.mg_of X G hat47) hkt47 b47 7, PySem.W.mg_of X G hat47, hkt47, b47⟩
  have FF := ok_family (P := l.prog) (w := w) (mg := mg) (base := base) F46 T U _ (PySem.W.mg_of X G haPe) NS IL SO FA
  have PK : Cal l.prog w K mg base "_law_pick" 1 ["_law_tape_here", "_law_many"] spPick := ⟨_, _, ok_pick F50 T, PySem.W.mg_of X G hat50, hkt50, b50⟩
  have MX : Cal l.prog w K mg base "_law_mixed" 2 ["_law_tape_here", "_law_items"] (spMixed K) := ⟨_, _, ok_mixed F51 T U PK, PySem.W.mg_of X G hat51, hkt51, b51⟩
  have L : Lw l.prog w K mg base CE CR C (MM K) := ⟨T, U, ⟨_, _, ok_tape F49 T, PySem.W.mg_of X G hat49, hkt49, b49⟩, PK, MX, ⟨_, _, ok_drawn F55 T PK MX, PySem.W.mg_of X G hat55, hkt55, b55⟩, ⟨_, _, ok_lots F52 T, PySem.W.mg_of X G hat52, hkt52, b52⟩,
    ⟨_, _, ok_fair F53 T U us.mkr EQ D mon_mm (PySem.W.mg_of X G hat53) hkt53 b53 7, PySem.W.mg_of X G hat53, hkt53, b53⟩, ⟨_, _, ok_yes F54 T D mon_mm (PySem.W.mg_of X G hat54) hkt54 b54 7, PySem.W.mg_of X G hat54, hkt54, b54⟩,
    ⟨_, _, FF, PySem.W.mg_of X G hat46, hkt46, b46⟩, ⟨_, _, _, FF, PySem.W.mg_of X G hat46, hkt46, fam_kb F46⟩, ME, ES⟩
  exact kp_law F56 L mon_mm
theorem walk42 {l : PySem.W.OpenLaw} {q : Program} {loose : List Str} {XP : (Str → Option Value) → Heap → Prop} {YP : World → Heap → Prop} {d : DefRec} {K : Params → PySem.W.Frag}
    (hn : l.most = some 63) (hdf : d.params.defaults = []) (hY : ∀ (w : World) (h : Heap), YP w h → (K w.params).In h)
    (law : ∀ (w : World) (mg : Str → Option Value) (fa : Addr) (h : Heap), (K w.params).In h → h.Ns mainGlobals mg → mg d.name = some (.ref fa) →
      ∃ fd : FuncData, (∀ (s : Shared) (u : Value), BindsTo s fd ⟨[u], []⟩ [("_law_script", u)]) ∧
        ∀ base : Heap, (K w.params).In base → base.Ns mainGlobals mg → Kp l.prog w (K w.params) mg base CX0 24 fa fd ["_law_script"] (spLaw (K w.params))) :
    PySem.W.WalkO q loose XP YP l.row.toRowW d [] (fun f vs => PySem.call f vs) :=
  walk_kp (k := 24) (CX := fun _ => CX0) (sp := fun w => spLaw (K w.params)) hn (by decide) hdf ⟨rfl, by decide, by decide⟩ hY law
    (fun _ _ a ns h1 _ h2 => ⟨a, ns, rfl, h2, h1, fun _ => rfl⟩) fun _ _ _ _ _ z => z
end K42

open PySem PySem.W PyProof.Rows L2 Vx
set_option Elab.async false
set_option maxRecDepth 100000
set_option maxHeartbeats 0
theorem PySem.Challenge.cw_jointdraws_k42_draws_for_families_holds : PySem.Challenge.rw_jointdraws_k42_draws_for_families.Holds := by
  refine hd42 ?_
  k_fill
  refine K42.walk42 (l := PySem.Challenge.rw_jointdraws_k42_draws_for_families) rfl rfl (fun w h Y => PySem.W.kIn_of Y) ?F
  case F =>
    intro w mg fa h KX G hmg
    refine' K42.all_mk KX G hmg ?aC ?aCD ?aCE ?aCR ?aK ?kat ?aRo ?aPe ?aLe ?at4 ?kt4 ?ft4 ?at5 ?kt5 ?ft5 ?at6 ?kt6 ?ft6 ?at7 ?kt7 ?ft7 ?at8 ?kt8 ?ft8 ?at25 ?kt25 ?ft25 ?at26 ?kt26 ?ft26 ?at27 ?kt27 ?ft27 ?at34 ?kt34 ?ft34 ?at35 ?kt35 ?ft35 ?at39 ?kt39 ?ft39 ?at43 ?kt43 ?ft43 ?at46 ?kt46 ?ft46 ?at47 ?kt47 ?ft47 ?at49 ?kt49 ?ft49 ?at50 ?kt50 ?ft50 ?at51 ?kt51 ?ft51 ?at52 ?kt52 ?ft52 ?at53 ?kt53 ?ft53 ?at54 ?kt54 ?ft54 ?at55 ?kt55 ?ft55 ?at56 ?kt56 ?ft56 ?am3 ?im3 ?km3 ?fm3 ?am5 ?im5 ?km5 ?fm5 ?am7 ?im7 ?km7 ?fm7 ?am9 ?im9 ?km9 ?fm9 ?am10 ?im10 ?km10 ?fm10 ?am13 ?im13 ?km13 ?fm13 ?am4 ?am6 ?am8 ?ai ?ii ?fi ?mks ?kC ?cpg ?chd ?cpo ?csa ?csf ?cob ?cha ?cepg ?cehd ?cepo ?cesa ?cesf ?ceob ?ceha ?crpg ?crhd ?crpo ?crsa ?crsf ?crob ?crha ?cein ?crin ?noT ?noB ?hn ?htk ?one ?isb ?fo0 ?fn0 ?fk0 ?fo1 ?fn1 ?fk1 ?fo2 ?fn2 ?fk2 ?fo3 ?fn3 ?fk3 ?fo4 ?fn4 ?fk4 ?fo5 ?fn5 ?fk5 ?fo6 ?fn6 ?fk6 ?z0 ?z1 ?z2 ?z3 ?z4 ?z5 ?nce0 ?nce1 ?nce2 ?nce3 ?nce4 ?nce5 ?nce6 ?ncr0 ?ncr1 ?ncr2 ?ncr3 ?ncr4 ?ncr5 ?ncr6 ?iEE ?iRE ?iRR ?iER ?iED ?iRD ?aie0 ?iie0 ?mke0 ?kke0 ?air0 ?iir0 ?mkr0 ?kkr0 ?eqE ?eqR ?eqI ?er ?re ?ur ?ug ?uf ?uk ?pae1 ?pge1 ?pte1 ?pre1 ?par1 ?pgr1 ?ptr1 ?prr1 ?par2 ?pgr2 ?ptr2 ?prr2 ?par3 ?pgr3 ?ptr3 ?prr3 ?fbd0 ?fbd1 ?fbe0 ?fbe1 ?fbr0 ?fbr1 ?fbr2 ?fbr3 ?b_len ?b_sum ?b_abs ?b_int ?b_isinstance ?b_bool ?b_range ?b_str ?b_max ?b_min ?b_list ?b_tuple ?b_set ?b_sorted ?b_all ?b_repr ?b_zip ?b_gcd
    (case aC => k_is)
    (case aCD => k_is)
    (case aCE => k_is)
    (case aCR => k_is)
    (case aK => k_is)
    (case kat => (refine' K42.kinds_mk ?u1; (case u1 => k_is)))
    (case aRo => k_is)
    (case aPe => k_is)
    (case aLe => k_is)
    (case at4 => k_is)
    (case kt4 => k_is)
    (case ft4 => (refine' K42.fb_t4 ?u1 ?u2 ?u3; (case u1 => k_is); (case u2 => k_is); (case u3 => k_is)))
    (case at5 => k_is)
    (case kt5 => k_is)
    (case ft5 => (refine' K42.fb_t5 ?u1 ?u2 ?u3; (case u1 => k_is); (case u2 => k_is); (case u3 => k_is)))
    (case at6 => k_is)
    (case kt6 => k_is)
    (case ft6 => (refine' K42.fb_t6 ?u1 ?u2 ?u3; (case u1 => k_is); (case u2 => k_is); (case u3 => k_is)))
    (case at7 => k_is)
    (case kt7 => k_is)
    (case ft7 => (refine' K42.fb_t7 ?u1 ?u2 ?u3; (case u1 => k_is); (case u2 => k_is); (case u3 => k_is)))
    (case at8 => k_is)
    (case kt8 => k_is)
    (case ft8 => (refine' K42.fb_t8 ?u1 ?u2 ?u3; (case u1 => k_is); (case u2 => k_is); (case u3 => k_is)))
    (case at25 => k_is)
    (case kt25 => k_is)
    (case ft25 => (refine' K42.fb_t25 ?u1 ?u2 ?u3; (case u1 => k_is); (case u2 => k_is); (case u3 => k_is)))
    (case at26 => k_is)
    (case kt26 => k_is)
    (case ft26 => (refine' K42.fb_t26 ?u1 ?u2 ?u3; (case u1 => k_is); (case u2 => k_is); (case u3 => k_is)))
    (case at27 => k_is)
    (case kt27 => k_is)
    (case ft27 => (refine' K42.fb_t27 ?u1 ?u2 ?u3; (case u1 => k_is); (case u2 => k_is); (case u3 => k_is)))
    (case at34 => k_is)
    (case kt34 => k_is)
    (case ft34 => (refine' K42.fb_t34 ?u1 ?u2 ?u3; (case u1 => k_is); (case u2 => k_is); (case u3 => k_is)))
    (case at35 => k_is)
    (case kt35 => k_is)
    (case ft35 => (refine' K42.fb_t35 ?u1 ?u2 ?u3; (case u1 => k_is); (case u2 => k_is); (case u3 => k_is)))
    (case at39 => k_is)
    (case kt39 => k_is)
    (case ft39 => (refine' K42.fb_t39 ?u1 ?u2 ?u3; (case u1 => k_is); (case u2 => k_is); (case u3 => k_is)))
    (case at43 => k_is)
    (case kt43 => k_is)
    (case ft43 => (refine' K42.fb_t43 ?u1 ?u2 ?u3; (case u1 => k_is); (case u2 => k_is); (case u3 => k_is)))
    (case at46 => k_is)
    (case kt46 => k_is)
    (case ft46 => (refine' K42.fb_t46 ?u1 ?u2 ?u3; (case u1 => k_is); (case u2 => k_is); (case u3 => k_is)))
    (case at47 => k_is)
    (case kt47 => k_is)
    (case ft47 => (refine' K42.fb_t47 ?u1 ?u2 ?u3; (case u1 => k_is); (case u2 => k_is); (case u3 => k_is)))
    (case at49 => k_is)
    (case kt49 => k_is)
    (case ft49 => (refine' K42.fb_t49 ?u1 ?u2 ?u3; (case u1 => k_is); (case u2 => k_is); (case u3 => k_is)))
    (case at50 => k_is)
    (case kt50 => k_is)
    (case ft50 => (refine' K42.fb_t50 ?u1 ?u2 ?u3; (case u1 => k_is); (case u2 => k_is); (case u3 => k_is)))
    (case at51 => k_is)
    (case kt51 => k_is)
    (case ft51 => (refine' K42.fb_t51 ?u1 ?u2 ?u3; (case u1 => k_is); (case u2 => k_is); (case u3 => k_is)))
    (case at52 => k_is)
    (case kt52 => k_is)
    (case ft52 => (refine' K42.fb_t52 ?u1 ?u2 ?u3; (case u1 => k_is); (case u2 => k_is); (case u3 => k_is)))
    (case at53 => k_is)
    (case kt53 => k_is)
    (case ft53 => (refine' K42.fb_t53 ?u1 ?u2 ?u3; (case u1 => k_is); (case u2 => k_is); (case u3 => k_is)))
    (case at54 => k_is)
    (case kt54 => k_is)
    (case ft54 => (refine' K42.fb_t54 ?u1 ?u2 ?u3; (case u1 => k_is); (case u2 => k_is); (case u3 => k_is)))
    (case at55 => k_is)
    (case kt55 => k_is)
    (case ft55 => (refine' K42.fb_t55 ?u1 ?u2 ?u3; (case u1 => k_is); (case u2 => k_is); (case u3 => k_is)))
    (case at56 => k_is)
    (case kt56 => k_is)
    (case ft56 => (refine' K42.fb_t56 ?u1 ?u2 ?u3; (case u1 => k_is); (case u2 => k_is); (case u3 => k_is)))
    (case am3 => k_is)
    (case im3 => k_is)
    (case km3 => k_is)
    (case fm3 => (refine' K42.fb_m3 ?u1 ?u2 ?u3; (case u1 => k_is); (case u2 => k_is); (case u3 => k_is)))
    (case am5 => k_is)
    (case im5 => k_is)
    (case km5 => k_is)
    (case fm5 => (refine' K42.fb_m5 ?u1 ?u2 ?u3; (case u1 => k_is); (case u2 => k_is); (case u3 => k_is)))
    (case am7 => k_is)
    (case im7 => k_is)
    (case km7 => k_is)
    (case fm7 => (refine' K42.fb_m7 ?u1 ?u2 ?u3; (case u1 => k_is); (case u2 => k_is); (case u3 => k_is)))
    (case am9 => k_is)
    (case im9 => k_is)
    (case km9 => k_is)
    (case fm9 => (refine' K42.fb_m9 ?u1 ?u2 ?u3; (case u1 => k_is); (case u2 => k_is); (case u3 => k_is)))
    (case am10 => k_is)
    (case im10 => k_is)
    (case km10 => k_is)
    (case fm10 => (refine' K42.fb_m10 ?u1 ?u2 ?u3; (case u1 => k_is); (case u2 => k_is); (case u3 => k_is)))
    (case am13 => k_is)
    (case im13 => k_is)
    (case km13 => k_is)
    (case fm13 => (refine' K42.fb_m13 ?u1 ?u2 ?u3; (case u1 => k_is); (case u2 => k_is); (case u3 => k_is)))
    (case am4 => k_is)
    (case am6 => k_is)
    (case am8 => k_is)
    (case ai => k_is)
    (case ii => k_is)
    (case fi => (refine' K42.fi_mk ?u1 ?u2 ?u3 ?u4 ?u5; (case u1 => k_is); (case u2 => k_is); (case u3 => k_is); (case u4 => k_is); (case u5 => rfl)))
    (case mks => k_is)
    (case kC => k_is)
    (case cpg => k_is)
    (case chd => k_is)
    (case cpo => k_is)
    (case csa => k_is)
    (case csf => k_is)
    (case cob => k_is)
    (case cha => k_is)
    (case cepg => k_is)
    (case cehd => k_is)
    (case cepo => k_is)
    (case cesa => k_is)
    (case cesf => k_is)
    (case ceob => k_is)
    (case ceha => k_is)
    (case crpg => k_is)
    (case crhd => k_is)
    (case crpo => k_is)
    (case crsa => k_is)
    (case crsf => k_is)
    (case crob => k_is)
    (case crha => k_is)
    (case cein => k_is)
    (case crin => k_is)
    (case noT => k_is)
    (case noB => k_is)
    (case hn => k_is)
    (case htk => k_is)
    (case one => kernel_rfl)
    (case isb => k_is)
    (case fo0 => k_is)
    (case fn0 => k_is)
    (case fk0 => kernel_rfl)
    (case fo1 => k_is)
    (case fn1 => k_is)
    (case fk1 => kernel_rfl)
    (case fo2 => k_is)
    (case fn2 => k_is)
    (case fk2 => kernel_rfl)
    (case fo3 => k_is)
    (case fn3 => k_is)
    (case fk3 => kernel_rfl)
    (case fo4 => k_is)
    (case fn4 => k_is)
    (case fk4 => kernel_rfl)
    (case fo5 => k_is)
    (case fn5 => k_is)
    (case fk5 => kernel_rfl)
    (case fo6 => k_is)
    (case fn6 => k_is)
    (case fk6 => kernel_rfl)
    (case z0 => k_is)
    (case z1 => k_is)
    (case z2 => k_is)
    (case z3 => k_is)
    (case z4 => k_is)
    (case z5 => k_is)
    (case nce0 => k_is)
    (case nce1 => k_is)
    (case nce2 => k_is)
    (case nce3 => k_is)
    (case nce4 => k_is)
    (case nce5 => k_is)
    (case nce6 => k_is)
    (case ncr0 => k_is)
    (case ncr1 => k_is)
    (case ncr2 => k_is)
    (case ncr3 => k_is)
    (case ncr4 => k_is)
    (case ncr5 => k_is)
    (case ncr6 => k_is)
    (case iEE => kernel_rfl)
    (case iRE => kernel_rfl)
    (case iRR => kernel_rfl)
    (case iER => kernel_rfl)
    (case iED => kernel_rfl)
    (case iRD => kernel_rfl)
    (case aie0 => k_is)
    (case iie0 => k_is)
    (case mke0 => k_is)
    (case kke0 => k_is)
    (case air0 => k_is)
    (case iir0 => k_is)
    (case mkr0 => k_is)
    (case kkr0 => k_is)
    (case eqE => k_is)
    (case eqR => k_is)
    (case eqI => k_is)
    (case er => k_is)
    (case re => k_is)
    (case ur => k_is)
    (case ug => k_is)
    (case uf => k_is)
    (case uk => k_is)
    (case pae1 => k_is)
    (case pge1 => k_is)
    (case pte1 => k_is)
    (case pre1 => k_is)
    (case par1 => k_is)
    (case pgr1 => k_is)
    (case ptr1 => k_is)
    (case prr1 => k_is)
    (case par2 => k_is)
    (case pgr2 => k_is)
    (case ptr2 => k_is)
    (case prr2 => k_is)
    (case par3 => k_is)
    (case pgr3 => k_is)
    (case ptr3 => k_is)
    (case prr3 => k_is)
    (case fbd0 => (refine' K42.fb_d0 ?u1 ?u2 ?u3; (case u1 => k_is); (case u2 => k_is); (case u3 => k_is)))
    (case fbd1 => (refine' K42.fb_d1 ?u1 ?u2 ?u3; (case u1 => k_is); (case u2 => k_is); (case u3 => k_is)))
    (case fbe0 => (refine' K42.fb_e0 ?u1 ?u2 ?u3; (case u1 => k_is); (case u2 => k_is); (case u3 => k_is)))
    (case fbe1 => (refine' K42.fb_e1 ?u1 ?u2 ?u3; (case u1 => k_is); (case u2 => k_is); (case u3 => k_is)))
    (case fbr0 => (refine' K42.fb_r0 ?u1 ?u2 ?u3; (case u1 => k_is); (case u2 => k_is); (case u3 => k_is)))
    (case fbr1 => (refine' K42.fb_r1 ?u1 ?u2 ?u3; (case u1 => k_is); (case u2 => k_is); (case u3 => k_is)))
    (case fbr2 => (refine' K42.fb_r2 ?u1 ?u2 ?u3; (case u1 => k_is); (case u2 => k_is); (case u3 => k_is)))
    (case fbr3 => (refine' K42.fb_r3 ?u1 ?u2 ?u3; (case u1 => k_is); (case u2 => k_is); (case u3 => k_is)))
    (case b_len => k_is)
    (case b_sum => k_is)
    (case b_abs => k_is)
    (case b_int => k_is)
    (case b_isinstance => k_is)
    (case b_bool => k_is)
    (case b_range => k_is)
    (case b_str => k_is)
    (case b_max => k_is)
    (case b_min => k_is)
    (case b_list => k_is)
    (case b_tuple => k_is)
    (case b_set => k_is)
    (case b_sorted => k_is)
    (case b_all => k_is)
    (case b_repr => k_is)
    (case b_zip => k_is)
    (case b_gcd => k_is)
