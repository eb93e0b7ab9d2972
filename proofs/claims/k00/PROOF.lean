import PyProof.Rows.All
import Wide.All
import OpenK.AllK
import Wide.FinOn
import HandS.ForMost
import HandS.IsInst
import HandS.ExcValue
import HandS.ExcIs
import HandS.Small
import KE.KExcIs
import KE.KExcInit
import PyProof.ExcBaseAll.IndexError
import PyProof.ExcBaseAll.OverflowError
import PyProof.ExcBaseAll.ArithmeticError
import PyProof.ExcBaseAll.RuntimeError
import PyProof.ExcBaseAll.LookupError
import PyProof.ExcBaseAll.ValueError
import HandS.Dict
import KE.KDictDisplayH
import HandS.Walk
import PyProof.ReprLen
import PySem.Challenge.RW_heardlate_k00_errors
set_option Elab.async false
set_option linter.all false
set_option maxRecDepth 100000
set_option maxHeartbeats 2000000
namespace LW
open PySem PySem.Spec PyProof.Rows L2
/-! ### powers of great ints -/
theorem op_powW {X : Cx} : OpR X (binaryOp .Pow) (rI (fun i j => 0 ≤ j ∧ (Builtin.Int.intBits i : Int) * j ≤ 2 ^ 27) fun i j => .int (i ^ j.toNat)) :=
  opI fun _ _ _ _ _ _ _ hc q => pow_int hc.1 hc.2 q
/-! ### repr of data without dicts -/
def rReprD (K : PySem.W.Frag) : List V → Hp → VK → Prop := fun xs H Q => ∃ a d, xs = [.ref a] ∧ Dp K H (.ref a) d ∧ d.showable = true ∧ d.hasDict = false ∧ d.depth ≤ 60 ∧ d.shown.length ≤ sizeLine ∧ Q (.str d.shown) H
theorem call_reprD {X : Cx} (hg : X.A.guards = some []) (hu : X.A.units + 64 < cLine) : CallR X (.builtin "repr") (rReprD X.K) := by
  intro pins s σ H xs us Q I r h
  obtain ⟨a, d, rfl, hd, hs, hn, hz, hl, q⟩ := h
  obtain rfl := Vals.ref1 r
  obtain ⟨as, rd⟩ := Dp.reads I d _ _ hd (show RelV (.ref a) (.ref a) from rfl)
  exact repr_of_reads' rd hs (PyData.noDict_hsm hn) hg (by omega) (fun _ _ e => e) (fun h' u tk hk => ⟨.str d.shown, H, I.kept (t' := tk) hk, ⟨_, rfl⟩, q⟩) hl
/-! ### defs that may be called where no repr is under way -/
structure FnG (P : Program) (w : World) (K : PySem.W.Frag) (mg : Str → Option Value) (base : Heap) (CX : CXT) (k : Nat) (f : Addr) (fd : FuncData) (ps : List Str) (sp : Sp) : Prop where
  len : ∀ vs H Q E, sp vs H Q E → vs.length = ps.length
  run : ∀ (A : Around) (outer : List Env) (s : Shared) (H : Hp) (args : Args) (us : List Value) (vs : List V) (Q : VK) (E : XK), A.guards = some [] → Room k A → Env0 P w K mg base A outer s H → BindsTo s fd args (ps.zip us) → Vals vs us → sp vs H Q E →
    codeAny (model P w) A (.call (.ref f) args) (CR CX outer P w H s Q E) s
theorem FnG.of {P : Program} {w : World} {K : PySem.W.Frag} {mg : Str → Option Value} {base : Heap} {CX : CXT} {k : Nat} {f : Addr} {fd : FuncData} {ps : List Str} {sp : Sp} (F : FnOk P w K mg base CX k f fd ps sp) :
    FnG P w K mg base CX k f fd ps sp := ⟨F.len, fun A outer s H args us vs Q E _ => F.run A outer s H args us vs Q E⟩
section
variable {X : Cx} {CX : CXT} {k : Nat} {f C : Addr} {fd : FuncData} {ps : List Str} {sp : Sp} {dvs : List V} {ds : List Value} {E : XK} {x m : Str} {p pos apos : Pos} {e o : Expr} {es : List Expr} {ta : TE} {t : TA}
theorem run_fnG {pins : List (Addr × Obj)} {σ : L2.St} {H : Hp} {s : Shared} {Q : VK} {us : List Value} {vs : List V} (F : FnG X.prog X.w X.K X.mg X.base CX k f fd ps sp) (hgd : X.A.guards = some []) (hr : Room k X.A) (hb : Binds X.K fd ps ds) (hd : Vals dvs ds) (hx : Passes CX X E)
    (I : Inv X pins σ H s) (r : Vals vs us) (h : sp (vs ++ dvs) H Q E) : wpAny (model X.prog X.w) X.A (call (.ref f) us) (EP X pins σ Q) X.xe s := by
  have r2 : Vals (vs ++ dvs) (us ++ ds) := r.append hd
  have hl : (us ++ ds).length = ps.length := by rw [← r2.length]; exact F.len _ _ _ _ h
  refine wpAny_call (codeAny_mono (F.run X.A X.stack s H ⟨us, []⟩ (us ++ ds) (vs ++ dvs) Q E hgd hr I.env0 (hb s us I.kIn hl) r2 h) fun r s' hq => ?_)
  cases r with
  | error e => exact hx pins σ H s e s' I hq
  | ok fl =>
    cases fl with
    | ret u => exact I.after hq
    | next => exact False.elim hq
    | brk => exact False.elim hq
    | cont => exact False.elim hq
theorem pe_callG (F : FnG X.prog X.w X.K X.mg X.base CX k f fd ps sp) (hgd : X.A.guards = some []) (hr : Room k X.A) (hg : Gl X x) (hm : X.mg x = some (.ref f)) (hk : PySem.W.keepIn X.K (.ref f) = true) (hb : Binds X.K fd ps ds) (hd : Vals dvs ds) (hx : Passes CX X E)
    (ha : PA X (e :: es) t) (hdb : (x == ("__debug__" : Str)) = false := by decide) (he : starEach (e :: es) X.env = (false, eval e X.env) :: starEach es X.env := by rfl) (hpl : (backTo pos (starEach es X.env)).any (·.1) = false := by rfl) :
    PE X (.Call (.Name x p) (e :: es) [] pos) (tCall sp dvs E t) := by
  refine ⟨fun pins s σ H Q I h => ?_⟩
  refine wpAny_Call_Name_kw (ld_glob I hg hm ?_ hdb)
  refine PySem.W.callWith_K (h₀ := X.base) I.ok.mod.kin hk (thn (ha.run pos pins s σ H _ I h) fun us s1 ⟨vs, H1, I1, r, q⟩ => ⟨I1.kIn, ?_⟩) he hpl
  exact run_fnG F hgd hr hb hd hx I1 r q
end
/-- THE RULE for a def that shows things: as Fun.ok, with the word that no repr is under way -/
theorem okG {P : Program} {w : World} {K : PySem.W.Frag} {mg : Str → Option Value} {base : Heap} {x qual : Str} {st : Stmt} {f : Addr} {fd : FuncData} {N ps : List Str} {k : Nat} {sp : Sp}
    (F : Fun K x qual st f fd) (S : FnScope N ps (defScope st)) (len : ∀ vs H Q E, sp vs H Q E → vs.length = ps.length)
    (hbody : ∀ (cdv : Value) (A : Around) (outer : List Env) (s : Shared) (H : Hp) (vs : List V) (Q : VK) (E : XK),
      (A.deeper (envOfC qual (defScope st) s.heap.objs.size f cdv)).guards = some [] → Room k (A.deeper (envOfC qual (defScope st) s.heap.objs.size f cdv)) → sp vs H Q E →
        ∃ t, PSs (cxOf CX0 P w K mg base N qual (defScope st) f cdv A outer s H E).nox (defBody st) t ∧ t { nx := fun _ H' => Q .non H', rt := Q } (start N vs) H) :
    FnG P w K mg base CX0 (k + 1) f fd ps sp := by
  obtain ⟨oc, od, kV, doc, pm, an, cdv, ct, osl, rfl, lk, hcd⟩ := F.ex
  constructor
  · exact len
  · intro A outer s H args us vs Q E gd room env0 bnd rel prom
    have inK : K.In s.heap := env0.mod.kin.keeps fun a u q => (env0.bs a u q).1
    have noLim : s.heap.NoLimit := env0.mod.nolimit.keeps fun a u q => (env0.bs a u q).1
    have count := len vs H Q E prom
    have kinds : ∀ y ∈ ps.zip us, (defScope st).names.lookup y.1 = some .local ∨ ((defScope st).names.lookup y.1 = some .cell ∧
        ((cellsFrom (s.heap.objs.size + 1) (defScope st).names []).lookup y.1).isSome = true) := by
      rintro ⟨y, u⟩ mem
      cases S.par y (List.of_mem_zip mem).1 with
      | inl q => exact Or.inl q
      | inr q => exact Or.inr ⟨q, PySem.W.cellsFrom_some _ _ _ (Or.inl q)⟩
    apply codeAny_call_function room.depth (inK _ _ lk) rfl S.co S.gen rfl (PySem.W.codeRec_of inK hcd)
    apply bnd
    apply wpAny_newFunctionEnv_cells S.kind kinds
    intro env henv s1 ic
    subst henv
    refine And.intro (noLim.keeps ic.toInCall.keep) (codeAny_func ?_)
    obtain ⟨t, body, goal⟩ := hbody cdv A outer s H vs Q E gd (room.deeper _) prom
    have inv := inv_start (CX := CX0) (P := P) (w := w) (K := K) (mg := mg) (base := base) (f := f) (E := E) S room.hd env0 count rel ic
    apply wpAny_mono (body.nox.run [] s1 (start N vs) H _ inv goal)
    · intro fl s2 said
      cases fl with
      | ret u =>
        obtain ⟨v, σ2, H2, J, rv, q⟩ := said
        exact ⟨v, H2, J.os, J.bare, J.base, J.hok, rv, q⟩
      | next =>
        obtain ⟨σ2, H2, J, q⟩ := said
        exact ⟨V.non, H2, J.os, J.bare, J.base, J.hok, rfl, q⟩
      | brk =>
        obtain ⟨_, _, _, q⟩ := said
        exact q.elim
      | cont =>
        obtain ⟨_, _, _, q⟩ := said
        exact q.elim
    · intro e s2 said
      exact said
/-! ### the law's own call, where no repr is under way -/
theorem caller_clear (env : Env) : (callerA.deeper env).guards = some [] := rfl
/-- the law's call from the abstract heap H of the script -/
theorem law_goes {P : Program} {w : World} {K : PySem.W.Frag} {mg mb : Str → Option Value} {k : Nat} {fa a : Addr} {fd : FuncData} {x : Str} {sp : Sp} {s₁ : Shared} {ns : List Int}
    (KX : K.In s₁.heap) (gns : s₁.heap.Ns mainGlobals mg) (bns : s₁.heap.Ns builtinsNs mb) (boot : ∀ y : Str, y ≠ "__name__" → mb y = bootBuiltins y) (lim : s₁.heap.NoLimit) (gens : s₁.gens = #[]) (room : Room k callerA)
    (F : ∀ base : Heap, K.In base → base.Ns mainGlobals mg → FnG P w K mg base CX0 k fa fd [x] sp) (bnd : ∀ (s : Shared) (u : Value), BindsTo s fd ⟨[u], []⟩ [(x, u)])
    (H : Hp) (hOnly : Only H) (hS : SqL K H a (ns.map V.int)) (hok : HOk P w H s₁.heap) (noK : ∀ b, H b ≠ none → K.lookup b = none) (noD : ∀ b o es ep, s₁.heap.get? b = some o → o.data = .dict es ep → H b = none)
    (prom : sp [.ref a] H (fun v _ => v = .bl true) fun _ _ _ => False) :
    codeAny (model P w) callerA (.call (.ref fa) ⟨[.ref a], []⟩) (fun r s' => r = .ok (.ret (.bool true)) ∧ OldK s₁.heap s'.heap ∧ s'.os = s₁.os ∧ AllBare s'.gens) s₁ := by
  have shown : ∀ {b : Addr} {m : Str → Option Value}, s₁.heap.Ns b m → (hidT s₁.heap H).Ns b m := by
    rintro b m ⟨o, es, ep, e, d, r⟩
    exact ⟨o, es, ep, hidT_get e (noD b o es ep e d), d, r⟩
  have inB : K.In (hidT s₁.heap H) := by
    intro b o e
    refine hidT_get (KX b o e) ?_
    by_cases q : H b = none
    · exact q
    · rw [noK b q] at e
      cases e
  have gB := shown gns
  have modB : Mod K mg (hidT s₁.heap H) := ⟨inB, gB, ⟨mb, shown bns, boot⟩, by
    obtain ⟨mc, c1, c2⟩ := lim
    exact ⟨mc, shown c1, c2⟩⟩
  have start0 : Env0 P w K mg (hidT s₁.heap H) callerA [] s₁ H := by
    refine ⟨rfl, modB, fun b o e => of_hidT e, Nat.le_of_eq (hidT_size _ _), trivial, fun b z => ?_, hok, .of_eq gens⟩
    exact absurd (show b ∈ ([] : List Addr) from z) List.not_mem_nil
  have ran := (F _ inB gB).run callerA [] s₁ H ⟨[.ref a], []⟩ [.ref a] [.ref a] _ _ rfl room start0 (bnd s₁ (.ref a)) (.cons rfl .nil) prom
  apply codeAny_mono ran
  intro r s' said
  match r, said with
  | .error e, said => exact False.elim said
  | .ok .next, said => exact False.elim said
  | .ok .brk, said => exact False.elim said
  | .ok .cont, said => exact False.elim said
  | .ok (.ret u), said =>
    obtain ⟨v, H', os, bare, un, hok', rel, fin⟩ := said
    have fin' : v = .bl true := fin
    subst fin'
    have eu : u = Value.bool true := rel
    subst eu
    refine ⟨rfl, OldK.of_keep ?_, os, bare⟩
    intro b o e
    rcases hOnly b with z | ⟨ob, xs, z⟩
    · exact un.keep b o e z (fun q => absurd (show b ∈ ([] : List Addr) from q) List.not_mem_nil) List.not_mem_nil
    · obtain ⟨e1, _⟩ := hok b _ z
      obtain ⟨e2, _⟩ := hok' b _ (un.frzs b ob _ z)
      rw [e1] at e
      cases e
      exact e2
/-- the same, from the script as it lies -/
theorem law_callG {P : Program} {w : World} {K : PySem.W.Frag} {mg mb : Str → Option Value} {k : Nat} {fa a : Addr} {fd : FuncData} {x : Str} {sp : Sp} {s₁ : Shared} {vs : List Value} {ns : List Int}
    (KX : K.In s₁.heap) (gns : s₁.heap.Ns mainGlobals mg) (bns : s₁.heap.Ns builtinsNs mb) (boot : ∀ y : Str, y ≠ "__name__" → mb y = bootBuiltins y) (lim : s₁.heap.NoLimit) (gens : s₁.gens = #[]) (room : Room k callerA)
    (F : ∀ base : Heap, K.In base → base.Ns mainGlobals mg → FnG P w K mg base CX0 k fa fd [x] sp) (bnd : ∀ (s : Shared) (u : Value), BindsTo s fd ⟨[u], []⟩ [(x, u)])
    (lies : s₁.heap.get? a = some { cls := .type "list", data := .seq vs.toArray }) (whole : IntsAre vs ns) (short : ns.length ≤ sizeLine)
    (prom : ∀ H : Hp, Only H → SqL K H a (ns.map V.int) → sp [.ref a] H (fun v _ => v = .bl true) fun _ _ _ => False) :
    codeAny (model P w) callerA (.call (.ref fa) ⟨[.ref a], []⟩) (fun r s' => r = .ok (.ret (.bool true)) ∧ OldK s₁.heap s'.heap ∧ s'.os = s₁.os ∧ AllBare s'.gens) s₁ := by
  have rel := vals_ints whole
  have size := whole.length
  cases kept : K.lookup a with
  | some o =>
    have e := KX a o kept
    rw [lies] at e
    cases e
    have hS : SqL K (fun _ => none) a (ns.map V.int) := .inr ⟨_, vs.toArray, _, kept, rfl, rfl, rfl, by rw [List.size_toArray, size]; exact short, by simpa using rel⟩
    exact law_goes KX gns bns boot lim gens room F bnd (fun _ => none) (fun _ => .inl rfl) hS (fun b u z => nomatch z) (fun b z => absurd rfl z) (fun _ _ _ _ _ _ => rfl) (prom _ (fun _ => .inl rfl) hS)
  | none =>
    let o0 : Obj := { cls := .type "list", data := .seq vs.toArray }
    let H : Hp := fun b => if b = a then some (.frz o0 (.lst (ns.map V.int))) else none
    have Ha : H a = some (.frz o0 (.lst (ns.map V.int))) := if_pos rfl
    have Hn : ∀ b, b ≠ a → H b = none := fun b q => if_neg q
    have hS : SqL K H a (ns.map V.int) := .inl (.inr ⟨o0, Ha⟩)
    have hOnly : Only H := fun b => by
      by_cases q : b = a
      · exact .inr ⟨o0, _, by rw [q]; exact Ha⟩
      · exact .inl (Hn b q)
    refine law_goes KX gns bns boot lim gens room F bnd H hOnly hS ?_ ?_ ?_ (prom H hOnly hS)
    · intro b u z
      by_cases q : b = a
      · subst q
        rw [Ha] at z
        cases z
        exact ⟨lies, by rw [List.length_map]; exact short, vs, _, rel, lies⟩
      · rw [Hn b q] at z
        cases z
    · intro b z
      by_cases q : b = a
      · rw [q]
        exact kept
      · exact absurd (Hn b q) z
    · intro b o es ep e d
      by_cases q : b = a
      · rw [q, lies] at e
        cases e
        cases d
      · exact Hn b q
/-- the goal that k_head leaves, from the law's promise -/
theorem walk_ofG {l : PySem.W.OpenLaw} {n k : Nat} {q : Program} {loose : List Str} {XP : (Str → Option Value) → Heap → Prop} {YP : World → Heap → Prop} {d : DefRec} {K : Params → PySem.W.Frag} {sp : PySem.W.Frag → Sp} {x : Str}
    (most : l.most = some n) (fits : n ≤ sizeLine) (plain : d.params.defaults = []) (room : Room k callerA)
    (hY : ∀ (w : World) (h : Heap), YP w h → (K w.params).In h)
    (F : ∀ (w : World) (mg : Str → Option Value) (fa : Addr) (h : Heap), (K w.params).In h → h.Ns mainGlobals mg → mg d.name = some (.ref fa) →
      ∃ fd : FuncData, (∀ (s : Shared) (u : Value), BindsTo s fd ⟨[u], []⟩ [(x, u)]) ∧
        ∀ base : Heap, (K w.params).In base → base.Ns mainGlobals mg → FnG l.prog w (K w.params) mg base CX0 k fa fd [x] (sp (K w.params)))
    (prom : ∀ (K : PySem.W.Frag) (H : Hp) (a : Addr) (ns : List Int), ns.length ≤ n → Only H → SqL K H a (ns.map V.int) → sp K [.ref a] H (fun v _ => v = .bl true) fun _ _ _ => False) :
    PySem.W.WalkO q loose XP YP l.row.toRowW d [] (fun f vs => PySem.call f vs) := by
  apply Att.attach_call most plain
  intro w s₀ s₁ mg mb fa o pm cd doc a vs ns G Y ho hd hcd hmg hobj hints hlen hgens
  have KX := hY w _ Y
  obtain ⟨fd, bnd, all⟩ := F w mg fa _ KX G.T.g hmg
  exact law_callG KX G.T.g G.T.b G.T.builtins G.T.nolimit hgens room all bnd hobj hints (Nat.le_trans hlen fits) fun H only lies => prom _ H a ns hlen only lies
end LW

set_option Elab.async false
set_option linter.all false
set_option maxRecDepth 100000
set_option maxHeartbeats 4000000
namespace LX
open PySem PySem.Spec PyProof.Rows L2 LW
open PySem.W (Frag)
/-! ### KeyError as a base: it is made as LookupError makes -/
abbrev keMro : List Value := [.type "KeyError", .type "LookupError", .type "Exception", .type "BaseException", .type "object"]
theorem keStore : StoreFacts "KeyError" keMro "object.__setattr__" "object" := {
  mro := by kernel_rfl
  slot := by
    refine .of (owner := "object") (n := "__setattr__") ?_ ?_ ?_ ?_ ?_ ?_
    · rw [typeLookup_type, builtinLookup_eq_fast]
      kernel_rfl
    · decide +kernel
    · decide +kernel
    · decide +kernel
    · first
        | (left; decide +kernel)
        | (right; decide +kernel)
    · rw [isSubtype_type]
      kernel_rfl
  entry := PySem.F.entry_object_sa
  kind := by decide +kernel
  split := by decide +kernel
  hasOwner := by decide +kernel
  args := by
    intro a b c
    unfold argsOk
    kernel_rfl
  passes := by
    intro self
    kernel_rfl }

end LX
namespace PySem
namespace LXC
open PySem.W PySem.Calls PyProof.Rows PySem.HandSPX
/-! ### a call of an own exception class whose maker stands further up than its base -/
section
variable {prog : Program} {w : World} {A : Around} {R : Result → Shared → Prop} {h : Heap} {g : Array GenState} {d : Drawn} {t : Nat} {os : OsState}
variable {nm q : Str} {C N : Addr} {bs bm bmB : List Value} {hdct : Bool} {sn : List Str} {sub : List Value} {ab : Bool} {col : Option Bool} {dd : Option Addr} {k0 k1 k2 k3 k5 : Option Value} {B newId initId : String}
/-- the three classes that making asks for -/
structure Asked (B : String) (bm : List Value) : Prop where
  b : bm.contains (.type B) = true
  a : bm.contains (.type "AttributeError") = false
  n : bm.contains (.type "NameError") = false
theorem makeOk (F : ExcBaseFacts B newId initId bmB) (T : Asked B bm) {M : Model} {E : Value → Shared → Prop} {rest : List Value} {Q : Unit → Shared → Prop}
    (hC : h.get? C = some (excClassObj nm q C N bs bm hdct sn sub ab col dd k0 k1 k2 k3 k5 newId)) (hq : Q () ⟨h, g, d, t, os⟩) :
    wpAny M A (checkBuiltinCall newId ⟨.ref C :: rest, []⟩) Q E ⟨h, g, d, t, os⟩ := by
  have below : (Value.ref C :: bm).contains (.type B) = true := by rw [List.contains_cons, T.b, Bool.or_true]
  have star := F.noStar
  simp only [checkBuiltinCall, F.newKind, F.newSplit, F.newRow]
  repeat (first
    | refine wpAny_loadPart_at hC ?_
    | (refine wpAny_isSubtype_exc hC ?_; rw [below])
    | refine wpAny_staticBase_exc hC ?_
    | refine wpAny_madeBy_exc hC ?_
    | simp only [bne_self_eq_false, Bool.false_eq_true, if_false]
    | wp_step)
  exact hq
theorem makeRuns (F : ExcBaseFacts B newId initId bmB) (T : Asked B bm) {rest : List Value} (short : rest.length ≤ sizeLine)
    (hC : h.get? C = some (excClassObj nm q C N bs bm hdct sn sub ab col dd k0 k1 k2 k3 k5 newId))
    (hq : R (.ok (.ret (.ref (h.objs.size + 1)))) ⟨(h.push (PySem.W.kdv_tup rest)).push (PySem.HandSPX.excO C h.objs.size), g, d, t, os⟩) :
    codeAny (model prog w) A (.builtin newId ⟨.ref C :: rest, []⟩) R ⟨h, g, d, t, os⟩ := by
  have ends := F.ends
  have isB : (Value.ref C :: bm).contains (.type B) = true := by rw [List.contains_cons, T.b, Bool.or_true]
  have isA : (Value.ref C :: bm).contains (.type "AttributeError") = false := by
    rw [List.contains_cons, T.a]
    rfl
  have isN : (Value.ref C :: bm).contains (.type "NameError") = false := by
    rw [List.contains_cons, T.n]
    rfl
  refine codeAny_builtinAt F.entry ?_
  unfold Builtin.«BaseException.__new__»
  refine wpAt_bind ?_
  show wpAt _ _ _ (stack >>= _) _ _ _
  refine wpAt_bind (wpAt_stack fun p below => wpAt_of_wpAny ?_)
  wp_walk
  refine wpAt_of_wpAny ?_
  rw [F.owner]
  repeat (first
    | with_reducible refine wpAny_madeHere_exc F.canon hC ?_
    | with_reducible refine wpAny_loadPart_at hC ?_
    | (with_reducible refine wpAny_isSubtype_exc hC ?_; first | rw [isB] | rw [isA] | rw [isN])
    | wp_step)
  show R _ _
  rw [Heap.size_push]
  exact hq
theorem typeRuns (F : ExcBaseFacts B newId initId bmB) (T : Asked B bm) {E : Value → Shared → Prop} {rest : List Value} {fI : Addr} {Q : Fin → Shared → Prop} (short : rest.length ≤ sizeLine)
    (hC : h.get? C = some (excClassObj nm q C N bs bm hdct sn sub ab col dd k0 k1 k2 k3 k5 newId))
    (hi : PySem.W.Looks (model prog w) h (typeLookup (.ref C) "__init__") (some (.ref fI))) (hb : ∀ self, PySem.W.Looks (model prog w) h (bindSpecial (.ref fI) self) (.ref fI, [self]))
    (hq : codeAny (model prog w) A (.call (.ref fI) ⟨.ref (h.objs.size + 1) :: rest, []⟩)
      (fun r s' => match r with | .ok (.ret v) => v = .none ∧ Q (.done (.ret (.ref (h.objs.size + 1)))) s' | .ok _ => False | .error e => E e s')
      ⟨(h.push (PySem.W.kdv_tup rest)).push (PySem.HandSPX.excO C h.objs.size), g, d, t, os⟩) :
    wpAny (model prog w) A (Builtin.«type.__call__» ⟨.ref C :: rest, []⟩) Q E ⟨h, g, d, t, os⟩ := by
  repeat (first
    | with_reducible refine wpAny_loadPart_at hC ?_
    | with_reducible refine wpAny_madeBy_exc hC ?_
    | wp_step)
  refine codeAny_call_builtin_code (Code.quiet_builtin _ F.quiet) (makeOk F T hC ?_)
  refine makeRuns F T short hC ?_
  show wpAny _ _ _ _ _ _
  have old : ∀ b o, h.get? b = some o → ((h.push (PySem.W.kdv_tup rest)).push (PySem.HandSPX.excO C h.objs.size)).get? b = some o := by
    intro b o e
    exact Heap.get?_push_of_some _ (Heap.get?_push_of_some _ e)
  have cls1 := old _ _ hC
  have made : ((h.push (PySem.W.kdv_tup rest)).push (PySem.HandSPX.excO C h.objs.size)).get? (h.objs.size + 1) = some (PySem.HandSPX.excO C h.objs.size) := by heap_get
  have itself : (Value.ref C :: bm).contains (.ref C) = true := by simp
  have init1 := hi.keeps old
  have bind1 := (hb (.ref (h.objs.size + 1))).keeps old
  unfold isInstance
  repeat (first
    | with_reducible refine wpAny_loadPart_at made ?_
    | (with_reducible refine wpAny_isSubtype_exc cls1 ?_; rw [itself])
    | wp_step)
  show wpAny _ _ (typeLookup (.ref C) _) _ _ _
  refine init1.at ?_
  refine wpAny_holding (wpAny_bind (bind1.at ?_))
  refine wpAny_bind (wpAny_call (codeAny_mono hq ?_))
  intro r s' z
  rcases r with e | (v | _ | _ | _)
  · exact z
  · first
      | exact z.elim
      | (obtain ⟨rfl, z⟩ := z
         first
          | exact wpAny_pure (wpAny_pure z)
          | (wp_walk; exact z))
  all_goals first
    | exact z.elim
    | (obtain ⟨rfl, z⟩ := z
       first
        | exact wpAny_pure (wpAny_pure z)
        | (wp_walk; exact z))
theorem callRuns (F : ExcBaseFacts B newId initId bmB) (T : Asked B bm) {rest : List Value} {fI : Addr} (short : rest.length ≤ sizeLine)
    (hC : h.get? C = some (excClassObj nm q C N bs bm hdct sn sub ab col dd k0 k1 k2 k3 k5 newId))
    (hi : PySem.W.Looks (model prog w) h (typeLookup (.ref C) "__init__") (some (.ref fI))) (hb : ∀ self, PySem.W.Looks (model prog w) h (bindSpecial (.ref fI) self) (.ref fI, [self]))
    (hq : codeAny (model prog w) (A.under (.builtin "type.__call__" ⟨.ref C :: rest, []⟩)) (.call (.ref fI) ⟨.ref (h.objs.size + 1) :: rest, []⟩) (PySem.W.InitBack (h.objs.size + 1) R)
      ⟨(h.push (PySem.W.kdv_tup rest)).push (PySem.HandSPX.excO C h.objs.size), g, d, t, os⟩) :
    codeAny (model prog w) A (.call (.ref C) ⟨rest, []⟩) R ⟨h, g, d, t, os⟩ := by
  have look := tc_lookup
  have bound := tc_bind (.ref C)
  have kind : (⟨h, g, d, t, os⟩ : Shared).TypeIs (.ref C) "type" := ⟨_, hC, rfl⟩
  refine codeAny_of_tree ?_
  show wpAny _ _ (callAny (.ref C) _) _ _ _
  repeat (any_goals (first
    | assumption
    | with_reducible refine wpAny_loadPart_at hC ?_
    | wp_step))
  refine ⟨rfl, ?_⟩
  refine codeAny_call_builtin_at (Code.quiet_builtin _ (by decide +kernel)) entry_typeCall (wpAny_check_type_call_sub hC (typeRuns F T short hC hi hb ?_))
  apply codeAny_mono hq
  intro r s' z
  rcases r with e | (v | _ | _ | _)
  all_goals exact z
end
end LXC
end PySem
namespace LX
open PySem PySem.Spec PyProof.Rows L2 LW PySem.LXC
open PySem.W (Frag)
/-! ### own exceptions with one field of their own -/
abbrev iArg (fld : Str) (p1 p2 : Pos) : Arguments := { posonlyargs := [], args := [{ arg := "self", annotation := none, pos := p1 }, { arg := fld, annotation := none, pos := p2 }], vararg := none, kwonlyargs := [], kw_defaults := [], kwarg := none, defaults := [] }
abbrev iBod (fld : Str) (q1 q2 q3 q4 : Pos) : List Stmt := [.Assign [.Attribute (.Name "self" q1) fld q2] (.Name fld q3) q4]
/-- what the written part says of the class x at C over B, and of its __init__ at fI -/
structure XCls (K : Frag) (mg : Str → Option Value) (x fld : Str) (C fI : Addr) (bmB : List Value) (newId : String) : Prop where
  gC : mg x = some (.ref C)
  made : PySem.W.excInitIn K C bmB newId = true
  over : PySem.W.excOver K C bmB = true
  sa : PySem.W.findIn K (.ref C) "__setattr__" = some (some (.builtin "object.__setattr__"))
  tk : PySem.W.takerIn K C fld = some none
  hd : PySem.W.hasDictIn K C = true
  no : PySem.W.findIn K (.ref C) fld = some none
  iC : PySem.W.findIn K (.ref C) "__init__" = some (some (.ref fI))
  tI : PySem.W.typeIn K (.ref fI) = some (.type "function")
  kC : PySem.W.keepIn K (.ref C) = true
abbrev iScp (fld : Str) : Scope := { kind := .function, names := [(PySem.Str.ofString "self", .local), (fld, .local)], isGenerator := false, isCoroutine := false, more := [] }
/-- its __init__ as it stands -/
structure XIni (K : Frag) (fld qual : Str) (fI : Addr) : Prop where
  fn : ∃ (oc kV : Value) (od : Option Addr) (doc pm : Value) (an : Option Addr) (cdv ct : Value) (osl : Array (Option Value)) (p1 p2 q1 q2 q3 q4 : Pos),
    K.lookup fI = some ⟨oc, od, .func (PySem.W.fnOf "__init__" qual (iArg fld p1 p2) (iBod fld q1 q2 q3 q4) (iScp fld) .none kV doc pm an cdv ct), osl⟩ ∧ PySem.W.codeIn K cdv qual = true
theorem kept_but {K : Frag} {h h' : Heap} {x : Addr} (X : K.In h) (hx : K.lookup x = none) (k : ∀ b o, b ≠ x → h.get? b = some o → h'.get? b = some o) : K.In h' := by
  intro a o e
  refine k a o ?_ (X a o e)
  intro z
  rw [z, hx] at e
  cases e
section
variable {prog : Program} {w : World} {A : Around} {R : Result → Shared → Prop} {hp : Heap} {g : Array GenState} {d : Drawn} {t : Nat} {os : OsState}
/-- the first store into an exception of any base -/
theorem osaB {B : String} {bmB : List Value} {K : Frag} {name : Str} {tk : Tok} {v : Value} {x C : Addr} {fv : Array Value} (SF : StoreFacts B bmB "object.__setattr__" "object")
    (X : K.In hp) (hx : hp.get? x = some { cls := .ref C, data := .fields fv }) (over : PySem.W.excOver K C bmB = true) (tkr : PySem.W.takerIn K C name = some none) (hh : PySem.W.hasDictIn K C = true)
    (hq : ∀ h' tk' dx, (∀ b o, b ≠ x → hp.get? b = some o → h'.get? b = some o) → hp.objs.size ≤ dx → dx ≠ x → h'.get? x = some { cls := .ref C, dict := some dx, data := .fields fv } →
      h'.Ns1 dx (fun y => if y = name then some v else none) → R (.ok (.ret .none)) ⟨h', g, d, tk', os⟩) :
    codeAny (model prog w) A (.call (.builtin "object.__setattr__") ⟨[.ref x, .str name tk, v], []⟩) R ⟨hp, g, d, t, os⟩ := by
  have I : PySem.W.InstAt hp x { cls := .ref C, data := .fields fv } C none := ⟨hx, rfl, rfl, trivial⟩
  have far : x ≠ hp.objs.size := Nat.ne_of_lt (Heap.lt_size hx)
  obtain ⟨cd, hcd, hd⟩ := PySem.W.any_some hh
  have look : PySem.W.Looks (model prog w) hp (classData C) cd := PySem.W.looks_clsIn X hcd
  refine PySem.W.osa_openX SF X I over tkr fun b => ?_
  show wpAny _ _ (Builtin.ObjectAttr.storeInOwnDict (.ref x) (.ref C) (.str name tk) name v b) _ _ _
  obtain ⟨nm, bs, mro, ns, qn, hd', sn, sb, ab, col, del⟩ := cd
  dsimp only at hd
  subst hd
  unfold Builtin.ObjectAttr.storeInOwnDict Builtin.ObjectAttr.ownDictForStores
  repeat (first | with_reducible refine PySem.HandSPX.store_in_new ?_ ?_ | with_reducible refine wpAny_loadPart_at hx ?_ | with_reducible refine look.at ?_ | wp_step)
  · exact ⟨_, #[], _, (Heap.get?_update_ne _ _ _ _ far.symm).trans (Heap.get?_push_at rfl rfl), rfl, fun e he => absurd he (by simp), fun _ => rfl⟩
  · intro h' tk' named same
    have before : (hp.push { cls := .type "dict", data := .dict #[] }).get? x = some { cls := .ref C, data := .fields fv } := Heap.get?_push_of_some _ hx
    refine hq h' tk' hp.objs.size ?_ (Nat.le_refl _) far.symm ?_ named
    · intro b o hb ho
      rw [same.2 b (Nat.ne_of_lt (Heap.lt_size ho)), Heap.get?_update_ne _ _ _ _ hb]
      exact Heap.get?_push_of_some _ ho
    · rw [same.2 x far]
      exact Heap.get?_update_self _ before rfl
end
/-- what __init__ leaves of a fresh exception at x -/
structure InitEnd (fld : Str) (h h' : Heap) (x C dx t1 : Addr) (v : Value) : Prop where
  keep : ∀ b o, b ≠ x → h.get? b = some o → h'.get? b = some o
  obj : h'.get? x = some { cls := .ref C, dict := some dx, data := .fields #[.ref t1, .none, .none, .none, .bool false, .none] }
  big : h.objs.size ≤ dx
  ne : dx ≠ x
  ns : h'.Ns1 dx (fun y => if y = fld then some v else none)
section
variable {M : Model} {s : Shared} {name : Str} {scope : Scope} {L a : Addr} {cd : Value} {m : Str → Option Value} {x : Str} {pos : Pos} {v : Value} {A : Around} {E : Value → Shared → Prop}
theorem readL {Q : Value → Shared → Prop} (named : s.heap.Ns L m) (has : m x = some v) (h : Q v s) (hk : scope.kind = .function := by rfl) (hl : (envOfC name scope L a cd).kindOf x = some .local := by rfl) (hd : (x == ("__debug__" : Str)) = false := by decide) :
    wpAny M A (eval (.Name x pos) (envOfC name scope L a cd)) Q E s := by
  refine wpAny_Name ?_ hd
  exact wpAny_loadName_local hk hl named has h
end
section
variable {prog : Program} {w : World} {A : Around} {R : Result → Shared → Prop} {s : Shared} {K : Frag} {mg : Str → Option Value} {x : Str} {C fI : Addr} {bmB bmS : List Value} {newId initId B BS : String} {qual : Str}
theorem ini_value (SF : StoreFacts BS bmS "object.__setattr__" "object") (T : XCls K mg x "value" C fI bmS newId) (J : XIni K "value" qual fI) {e t0 : Addr} {v : Value} (X : K.In s.heap) (lim : s.heap.NoLimit) (he : s.heap.get? e = some (PySem.HandSPX.excO C t0)) (room : A.depth < recursionLimit)
    (hq : ∀ h' tk dx, InitEnd "value" s.heap h' e C dx t0 v → R (.ok (.ret .none)) { s with heap := h', toks := tk }) :
    codeAny (model prog w) A (.call (.ref fI) ⟨[.ref e, v], []⟩) R s := by
  obtain ⟨oc, kV, od, doc, pm, an, cdv, ct, osl, p1, p2, q1, q2, q3, q4, ho, hcd⟩ := J.fn
  refine Att.call_fn (binds := [("self", .ref e), ("value", v)]) X lim ho hcd room (BindsTo.of_eq (by first | rfl | with_unfolding_all rfl)) (by first | rfl | decide | with_unfolding_all rfl) ?_ rfl rfl rfl
  intro s₁ IC
  obtain ⟨h₁, tk₁, rfl⟩ := IC.toInCall.same
  have old : ∀ b o, s.heap.get? b = some o → h₁.get? b = some o := IC.toInCall.keep
  have named := IC.toInCall.ns
  have X₁ : K.In h₁ := X.keeps old
  have he₁ := old _ _ he
  show wpAny _ _ (execs _ _) _ _ _
  refine wpAny_execs_cons (plainObj_wpAny_Assign_Attribute ?_)
  refine readL (v := v) named (by first | rfl | with_unfolding_all rfl | kernel_rfl) (readL (v := .ref e) named (by first | rfl | with_unfolding_all rfl | kernel_rfl) ?_)
  refine PySem.W.set_plain X₁ (ox := PySem.HandSPX.excO C t0) (od := none) ⟨he₁, rfl, rfl, trivial⟩ T.sa ?_
  refine osaB SF X₁ he₁ T.over T.tk T.hd ?_
  intro h₃ tk₃ dx k₃ dn dne hx₃ hn₃
  show wpAny _ _ (execs _ _) _ _ _
  have z : s.heap.objs.size < h₁.objs.size := named.lt
  exact wpAny_execs_nil (hq h₃ tk₃ dx ⟨fun b o hb q => k₃ b o hb (old b o q), hx₃, Nat.le_of_lt (Nat.lt_of_lt_of_le z dn), dne, hn₃⟩)
theorem ini_name (SF : StoreFacts BS bmS "object.__setattr__" "object") (T : XCls K mg x "name" C fI bmS newId) (J : XIni K "name" qual fI) {e t0 : Addr} {v : Value} (X : K.In s.heap) (lim : s.heap.NoLimit) (he : s.heap.get? e = some (PySem.HandSPX.excO C t0)) (room : A.depth < recursionLimit)
    (hq : ∀ h' tk dx, InitEnd "name" s.heap h' e C dx t0 v → R (.ok (.ret .none)) { s with heap := h', toks := tk }) :
    codeAny (model prog w) A (.call (.ref fI) ⟨[.ref e, v], []⟩) R s := by
  obtain ⟨oc, kV, od, doc, pm, an, cdv, ct, osl, p1, p2, q1, q2, q3, q4, ho, hcd⟩ := J.fn
  refine Att.call_fn (binds := [("self", .ref e), ("name", v)]) X lim ho hcd room (BindsTo.of_eq (by first | rfl | with_unfolding_all rfl)) (by first | rfl | decide | with_unfolding_all rfl) ?_ rfl rfl rfl
  intro s₁ IC
  obtain ⟨h₁, tk₁, rfl⟩ := IC.toInCall.same
  have old : ∀ b o, s.heap.get? b = some o → h₁.get? b = some o := IC.toInCall.keep
  have named := IC.toInCall.ns
  have X₁ : K.In h₁ := X.keeps old
  have he₁ := old _ _ he
  show wpAny _ _ (execs _ _) _ _ _
  refine wpAny_execs_cons (plainObj_wpAny_Assign_Attribute ?_)
  refine readL (v := v) named (by first | rfl | with_unfolding_all rfl | kernel_rfl) (readL (v := .ref e) named (by first | rfl | with_unfolding_all rfl | kernel_rfl) ?_)
  refine PySem.W.set_plain X₁ (ox := PySem.HandSPX.excO C t0) (od := none) ⟨he₁, rfl, rfl, trivial⟩ T.sa ?_
  refine osaB SF X₁ he₁ T.over T.tk T.hd ?_
  intro h₃ tk₃ dx k₃ dn dne hx₃ hn₃
  show wpAny _ _ (execs _ _) _ _ _
  have z : s.heap.objs.size < h₁.objs.size := named.lt
  exact wpAny_execs_nil (hq h₃ tk₃ dx ⟨fun b o hb q => k₃ b o hb (old b o q), hx₃, Nat.le_of_lt (Nat.lt_of_lt_of_le z dn), dne, hn₃⟩)
theorem ini_limit (SF : StoreFacts BS bmS "object.__setattr__" "object") (T : XCls K mg x "limit" C fI bmS newId) (J : XIni K "limit" qual fI) {e t0 : Addr} {v : Value} (X : K.In s.heap) (lim : s.heap.NoLimit) (he : s.heap.get? e = some (PySem.HandSPX.excO C t0)) (room : A.depth < recursionLimit)
    (hq : ∀ h' tk dx, InitEnd "limit" s.heap h' e C dx t0 v → R (.ok (.ret .none)) { s with heap := h', toks := tk }) :
    codeAny (model prog w) A (.call (.ref fI) ⟨[.ref e, v], []⟩) R s := by
  obtain ⟨oc, kV, od, doc, pm, an, cdv, ct, osl, p1, p2, q1, q2, q3, q4, ho, hcd⟩ := J.fn
  refine Att.call_fn (binds := [("self", .ref e), ("limit", v)]) X lim ho hcd room (BindsTo.of_eq (by first | rfl | with_unfolding_all rfl)) (by first | rfl | decide | with_unfolding_all rfl) ?_ rfl rfl rfl
  intro s₁ IC
  obtain ⟨h₁, tk₁, rfl⟩ := IC.toInCall.same
  have old : ∀ b o, s.heap.get? b = some o → h₁.get? b = some o := IC.toInCall.keep
  have named := IC.toInCall.ns
  have X₁ : K.In h₁ := X.keeps old
  have he₁ := old _ _ he
  show wpAny _ _ (execs _ _) _ _ _
  refine wpAny_execs_cons (plainObj_wpAny_Assign_Attribute ?_)
  refine readL (v := v) named (by first | rfl | with_unfolding_all rfl | kernel_rfl) (readL (v := .ref e) named (by first | rfl | with_unfolding_all rfl | kernel_rfl) ?_)
  refine PySem.W.set_plain X₁ (ox := PySem.HandSPX.excO C t0) (od := none) ⟨he₁, rfl, rfl, trivial⟩ T.sa ?_
  refine osaB SF X₁ he₁ T.over T.tk T.hd ?_
  intro h₃ tk₃ dx k₃ dn dne hx₃ hn₃
  show wpAny _ _ (execs _ _) _ _ _
  have z : s.heap.objs.size < h₁.objs.size := named.lt
  exact wpAny_execs_nil (hq h₃ tk₃ dx ⟨fun b o hb q => k₃ b o hb (old b o q), hx₃, Nat.le_of_lt (Nat.lt_of_lt_of_le z dn), dne, hn₃⟩)
theorem ini_paper (SF : StoreFacts BS bmS "object.__setattr__" "object") (T : XCls K mg x "paper" C fI bmS newId) (J : XIni K "paper" qual fI) {e t0 : Addr} {v : Value} (X : K.In s.heap) (lim : s.heap.NoLimit) (he : s.heap.get? e = some (PySem.HandSPX.excO C t0)) (room : A.depth < recursionLimit)
    (hq : ∀ h' tk dx, InitEnd "paper" s.heap h' e C dx t0 v → R (.ok (.ret .none)) { s with heap := h', toks := tk }) :
    codeAny (model prog w) A (.call (.ref fI) ⟨[.ref e, v], []⟩) R s := by
  obtain ⟨oc, kV, od, doc, pm, an, cdv, ct, osl, p1, p2, q1, q2, q3, q4, ho, hcd⟩ := J.fn
  refine Att.call_fn (binds := [("self", .ref e), ("paper", v)]) X lim ho hcd room (BindsTo.of_eq (by first | rfl | with_unfolding_all rfl)) (by first | rfl | decide | with_unfolding_all rfl) ?_ rfl rfl rfl
  intro s₁ IC
  obtain ⟨h₁, tk₁, rfl⟩ := IC.toInCall.same
  have old : ∀ b o, s.heap.get? b = some o → h₁.get? b = some o := IC.toInCall.keep
  have named := IC.toInCall.ns
  have X₁ : K.In h₁ := X.keeps old
  have he₁ := old _ _ he
  show wpAny _ _ (execs _ _) _ _ _
  refine wpAny_execs_cons (plainObj_wpAny_Assign_Attribute ?_)
  refine readL (v := v) named (by first | rfl | with_unfolding_all rfl | kernel_rfl) (readL (v := .ref e) named (by first | rfl | with_unfolding_all rfl | kernel_rfl) ?_)
  refine PySem.W.set_plain X₁ (ox := PySem.HandSPX.excO C t0) (od := none) ⟨he₁, rfl, rfl, trivial⟩ T.sa ?_
  refine osaB SF X₁ he₁ T.over T.tk T.hd ?_
  intro h₃ tk₃ dx k₃ dn dne hx₃ hn₃
  show wpAny _ _ (execs _ _) _ _ _
  have z : s.heap.objs.size < h₁.objs.size := named.lt
  exact wpAny_execs_nil (hq h₃ tk₃ dx ⟨fun b o hb q => k₃ b o hb (old b o q), hx₃, Nat.le_of_lt (Nat.lt_of_lt_of_le z dn), dne, hn₃⟩)
theorem ini_many (SF : StoreFacts BS bmS "object.__setattr__" "object") (T : XCls K mg x "many" C fI bmS newId) (J : XIni K "many" qual fI) {e t0 : Addr} {v : Value} (X : K.In s.heap) (lim : s.heap.NoLimit) (he : s.heap.get? e = some (PySem.HandSPX.excO C t0)) (room : A.depth < recursionLimit)
    (hq : ∀ h' tk dx, InitEnd "many" s.heap h' e C dx t0 v → R (.ok (.ret .none)) { s with heap := h', toks := tk }) :
    codeAny (model prog w) A (.call (.ref fI) ⟨[.ref e, v], []⟩) R s := by
  obtain ⟨oc, kV, od, doc, pm, an, cdv, ct, osl, p1, p2, q1, q2, q3, q4, ho, hcd⟩ := J.fn
  refine Att.call_fn (binds := [("self", .ref e), ("many", v)]) X lim ho hcd room (BindsTo.of_eq (by first | rfl | with_unfolding_all rfl)) (by first | rfl | decide | with_unfolding_all rfl) ?_ rfl rfl rfl
  intro s₁ IC
  obtain ⟨h₁, tk₁, rfl⟩ := IC.toInCall.same
  have old : ∀ b o, s.heap.get? b = some o → h₁.get? b = some o := IC.toInCall.keep
  have named := IC.toInCall.ns
  have X₁ : K.In h₁ := X.keeps old
  have he₁ := old _ _ he
  show wpAny _ _ (execs _ _) _ _ _
  refine wpAny_execs_cons (plainObj_wpAny_Assign_Attribute ?_)
  refine readL (v := v) named (by first | rfl | with_unfolding_all rfl | kernel_rfl) (readL (v := .ref e) named (by first | rfl | with_unfolding_all rfl | kernel_rfl) ?_)
  refine PySem.W.set_plain X₁ (ox := PySem.HandSPX.excO C t0) (od := none) ⟨he₁, rfl, rfl, trivial⟩ T.sa ?_
  refine osaB SF X₁ he₁ T.over T.tk T.hd ?_
  intro h₃ tk₃ dx k₃ dn dne hx₃ hn₃
  show wpAny _ _ (execs _ _) _ _ _
  have z : s.heap.objs.size < h₁.objs.size := named.lt
  exact wpAny_execs_nil (hq h₃ tk₃ dx ⟨fun b o hb q => k₃ b o hb (old b o q), hx₃, Nat.le_of_lt (Nat.lt_of_lt_of_le z dn), dne, hn₃⟩)
end

/-- a made exception with a field -/
structure MadeX (fld : Str) (h h' : Heap) (e C d : Addr) (v : Value) : Prop where
  keep : ∀ b o, h.get? b = some o → h'.get? b = some o
  newE : h.objs.size ≤ e
  newD : h.objs.size ≤ d
  obj : ∃ oe vs, h'.get? e = some oe ∧ oe.cls = .ref C ∧ oe.dict = some d ∧ oe.data = .fields vs
  ne : d ≠ e
  ns : h'.Ns1 d (fun y => if y = fld then some v else none)
/-- what an __init__ at fI is worth, called on a fresh exception -/
def InitOk (P : Program) (w : World) (K : Frag) (fld : Str) (C fI : Addr) : Prop := ∀ (A : Around) (R : Result → Shared → Prop) (s : Shared) (e t0 : Addr) (v : Value), K.In s.heap → s.heap.NoLimit → s.heap.get? e = some (PySem.HandSPX.excO C t0) → A.depth < recursionLimit →
  (∀ h' tk dx, InitEnd fld s.heap h' e C dx t0 v → R (.ok (.ret .none)) { s with heap := h', toks := tk }) → codeAny (model P w) A (.call (.ref fI) ⟨[.ref e, v], []⟩) R s
/-- class, maker, __init__: all that a call of the class needs -/
structure XMk (P : Program) (w : World) (K : Frag) (fld : Str) (C : Addr) : Prop where
  ok : ∃ (B newId initId : String) (bmB bmS : List Value) (fI : Addr), ExcBaseFacts B newId initId bmB ∧ Asked B bmS ∧ PySem.W.excInitIn K C bmS newId = true ∧ PySem.W.findIn K (.ref C) "__init__" = some (some (.ref fI)) ∧
    PySem.W.typeIn K (.ref fI) = some (.type "function") ∧ InitOk P w K fld C fI
theorem bmAsked {B : String} {bm bmS : List Value} (T : Asked B bmS) (h : ∀ X : String, bm.contains (.type X) = bmS.contains (.type X)) : Asked B bm := ⟨(h _).trans T.b, (h _).trans T.a, (h _).trans T.n⟩
section
variable {prog : Program} {w : World} {A : Around} {R : Result → Shared → Prop} {s : Shared} {K : Frag} {C : Addr} {fld : Str}
theorem made_x (T : XMk prog w K fld C) {v : Value} (X : K.In s.heap) (lim : s.heap.NoLimit) (room : A.depth + 1 < recursionLimit)
    (hq : ∀ h' tk e d, MadeX fld s.heap h' e C d v → R (.ok (.ret (.ref e))) { s with heap := h', toks := tk }) :
    codeAny (model prog w) A (.call (.ref C) ⟨[v], []⟩) R s := by
  obtain ⟨B, newId, initId, bmB, bmS, fI, F, asked, made, iC, tI, ini⟩ := T.ok
  obtain ⟨nm, N, q, bs, bm, hd, sn, sub, ab, col, dd, k0, k1, k2, k3, k5, hC, hT⟩ := PySem.W.excInit_of X made
  obtain ⟨hp, g, dr, tk, os⟩ := s
  have old : ∀ b o, hp.get? b = some o → ((hp.push (PySem.W.kdv_tup [v])).push (PySem.HandSPX.excO C hp.objs.size)).get? b = some o := by
    intro b o e
    exact Heap.get?_push_of_some _ (Heap.get?_push_of_some _ e)
  have there : ((hp.push (PySem.W.kdv_tup [v])).push (PySem.HandSPX.excO C hp.objs.size)).get? (hp.objs.size + 1) = some (PySem.HandSPX.excO C hp.objs.size) := by heap_get
  have one : [v].length ≤ sizeLine := by
    show 1 ≤ sizeLine
    rw [sizeLine_eq]
    decide
  refine callRuns F (bmAsked asked hT) one hC (PySem.W.looks_findIn X iC) (fun self => PySem.W.bind_fn X self tI) ?_
  refine ini _ _ ⟨(hp.push (PySem.W.kdv_tup [v])).push (PySem.HandSPX.excO C hp.objs.size), g, dr, tk, os⟩ (hp.objs.size + 1) hp.objs.size v (X.keeps old) (lim.keeps old) there ?_ ?_
  · show A.depth + 1 < recursionLimit
    exact room
  · intro h' tk' dx ⟨keep, obj, big, ne, ns⟩
    have old' : ∀ b o, hp.get? b = some o → h'.get? b = some o := by
      intro b o e
      exact keep b o (Nat.ne_of_lt (Nat.lt_succ_of_lt (Heap.lt_size e))) (old b o e)
    have z : hp.objs.size + 1 + 1 ≤ dx := by
      first
        | (simpa only [Heap.size_push] using big)
        | exact big
    refine ⟨rfl, hq h' tk' (hp.objs.size + 1) dx ⟨old', Nat.le_succ _, Nat.le_trans (Nat.le_trans (Nat.le_succ _) (Nat.le_succ _)) z, ⟨_, _, obj, rfl, rfl, rfl⟩, ne, ns⟩⟩
end
end LX
namespace LX
open PySem PySem.Spec PyProof.Rows L2 LW PySem.LXC
open PySem.W (Frag)
/-! ### exceptions as values -/
/-- at a: an exception of the class at C, its own dict d -/
def ExV (C a : Addr) (d : Option Addr) : HO := .ext fun h => ∃ (oe : Obj) (vs : Array Value), h.get? a = some oe ∧ Zc (.ref C) d oe ∧ oe.data = .fields vs
theorem exV_ok {P : Program} {w : World} {H : Hp} {h : Heap} {C a : Addr} {d : Option Addr} {oe : Obj} {vs : Array Value} (e : h.get? a = some oe) (z : Zc (.ref C) d oe) (dt : oe.data = .fields vs) : ObjOk P w H h a (ExV C a d) := by
  refine ⟨⟨oe, vs, e, z, dt⟩, ⟨oe, e⟩, ?_⟩
  intro h1 h2 q k
  obtain ⟨o, v, a1, a2⟩ := q
  exact ⟨o, v, k o a1, a2⟩
/-- a is an exception of the class at C with these fields of its own -/
def IsX (H : Hp) (a C : Addr) (fs : List (Str × V)) : Prop := (H a = some (ExV C a none) ∧ fs = []) ∨ ∃ d, H a = some (ExV C a (some d)) ∧ H d = some (.xd fs)
/-- what isinstance and a field's reading ask of the class -/
structure XHas (K : Frag) (C : Addr) : Prop where
  cl : (PySem.W.clsIn K C).isSome = true
  ga : PySem.W.findIn K (.ref C) "__getattribute__" = some (some (.builtin "BaseException.__getattribute__"))
  gg : PySem.W.findIn K (.ref C) "__getattr__" = some none
  ex : PySem.W.subIn K (.ref C) (.type "BaseException") = some true
  hd : PySem.W.hasDictIn K C = true
  cc : PySem.W.findIn K (.ref C) "__class__" = some (some (.builtin "object.__class__"))
  hm : PySem.W.mroIn K C (.type "object") = some true
structure XCommon (K : Frag) : Prop where
  hn : PySem.W.specialIn K (.builtin "object.__class__") "__get__" = some (some (.builtin "getset_descriptor.__get__"))
  ht : PySem.W.takesIn K (.builtin "object.__class__") = some true
section
variable {X : Cx} {pins : List (Addr × Obj)} {σ : L2.St} {H : Hp} {s : Shared}
theorem isX_at {a C : Addr} {fs : List (Str × V)} (I : Inv X pins σ H s) (h : IsX H a C fs) : ∃ (ox : Obj) (od : Option Obj), PySem.W.InstAt s.heap a ox C od := by
  rcases h with ⟨h, rfl⟩ | ⟨d, h, hd⟩
  · obtain ⟨⟨oe, vs, e, z, dt⟩, _, _⟩ := I.hok a _ h
    obtain ⟨oc, od, oda, osl⟩ := oe
    obtain ⟨z1, z2⟩ := z
    dsimp only at z1 z2 dt
    subst z1 z2 dt
    exact ⟨_, none, e, rfl, rfl, trivial⟩
  · obtain ⟨⟨oe, vs, e, z, dt⟩, _, _⟩ := I.hok a _ h
    obtain ⟨mA, hns, _⟩ := (show ObjOk X.prog X.w H s.heap d (.xd fs) from I.hok d _ hd)
    obtain ⟨od, ho, _⟩ := lookIn_ns hns
    exact ⟨oe, some od, e, z.1, by unfold PySem.W.notCls; rw [dt] <;> rfl, by rw [z.2]; exact ho⟩
end
/-- isinstance(e, c), e an exception held as a value -/
def rIsX (K : Frag) : List V → Hp → VK → Prop := fun xs H Q => ∃ (a C : Addr) (fs : List (Str × V)) (c : V) (cv : Value) (b : Bool), xs = [.ref a, c] ∧ IsX H a C fs ∧ XHas K C ∧ ClsV c cv ∧ PySem.W.kitOne K (.ref C) cv = some b ∧ Q (.bl b) H
theorem call_isX {X : Cx} (Z : XCommon X.K) : CallR X (.builtin "isinstance") (rIsX X.K) := by
  intro pins s σ H xs us Q I r h
  obtain ⟨a, C, fs, c, cv, b, rfl, hx, T, k, e, q⟩ := h
  obtain ⟨u1, u2, rfl, r1, r2⟩ := vals2 r
  cases (show u1 = Value.ref a from r1)
  have e2 := k.eq r2
  subst e2
  obtain ⟨ox, od, J⟩ := isX_at I hx
  exact PySem.W.kia_one (PySem.W.kitx_exc T.cl T.ga T.gg T.ex T.cc Z.hn Z.ht T.hm) I.kIn J e (fun z => nomatch z) fun tk => ⟨.bl b, H, I.tok tk, rfl, q⟩
/-- e.f, e an exception held as a value -/
def tXV (K : Frag) (f : Str) (te : TE) : TE := fun σ H Q => te σ H fun x H1 => ∃ (a C : Addr) (fs : List (Str × V)) (v : V), x = .ref a ∧ IsX H1 a C fs ∧ XHas K C ∧ PySem.W.findIn K (.ref C) f = some none ∧ fs.lookup f = some v ∧ Q v H1
theorem pe_xv {X : Cx} {e : Expr} {te : TE} {pos : Pos} {f : Str} (he : PE X e te) (hb : attributeBase e f X.env (eval e X.env) = eval e X.env := by rfl) : PE X (.Attribute e f pos) (tXV X.K f te) := by
  refine ⟨fun pins s σ H Q I h => ?_⟩
  refine attr_of hb (thn (he.run pins s σ H _ I h) fun u s1 hh => ?_)
  obtain ⟨x, H1, I1, rx, a, C, fs, v, ex, hx, T, no, l, q⟩ := hh
  subst ex
  obtain rfl : u = Value.ref a := rx
  rcases hx with ⟨_, rfl⟩ | ⟨d, h, hd⟩
  · cases l
  · obtain ⟨⟨oe, vs, e1, z, dt⟩, _, _⟩ := I1.hok a _ h
    obtain ⟨mA, hns, rel⟩ := (show ObjOk X.prog X.w H1 s1.heap d (.xd fs) from I1.hok d _ hd)
    obtain ⟨od, ho, hl⟩ := lookIn_ns hns
    obtain ⟨u, hu, ru⟩ := RelO.some_of (v := v) (o := mA f) (by rw [← l]; exact rel f)
    have J : PySem.W.InstAt s1.heap a oe C (some od) := ⟨e1, z.1, by unfold PySem.W.notCls; rw [dt] <;> rfl, by rw [z.2]; exact ho⟩
    exact PySem.HandSPX.exc_get I1.kIn J T.ga T.gg T.ex (PySem.W.findObj_own T.hd no rfl (by rw [hl, hu])) (handed_of ru) ⟨v, H1, I1.tok _, ru, q⟩
/-- C(e): a new exception with its field -/
def tMkX (C : Addr) (fld : Str) (te : TE) : TE := fun σ H Q => te σ H fun v H1 => ∀ e d, H1 e = none → H1 d = none → d ≠ e → Q (.ref e) (upd (upd H1 d (.xd [(fld, v)])) e (ExV C e (some d)))
theorem relO_fld {f : Str} {v : V} {v' : Value} (r : RelV v v') (g : Str) : RelO (List.lookup g [(f, v)]) (if g = f then some v' else none) := by
  by_cases hw : g = f
  · subst hw
    rw [if_pos rfl]
    have q : List.lookup g [(g, v)] = some v := by simp [List.lookup]
    rw [q]
    exact r
  · rw [if_neg hw]
    have qw : (g == f) = false := by simpa using hw
    have q2 : List.lookup g [(f, v)] = none := by simp [List.lookup, qw]
    rw [q2]
    trivial
theorem pe_mkX {X : Cx} {C : Addr} {fld x : Str} {a : Expr} {ta : TE} {p pos : Pos} {k : Nat} (T : XMk X.prog X.w X.K fld C) (gC : X.mg x = some (.ref C)) (kC : PySem.W.keepIn X.K (.ref C) = true) (hr : Room k X.A) (ha : PE X a ta) (hg : Gl X x) (hdb : (x == ("__debug__" : Str)) = false := by decide)
    (hs : starEach [a] X.env = (false, eval a X.env) :: starEach [] X.env := by rfl) : PE X (.Call (.Name x p) [a] [] pos) (tMkX C fld ta) := by
  refine ⟨fun pins s σ H Q I h => ?_⟩
  refine wpAny_Call_Name_kw (ld_glob I hg gC ?_ hdb)
  refine PySem.W.callWith_K (h₀ := X.base) I.ok.mod.kin kC ?_ hs (by rfl)
  rw [hs]
  show wpAny _ _ (spliced ((false, eval a X.env) :: backTo pos (starEach [] X.env))) _ _ s
  refine Calls.spliced_cons (thn (ha.run pins s σ H _ I h) fun u s1 ⟨v, H1, I1, r1, q1⟩ => ?_)
  refine Calls.spliced_nil ⟨I1.kIn, ?_⟩
  show wpAny _ _ (call (.ref C) [u]) _ _ _
  have lim := I1.nolimit
  obtain ⟨hp, g, dr, tk, os⟩ := s1
  refine wpAny_call (made_x T I1.kIn lim (by have := hr.dp; omega) fun h' tk' e d M => ?_)
  obtain ⟨oe, fv, hoe, hc, hd, hdat⟩ := M.obj
  have ne : H1 e = none := I1.hok.fresh M.newE
  have nd : H1 d = none := I1.hok.fresh M.newD
  have goneE : hp.get? e = none := by
    cases z : hp.get? e with
    | none => rfl
    | some o => exact absurd (Heap.lt_size z) (Nat.not_lt.mpr M.newE)
  have goneD : hp.get? d = none := by
    cases z : hp.get? d with
    | none => rfl
    | some o => exact absurd (Heap.lt_size z) (Nat.not_lt.mpr M.newD)
  have okE : ObjOk X.prog X.w (upd (upd H1 d (.xd [(fld, v)])) e (ExV C e (some d))) h' e (ExV C e (some d)) := exV_ok hoe ⟨hc, hd⟩ hdat
  have okD : ObjOk X.prog X.w (upd (upd H1 d (.xd [(fld, v)])) e (ExV C e (some d))) h' d (.xd [(fld, v)]) := ⟨_, M.ns, fun f => relO_fld r1 f⟩
  have tr : ∀ {b : Addr} {u : HO}, H1 b = some u → upd (upd H1 d (.xd [(fld, v)])) e (ExV C e (some d)) b = some u := by
    intro b u q
    rw [upd_ne (ne_of_none q ne), upd_ne (ne_of_none q nd)]
    exact q
  have U : Un X.fs [] H1 (upd (upd H1 d (.xd [(fld, v)])) e (ExV C e (some d))) hp h' := {
    keep := fun b u q _ _ _ => M.keep b u q
    slot := fun b u q _ _ _ => ⟨u.slots, M.keep b u q⟩
    free := fun b u q n _ => by
      rw [upd_ne (fun z => by rw [z, goneE] at q; cases q), upd_ne (fun z => by rw [z, goneD] at q; cases q)]
      exact n
    there := fun b u q _ => ⟨u, M.keep b u q⟩
    tups := fun b xs q => tr q
    frzs := fun b u xs q => tr q
    tbls := fun b ps q => ⟨#[], by rw [tr q]; simp⟩ }
  have hok : HOk X.prog X.w (upd (upd H1 d (.xd [(fld, v)])) e (ExV C e (some d))) h' := by
    intro b u q
    by_cases be : b = e
    · subst be
      rw [upd_same] at q
      cases q
      exact okE
    · rw [upd_ne be] at q
      by_cases bd : b = d
      · subst bd
        rw [upd_same] at q
        cases q
        exact okD
      · rw [upd_ne bd] at q
        exact (I1.hok b u q).stay (fun c o _ z => M.keep c o z) (fun c z => tr z) fun c xs z => tr z
  exact ⟨.ref e, _, I1.un (t' := tk') U hok, rfl, q1 e d ne nd M.ne⟩
/-- C(e), C without an __init__ of its own -/
theorem pe_mk0 {X : Cx} {C : Addr} {bmB : List Value} {B newId initId : String} {x : Str} {e : Expr} {ta : TE} {p pos : Pos} (F : ExcBaseFacts B newId initId bmB) (q : PySem.W.excIn X.K C bmB newId = true) (gC : X.mg x = some (.ref C)) (kC : PySem.W.keepIn X.K (.ref C) = true) (hg : Gl X x)
    (he : PE X e ta) (hs : starEach [e] X.env = (false, eval e X.env) :: starEach [] X.env := by rfl) (hdb : (x == ("__debug__" : Str)) = false := by decide) :
    PE X (.Call (.Name x p) [e] [] pos) (fun σ H Q => ta σ H fun _ H1 => ∀ a, H1 a = none → Q (.ref a) (upd H1 a (ExV C a none))) := by
  refine ⟨fun pins s σ H Q I h => ?_⟩
  refine wpAny_Call_Name_kw (ld_glob I hg gC ?_ hdb)
  refine PySem.W.callWith_K (h₀ := X.base) I.ok.mod.kin kC ?_ hs (by rfl)
  rw [hs]
  show wpAny _ _ (spliced ((false, eval e X.env) :: backTo pos (starEach [] X.env))) _ _ s
  refine Calls.spliced_cons (thn (he.run pins s σ H _ I h) fun u s1 ⟨v, H1, I1, r1, q1⟩ => ?_)
  refine Calls.spliced_nil ⟨I1.kIn, ?_⟩
  show wpAny _ _ (call (.ref C) [u]) _ _ _
  obtain ⟨bm, N, nm, qn, bs, hdct, sn, sub, ab, col, dd, k0, k1, k2, k3, k5, mN, hC, hN, hni, T⟩ := exc_obj I1.kIn q
  refine wpAny_call_exc_subT F T hC hN hni (fun h' a made => ?_) (by show 1 ≤ sizeLine; rw [sizeLine_eq]; omega)
  have new : H1 a = none := I1.hok.gone made.new
  obtain ⟨t, ht, _, _⟩ := made.there
  exact ⟨.ref a, upd H1 a (ExV C a none), I1.laidN made.keeps made.new new (exV_ok ht ⟨rfl, rfl⟩ rfl), rfl, q1 a new⟩
end LX

set_option Elab.async false
set_option linter.all false
set_option maxRecDepth 100000
set_option maxHeartbeats 4000000
namespace LW
open PySem PySem.Spec PyProof.Rows L2
/-- a key as data -/
def keyD : Key → PyData
  | .inl i => .int i
  | .inr x => .str x
mutual
/-- data at any depth, dicts too -/
inductive DpX (K : PySem.W.Frag) (H : Hp) : V → PyData → Prop
  | non : DpX K H .non .none
  | bl (b : Bool) : DpX K H (.bl b) (.bool b)
  | int (i : Int) : DpX K H (.int i) (.int i)
  | str (x : Str) : DpX K H (.str x) (.str x)
  | lst {a : Addr} {xs : List V} {ds : List PyData} : a ≠ sysModules → SqL K H a xs → DpXAll K H xs ds → DpX K H (.ref a) (.list ds)
  | tup {a : Addr} {xs : List V} {ds : List PyData} : SqT K H a xs → DpXAll K H xs ds → DpX K H (.ref a) (.tuple ds)
  | dK {a : Addr} {kvs : List (Key × V)} {ds : List PyData} : H a = some (.dK kvs) → DpXAll K H (kvs.map (·.2)) ds → DpX K H (.ref a) (.dict ((kvs.map fun p => keyD p.1).zip ds))
  | dT {a : Addr} {kvs : List (List Key × V)} {ds : List PyData} : H a = some (.dT kvs) → DpXAll K H (kvs.map (·.2)) ds → DpX K H (.ref a) (.dict ((kvs.map fun p => PyData.tuple (p.1.map keyD)).zip ds))
inductive DpXAll (K : PySem.W.Frag) (H : Hp) : List V → List PyData → Prop
  | nil : DpXAll K H [] []
  | cons {v : V} {vs : List V} {d : PyData} {ds : List PyData} : DpX K H v d → DpXAll K H vs ds → DpXAll K H (v :: vs) (d :: ds)
end
theorem DpXAll.len {K : PySem.W.Frag} {H : Hp} : ∀ {vs : List V} {ds : List PyData}, DpXAll K H vs ds → vs.length = ds.length
  | _, _, .nil => rfl
  | _, _, .cons _ t => by simp [DpXAll.len t]
theorem zip_fst {α β : Type} : ∀ {xs : List α} {ys : List β}, xs.length = ys.length → (xs.zip ys).map (·.1) = xs
  | [], [], _ => rfl
  | x :: xs, y :: ys, h => by
    have h' : xs.length = ys.length := by simpa using h
    simp [zip_fst h']
theorem zip_snd {α β : Type} : ∀ {xs : List α} {ys : List β}, xs.length = ys.length → (xs.zip ys).map (·.2) = ys
  | [], [], _ => rfl
  | x :: xs, y :: ys, h => by
    have h' : xs.length = ys.length := by simpa using h
    simp [zip_snd h']
section
variable {X : Cx} {pins : List (Addr × Obj)} {σ : L2.St} {H : Hp} {s : Shared}
theorem keyReads {h : Heap} {k : Key} {v : Value} (q : keyIs k v = true) : Reads h v (keyD k) [] := by
  rcases keyIs_shape q with ⟨i, t, rfl, rfl⟩ | ⟨x, t, rfl, rfl⟩
  · exact Reads.int i t
  · exact Reads.str x t
theorem keysRead {h : Heap} {P : Program} {w : World} : ∀ {es : List DictEntry} {vs : List (Key × Value)}, PySem.Pairs (mixKind P w) es vs → ReadsAll h (es.map (·.key)) (vs.map fun p => keyD p.1) []
  | _, _, .nil => ReadsAll.nil
  | _, _, .cons q _ t => ReadsAll.cons (as := []) (keyReads q) (keysRead t)
theorem pairsVals {P : Program} {w : World} : ∀ {es : List DictEntry} {vs : List (Key × Value)}, PySem.Pairs (mixKind P w) es vs → es.map (·.val) = vs.map (·.2)
  | _, _, .nil => rfl
  | _, _, .cons _ q t => by simp [q, pairsVals t]
theorem kvFst {κ : Type} : ∀ {kvs : List (κ × V)} {vs : List (κ × Value)}, KV kvs vs → kvs.map (·.1) = vs.map (·.1)
  | _, _, .nil => rfl
  | _, _, .cons q t => by simp [q.1, kvFst t]
theorem kvSnd {κ : Type} : ∀ {kvs : List (κ × V)} {vs : List (κ × Value)}, KV kvs vs → Vals (kvs.map (·.2)) (vs.map (·.2))
  | _, _, .nil => .nil
  | _, _, .cons q t => .cons q.2 (kvSnd t)
theorem keysV {h : Heap} : ∀ (k : List Key) (its : List Value), Vals (k.map kV) its → ReadsAll h its (k.map keyD) []
  | [], _, .nil => ReadsAll.nil
  | .inl i :: r, _, .cons q t => by
    obtain ⟨tk, rfl⟩ := q
    exact ReadsAll.cons (as := []) (Reads.int i tk) (keysV r _ t)
  | .inr x :: r, _, .cons q t => by
    obtain ⟨tk, rfl⟩ := q
    exact ReadsAll.cons (as := []) (Reads.str x tk) (keysV r _ t)
theorem tupKeys (I : Inv X pins σ H s) : ∀ {kvs : List (List Key × V)} {xs : List (List Key × Addr × Value)},
    Paired (fun (p : List Key × V) (q : List Key × Addr × Value) => p.1 = q.1 ∧ H q.2.1 = some (.tup (p.1.map kV)) ∧ RelV p.2 q.2.2) kvs xs →
    ReadsAll s.heap (xs.map fun q => Value.ref q.2.1) (kvs.map fun p => PyData.tuple (p.1.map keyD)) [] ∧ Vals (kvs.map (·.2)) (xs.map fun q => q.2.2)
  | _, _, .nil => ⟨ReadsAll.nil, .nil⟩
  | _, _, .cons q t => by
    obtain ⟨h1, h2⟩ := tupKeys I t
    obtain ⟨q1, q2, q3⟩ := q
    obtain ⟨its, rv, ⟨o, ho, hc, n, hd⟩, _⟩ := I.tuple (SqT.of q2)
    exact ⟨ReadsAll.cons (as := []) (Reads.tuple ho hc hd (keysV _ _ rv)) h1, .cons q3 h2⟩
mutual
theorem DpX.reads (I : Inv X pins σ H s) : ∀ {v : V} {d : PyData}, DpX X.K H v d → ∀ u, RelV v u → ∃ as, Reads s.heap u d as ∧ sysModules ∉ as
  | _, _, .non, u, r => by
    cases r
    exact ⟨[], Reads.none, List.not_mem_nil⟩
  | _, _, .bl b, u, r => by
    cases r
    exact ⟨[], Reads.bool b, List.not_mem_nil⟩
  | _, _, .int i, u, r => by
    obtain ⟨t, rfl⟩ := r
    exact ⟨[], Reads.int i t, List.not_mem_nil⟩
  | _, _, .str x, u, r => by
    obtain ⟨t, rfl⟩ := r
    exact ⟨[], Reads.str x t, List.not_mem_nil⟩
  | _, _, .lst ns hs ha, u, r => by
    cases r
    obtain ⟨its, rv, ⟨o, n, ho, hc, _, hd⟩, _⟩ := I.list hs
    obtain ⟨as, hr, hn⟩ := DpXAll.reads I ha its rv
    exact ⟨_, Reads.list ho hc hd hr, fun q => (List.mem_cons.mp q).elim (fun e => ns e.symm) hn⟩
  | _, _, .tup hs ha, u, r => by
    cases r
    obtain ⟨its, rv, ⟨o, ho, hc, n, hd⟩, _⟩ := I.tuple hs
    obtain ⟨as, hr, hn⟩ := DpXAll.reads I ha its rv
    exact ⟨_, Reads.tuple ho hc hd hr, hn⟩
  | _, _, .dK (a := a) (kvs := kvs) (ds := ds) h ha, u, r => by
    cases r
    have ok := I.hok a _ h
    obtain ⟨hz, hS, vs, rkv, o, es, ep, h1, hex, hd, _, pairs, _⟩ := (show kvs.length ≤ sizeLine ∧ (a == sysModules) = false ∧ ∃ vs, KV kvs vs ∧ s.heap.DictOf (mixKind X.prog X.w) a vs from ok)
    have lens := ha.len
    obtain ⟨as, hr, hn⟩ := DpXAll.reads I ha (vs.map (·.2)) (kvSnd rkv)
    have e1 : (kvs.map fun p => keyD p.1) = vs.map fun p => keyD p.1 := by
      have q := congrArg (List.map keyD) (kvFst rkv)
      simpa [List.map_map, Function.comp_def] using q
    refine ⟨a :: [] ++ as, Reads.dict h1 hex.1 hd ?_ ?_, ?_⟩
    · rw [zip_fst (by simpa using lens), e1]
      exact keysRead pairs
    · rw [zip_snd (by simpa using lens), pairsVals pairs]
      exact hr
    · intro q
      rcases List.mem_cons.mp q with e | q
      · exact beq_eq_false_iff_ne.mp hS e.symm
      · exact hn (by simpa using q)
  | _, _, .dT (a := a) (kvs := kvs) (ds := ds) h ha, u, r => by
    cases r
    have ok := I.hok a _ h
    obtain ⟨hz, hS, xs, prd, o, es, ep, h1, hex, hd, hes, _⟩ := (show kvs.length ≤ sizeLine ∧ (a == sysModules) = false ∧ ∃ xs : List (List Key × Addr × Value),
      Paired (fun (p : List Key × V) (q : List Key × Addr × Value) => p.1 = q.1 ∧ H q.2.1 = some (.tup (p.1.map kV)) ∧ RelV p.2 q.2.2) kvs xs ∧
      ∃ o es ep, s.heap.get? a = some o ∧ o.ExactDict ∧ o.data = .dict es ep ∧ es.toList = xs.map (entryOfKey (tupleKind (mixKind X.prog X.w))) ∧ (xs.map (·.1)).Nodup from ok)
    have lens := ha.len
    obtain ⟨k1, k2⟩ := tupKeys I prd
    obtain ⟨as, hr, hn⟩ := DpXAll.reads I ha _ k2
    refine ⟨a :: [] ++ as, Reads.dict h1 hex.1 hd ?_ ?_, ?_⟩
    · rw [zip_fst (by simpa using lens), hes]
      simpa [List.map_map, Function.comp_def, entryOfKey] using k1
    · rw [zip_snd (by simpa using lens), hes]
      simpa [List.map_map, Function.comp_def, entryOfKey] using hr
    · intro q
      rcases List.mem_cons.mp q with e | q
      · exact beq_eq_false_iff_ne.mp hS e.symm
      · exact hn (by simpa using q)
theorem DpXAll.reads (I : Inv X pins σ H s) : ∀ {vs : List V} {ds : List PyData}, DpXAll X.K H vs ds → ∀ us, Vals vs us → ∃ as, ReadsAll s.heap us ds as ∧ sysModules ∉ as
  | _, _, .nil, us, r => by
    cases r
    exact ⟨[], ReadsAll.nil, List.not_mem_nil⟩
  | _, _, .cons h1 h2, us, r => by
    cases r with
    | cons r1 r2 =>
      obtain ⟨as, q1, n1⟩ := DpX.reads I h1 _ r1
      obtain ⟨bs, q2, n2⟩ := DpXAll.reads I h2 _ r2
      exact ⟨_, ReadsAll.cons q1 q2, fun q => (List.mem_append.mp q).elim n1 n2⟩
end
end
/-! ### repr of any such data -/
def rReprX (K : PySem.W.Frag) : List V → Hp → VK → Prop := fun xs H Q => ∃ a d, xs = [.ref a] ∧ DpX K H (.ref a) d ∧ d.showable = true ∧ d.depth ≤ 60 ∧ d.shown.length ≤ sizeLine ∧ Q (.str d.shown) H
theorem call_reprX {X : Cx} (hg : X.A.guards = some []) (hu : X.A.units + 64 < cLine) : CallR X (.builtin "repr") (rReprX X.K) := by
  intro pins s σ H xs us Q I r h
  obtain ⟨a, d, rfl, hd, hs, hz, hl, q⟩ := h
  obtain rfl := Vals.ref1 r
  obtain ⟨as, rd, hn⟩ := DpX.reads I hd (.ref a) (show RelV (.ref a) (.ref a) from rfl)
  exact repr_of_reads' rd hs (fun _ => hn) hg (by omega) (fun _ _ e => e) (fun h' u tk hk => ⟨.str d.shown, H, I.kept (t' := tk) hk, ⟨_, rfl⟩, q⟩) hl
/-! ### a list by a display, with the word that it is not sys.modules -/
def tLstN (t : TA) : TE := fun σ H Q => t σ H fun xs H1 => xs.length ≤ sizeLine ∧ ∀ p, H1 p = none → p ≠ sysModules → Q (.ref p) (upd H1 p (.lst xs))
theorem pe_lstN {X : Cx} {es : List Expr} {t : TA} {pos : Pos} (h : PA X es t) : PE X (.List es pos) (tLstN t) := by
  constructor
  intro pins s σ H Q I hq
  refine wpAny_List_spliced (thn (h.run pos pins s σ H _ I hq) fun us s1 said => ?_)
  obtain ⟨xs, H1, I1, r, z, q⟩ := said
  have free := I1.hok.fresh (Nat.le_refl s1.heap.objs.size)
  refine ⟨by rw [← r.length]; exact z, .ref s1.heap.objs.size, upd H1 s1.heap.objs.size (.lst xs), ?_, rfl, q _ free (Nat.ne_of_gt I1.big)⟩
  exact I1.laid (t' := s1.toks) (fun b u e => Heap.get?_push_of_some _ e) (Nat.le_refl _) ⟨z, us, 0, r, Heap.get?_push_size _ rfl⟩
end LW

set_option Elab.async false
set_option linter.all false
set_option maxRecDepth 100000
set_option maxHeartbeats 4000000
namespace LW
open PySem PySem.Spec PyProof.Rows L2
/-- {k: v}, k a tuple of numbers and texts: a new dict with tuple keys -/
def tDispT (tk tv : TE) : TE := fun σ H Q => ∀ p, H p = none → tPairs [(tk, tv)] σ (upd H p (.dT [])) fun ps H2 => ∃ (t : Addr) (k : List Key) (v : V), ps = [(.ref t, v)] ∧ H2 t = some (.tup (k.map kV)) ∧ H2 p = some (.dT []) ∧ Q (.ref p) (upd H2 p (.dT [(k, v)]))
theorem pe_dispT {X : Cx} {pos : Pos} {kx vx : Expr} {tk tv : TE} (hu : X.A.units < cLine) (hk : PE X kx tk) (hv : PE X vx tv) : PE X (.Dict [some kx] [vx] pos) (tDispT tk tv) := by
  constructor
  intro pins s σ H Q I q
  have fresh := I.hok.fresh (Nat.le_refl s.heap.objs.size)
  have I1 := I.laid (a := s.heap.objs.size) (o := .dT []) (h' := s.heap.push { cls := .type "dict", data := .dict #[] }) (t' := s.toks) (fun _ _ e => Heap.get?_push_of_some _ e) (Nat.le_refl _) (dt_empty s.heap I.big)
  have whole := pps_cons (pos := pos) hk hv (pps_nil (X := X) (pos := pos))
  rw [arm_eval_Dict]
  have shape : (evalEachOpt [some kx] X.env).zip ((evalEach [vx] X.env).map fun v => do let x ← v; standAt pos; pure x) = (pairTrees [some kx] [vx] X.env pos).map fun p => (some p.1, p.2) := by rfl
  have one : (pairTrees [some kx] [vx] X.env pos).length = 1 := by rfl
  rw [shape, dictDisplay_pairs _ (by intro z; cases z) (by rw [one]; decide)]
  refine wpAny_bind (wpAny_standAt (wpAny_bind (wpAny_subDictH (knd := tupleKind (mixKind X.prog X.w)) (Q := fun d s' => wpAny (model X.prog X.w) X.A (pure (Value.ref d)) (EP X pins σ Q) X.xe s') hu (by rw [one]; decide) ?_)))
  refine thn (whole.run pins _ σ _ _ I1 (q _ fresh)) fun ws s2 said => ?_
  obtain ⟨ps, H2, I2, rel, t, k, v, rfl, ht, hp, fin⟩ := said
  cases rel with
  | cons r1 r2 =>
    rename_i w1 wr
    cases r2
    obtain ⟨xv, vv⟩ := w1
    obtain ⟨rx, rv⟩ := r1
    cases (show xv = Value.ref t from rx)
    obtain ⟨_, notSys, xs0, k0, dd⟩ := dt_of I2.hok hp
    cases k0
    refine ⟨[(k, t, vv)], ⟨rfl, rfl, key_of I2.hok ht, trivial⟩, dd, fun h' tk' dd' same => wpAny_pure ⟨.ref s.heap.objs.size, _, ?_, rfl, fin⟩⟩
    obtain ⟨ob, es, ep, hq, h2, h3, h4, _, h5⟩ := dd'
    have apart : t ≠ s.heap.objs.size := ne_of ht hp (fun z => nomatch z)
    refine d_write I2 (by rw [hp]; exact True.intro) same ⟨ob, hq⟩ ?_
    refine ⟨?_, notSys, [(k, t, vv)], .cons ⟨rfl, (upd_ne apart).trans ht, rv⟩ .nil, ob, es, ep, hq, h2, h3, h4, h5⟩
    show 1 ≤ sizeLine
    rw [sizeLine_eq]
    decide
end LW

set_option Elab.async false
set_option linter.all false
set_option maxRecDepth 100000
set_option maxHeartbeats 2000000
namespace K00
open PySem PySem.Spec PyProof.Rows L2 LW
def top (i : Nat) : Stmt := PySem.Challenge.pw_heardlate_k00_errors.main.body.getD i (.Pass ⟨0, 0, 0, 0⟩)
abbrev sStream : Stmt := top 21
abbrev sDraw : Stmt := top 22
abbrev sPick : Stmt := top 23
/-- a stream of draws: three ints, whichever -/
def Stm (H : Hp) (l : Addr) : Prop := ∃ x y z : Int, H l = some (.lst [.int x, .int y, .int z])
structure TxtB (mg : Str → Option Value) : Prop where
  len : mg "len" = none
  int : mg "int" = none
  abs : mg "abs" = none
  max : mg "max" = none
/-- _law_stream(script, at): a new stream -/
def spStream (K : PySem.W.Frag) : Sp := fun vs H Q _ => ∃ (a : Addr) (ns : List Int) (i : Nat), vs = [.ref a, .int i] ∧ SqL K H a (ns.map V.int) ∧
  ∀ (p : Addr) (x y z : Int), H p = none → Q (.ref p) (upd H p (.lst [.int x, .int y, .int z]))
/-- _law_draw(stream, total): some number below total -/
def spDraw : Sp := fun vs H Q _ => ∃ (l : Addr) (n : Int), vs = [.ref l, .int n] ∧ Stm H l ∧ 0 < n ∧ n < 1000000 ∧
  ∀ (k x y z : Int), 0 ≤ k → k < n → Q (.int k) (upd H l (.lst [.int x, .int y, .int z]))
/-- _law_pick(stream, items): one of the items -/
def spPick (K : PySem.W.Frag) : Sp := fun vs H Q _ => ∃ (l b : Addr) (xs : List V), vs = [.ref l, .ref b] ∧ Stm H l ∧ b ≠ l ∧ (SqL K H b xs ∨ SqT K H b xs) ∧ 0 < xs.length ∧ xs.length < 1000000 ∧
  ∀ (v : V) (x y z : Int), v ∈ xs → Q v (upd H l (.lst [.int x, .int y, .int z]))
theorem mod_mul_ok {a b m : Int} (h : 0 < m) (h2 : m ≤ 2 ^ 63) : CMul (a % m) b := by
  have h0 := Int.emod_nonneg a (show m ≠ 0 by omega)
  have h1 := Int.emod_lt_of_pos a h
  exact .inl ⟨by omega, by omega⟩
theorem sql_upd {K : PySem.W.Frag} {H : Hp} {b l : Addr} {xs : List V} {o : HO} (h : SqL K H b xs) (n : b ≠ l) : SqL K (upd H l o) b xs := by
  rcases h with (h | ⟨u, h⟩) | h
  · exact .inl (.inl ((upd_ne n).trans h))
  · exact .inl (.inr ⟨u, (upd_ne n).trans h⟩)
  · exact .inr h
theorem sqt_upd {K : PySem.W.Frag} {H : Hp} {b l : Addr} {xs : List V} {o : HO} (h : SqT K H b xs) (n : b ≠ l) : SqT K (upd H l o) b xs := by
  rcases h with (h | ⟨u, h⟩) | h
  · exact .inl (.inl ((upd_ne n).trans h))
  · exact .inl (.inr ⟨u, (upd_ne n).trans h⟩)
  · exact .inr h
section
variable {P : Program} {w : World} {K : PySem.W.Frag} {mg : Str → Option Value} {base : Heap}
theorem scStream : FnScope ["script", "at", "cell", "great", "mixed"] ["script", "at"] (defScope sStream) := ⟨rfl, rfl, rfl, by decide +kernel, rfl, by decide +kernel, by decide +kernel⟩
theorem ok_stream {f : Addr} {fd : FuncData} (F : Fun K "_law_stream" "_law_stream" sStream f fd) (T : TxtB mg) : FnOk P w K mg base CX0 1 f fd ["script", "at"] (spStream K) := by
  refine F.ok scStream (fun vs H Q E h => ?_) (fun cdv A outer s H vs Q E hr h => ?_)
  · obtain ⟨a, ns, i, rfl, _⟩ := h
    rfl
  · obtain ⟨a, ns, i, rfl, hS, k⟩ := h
    refine ⟨_, (pss_cons (ps_set (i := 2) scStream.nd rfl (.inl rfl) (pe_op op_add (pe_op op_mul pe_int (pv 1)) pe_int))
      (pss_cons (ps_if (pt_cmpR op_lt (pv 1) (pe_callB call_len_seq (by rfl) T.len (by decide +kernel) (pa_cons (pv 0) pa_nil)) (nomark _))
        (pss_one (ps_set (i := 2) scStream.nd rfl (.inl rfl) (pe_ix ix_list (pv 0) (pv 1) (fun _ _ => rfl))))
        pss_nil)
      (pss_cons (ps_set (i := 3) scStream.nd rfl (.inl rfl) (pe_op op_mod (pe_callTy call_int1 (by rfl) T.int (by decide +kernel) (pa_cons (pe_callB call_abs (by rfl) T.abs (by decide +kernel) (pa_cons (pv 2) pa_nil)) pa_nil)) (pe_op op_powW (pe_op op_pow pe_int pe_int) pe_int)))
      (pss_cons (ps_set (i := 4) scStream.nd rfl (.inl rfl) (pe_op op_add (pe_op op_add (pe_op op_add (pe_op op_mul (pe_op op_mod (pe_callTy call_int1 (by rfl) T.int (by decide +kernel) (pa_cons (pv 3) pa_nil)) pe_int) pe_int) (pe_op op_mul pe_int (pv 1))) (pe_op op_mul pe_int (pe_callTy call_int1 (by rfl) T.int (by decide +kernel) (pa_cons (pe_cmpR op_lt (pv 2) pe_int (nomark _)) pa_nil)))) pe_int))
      (pss_one (ps_ret (pe_lst (pa_cons (pe_callB (call_max2 rfl) (by rfl) T.max (by decide +kernel) (pa_cons pe_int (pa_cons (pe_op op_sub (pv 3) (pe_op op_pow pe_int pe_int)) pa_nil))) (pa_cons (pe_op op_mod (pe_callTy call_int1 (by rfl) T.int (by decide +kernel) (pa_cons (pv 4) pa_nil)) pe_int) (pa_cons pe_int pa_nil)))))))))), ?_⟩
    refine ⟨_, rfl, _, _, rfl, rfl, .inl ⟨by decide, by decide⟩, _, _, rfl, rfl, ?_⟩
    refine ⟨_, rfl, _, rfl, a, _, rfl, .inl hS, _, _, rfl, rfl, _, rfl, ?_⟩
    refine ite2 (fun c => ?_) (fun c => ?_)
    · have hi : i < ns.length := by
        have c' := of_decide_eq_true c
        rw [List.length_map] at c'
        omega
      refine ⟨_, rfl, _, rfl, a, _, _, V.int ns[i], rfl, rfl, hS, atI_nat (by simp [hi]), ?_⟩
      refine ⟨_, rfl, _, rfl, .inl ⟨_, rfl, _, _, rfl, rfl, ⟨by decide, by decide, by decide⟩, _, _, rfl, rfl, ⟨by decide, by decide +kernel⟩, _, _, rfl, rfl, (show (0 : Int) < _ by decide +kernel), ?_⟩⟩
      refine ⟨_, rfl, .inl ⟨_, rfl, _, _, rfl, rfl, (show (0 : Int) < _ by decide), _, _, rfl, rfl, mod_mul_ok (by decide) (by decide), _, rfl, _, _, rfl, rfl, .inl ⟨by decide, by decide⟩, _, _, rfl, rfl, _, rfl, _, _, rfl, rfl, .inr ⟨_, rfl, _, _, rfl, rfl, .inl ⟨by decide, by decide⟩, _, _, rfl, rfl, _, _, rfl, rfl, ?_⟩⟩⟩
      refine ⟨_, rfl, _, _, rfl, rfl, ⟨by decide, by decide, by decide⟩, _, _, rfl, rfl, _, _, rfl, _, rfl, .inl ⟨_, rfl, _, _, rfl, rfl, (show (0 : Int) < _ by decide), (by show 3 ≤ sizeLine; decide), fun p hp => k p _ _ _ hp⟩⟩
    · refine ⟨_, rfl, _, rfl, .inl ⟨_, rfl, _, _, rfl, rfl, ⟨by decide, by decide, by decide⟩, _, _, rfl, rfl, ⟨by decide, by decide +kernel⟩, _, _, rfl, rfl, (show (0 : Int) < _ by decide +kernel), ?_⟩⟩
      refine ⟨_, rfl, .inl ⟨_, rfl, _, _, rfl, rfl, (show (0 : Int) < _ by decide), _, _, rfl, rfl, mod_mul_ok (by decide) (by decide), _, rfl, _, _, rfl, rfl, .inl ⟨by decide, by decide⟩, _, _, rfl, rfl, _, rfl, _, _, rfl, rfl, .inr ⟨_, rfl, _, _, rfl, rfl, .inl ⟨by decide, by decide⟩, _, _, rfl, rfl, _, _, rfl, rfl, ?_⟩⟩⟩
      refine ⟨_, rfl, _, _, rfl, rfl, ⟨by decide, by decide, by decide⟩, _, _, rfl, rfl, _, _, rfl, _, rfl, .inl ⟨_, rfl, _, _, rfl, rfl, (show (0 : Int) < _ by decide), (by show 3 ≤ sizeLine; decide), fun p hp => k p _ _ _ hp⟩⟩
theorem scDraw : FnScope ["stream", "total", "found", "one", "two"] ["stream", "total"] (defScope sDraw) := ⟨rfl, rfl, rfl, by decide +kernel, rfl, by decide +kernel, by decide +kernel⟩
theorem ok_draw {f : Addr} {fd : FuncData} (F : Fun K "_law_draw" "_law_draw" sDraw f fd) (T : TxtB mg) : FnOk P w K mg base CX0 1 f fd ["stream", "total"] spDraw := by
  refine F.ok scDraw (fun vs H Q E h => ?_) (fun cdv A outer s H vs Q E hr h => ?_)
  · obtain ⟨l, n, rfl, _⟩ := h
    rfl
  · obtain ⟨l, n, rfl, ⟨x, y, z, hl⟩, h1, h2, k⟩ := h
    refine ⟨_, (pss_cons (ps_if (pt_cmpR op_gt (pe_ix ix_list (pv 0) pe_int (fun _ _ => rfl)) pe_int (nomark _))
        (pss_cons (ps_set (i := 2) scDraw.nd rfl (.inl rfl) (pe_op op_mod (pe_callTy call_int1 (by rfl) T.int (by decide +kernel) (pa_cons (pe_ix ix_list (pv 0) pe_int (fun _ _ => rfl)) pa_nil)) (pv 1)))
        (pss_cons (ps_asg (pe_op op_fdiv (pe_ix ix_list (pv 0) pe_int (fun _ _ => rfl)) (pv 1)) (pg_sub (pv 0) pe_int set_list))
        (pss_one (ps_ret (pv 2)))))
        pss_nil)
      (pss_cons (ps_asg (pe_op op_add (pe_ix ix_list (pv 0) pe_int (fun _ _ => rfl)) pe_int) (pg_sub (pv 0) pe_int set_list))
      (pss_cons (ps_set (i := 3) scDraw.nd rfl (.inl rfl) (pe_op op_mod (pe_callTy call_int1 (by rfl) T.int (by decide +kernel) (pa_cons (pe_op op_add (pe_ix ix_list (pv 0) pe_int (fun _ _ => rfl)) (pe_op op_mul pe_int (pe_ix ix_list (pv 0) pe_int (fun _ _ => rfl)))) pa_nil)) pe_int))
      (pss_cons (ps_set (i := 4) scDraw.nd rfl (.inl rfl) (pe_op op_add (pe_op op_mul (pe_op op_mod (pe_callTy call_int1 (by rfl) T.int (by decide +kernel) (pa_cons (pe_op op_mul (pv 3) (pv 3)) pa_nil)) pe_int) (pv 3)) (pe_op op_mul pe_int (pe_ix ix_list (pv 0) pe_int (fun _ _ => rfl)))))
      (pss_cons (ps_set (i := 4) scDraw.nd rfl (.inl rfl) (pe_op op_mod (pe_callTy call_int1 (by rfl) T.int (by decide +kernel) (pa_cons (pv 4) pa_nil)) pe_int))
      (pss_one (ps_ret (pe_op op_mod (pe_callTy call_int1 (by rfl) T.int (by decide +kernel) (pa_cons (pe_op op_fdiv (pv 4) pe_int) pa_nil)) (pv 1))))))))), ?_⟩
    refine ⟨_, rfl, l, _, _, _, rfl, rfl, SqL.of hl, rfl, _, _, rfl, rfl, _, rfl, ?_⟩
    refine ite2 (fun c => ?_) (fun c => ?_)
    · refine ⟨_, rfl, l, _, _, _, rfl, rfl, SqL.of hl, rfl, .inl ⟨_, rfl, _, rfl, _, _, rfl, rfl, h1, ?_⟩⟩
      refine ⟨_, rfl, l, _, _, _, rfl, rfl, SqL.of hl, rfl, _, rfl, _, _, rfl, rfl, ⟨h1, by omega⟩, _, rfl, l, _, _, 0, rfl, rfl, hl, rfl, ?_⟩
      exact ⟨_, rfl, k _ _ _ _ (Int.emod_nonneg _ (by omega)) (Int.emod_lt_of_pos _ h1)⟩
    · refine ⟨_, rfl, l, _, _, _, rfl, rfl, SqL.of hl, rfl, _, _, rfl, rfl, _, rfl, l, _, _, 2, rfl, rfl, hl, rfl, ?_⟩
      refine ⟨_, rfl, l, _, _, _, rfl, rfl, SqL.of upd_same, rfl, _, rfl, l, _, _, _, rfl, rfl, SqL.of upd_same, rfl, _, _, rfl, rfl, .inl ⟨by decide, by decide⟩, _, _, rfl, rfl, .inl ⟨_, rfl, _, _, rfl, rfl, (show (0 : Int) < _ by decide), ?_⟩⟩
      refine ⟨_, rfl, _, rfl, _, _, rfl, rfl, mod_mul_ok (by decide) (by decide), .inl ⟨_, rfl, _, _, rfl, rfl, (show (0 : Int) < _ by decide), _, rfl, _, _, rfl, rfl, mod_mul_ok (by decide) (by decide), _, rfl, l, _, _, _, rfl, rfl, SqL.of upd_same, rfl, _, _, rfl, rfl, .inl ⟨by decide, by decide⟩, _, _, rfl, rfl, ?_⟩⟩
      refine ⟨_, rfl, .inl ⟨_, rfl, _, _, rfl, rfl, (show (0 : Int) < _ by decide), ?_⟩⟩
      exact ⟨_, rfl, _, _, rfl, rfl, ⟨by decide, by decide⟩, .inl ⟨_, rfl, _, rfl, _, _, rfl, rfl, h1, k _ _ _ _ (Int.emod_nonneg _ (by omega)) (Int.emod_lt_of_pos _ h1)⟩⟩
structure TxtD (K : PySem.W.Frag) (mg : Str → Option Value) (fD : Addr) (fdD : FuncData) : Prop where
  gD : mg "_law_draw" = some (.ref fD)
  kD : PySem.W.keepIn K (.ref fD) = true
  bD : Binds K fdD ["stream", "total"] []
theorem scPick : FnScope ["stream", "items"] ["stream", "items"] (defScope sPick) := ⟨rfl, rfl, rfl, by decide +kernel, rfl, by decide +kernel, by decide +kernel⟩
theorem ok_pick {f fD : Addr} {fd fdD : FuncData} (F : Fun K "_law_pick" "_law_pick" sPick f fd) (B : TxtB mg) (GD : FnOk P w K mg base CX0 1 fD fdD ["stream", "total"] spDraw) (T : TxtD K mg fD fdD) : FnOk P w K mg base CX0 2 f fd ["stream", "items"] (spPick K) := by
  refine F.ok scPick (fun vs H Q E h => ?_) (fun cdv A outer s H vs Q E hr h => ?_)
  · obtain ⟨l, b, xs, rfl, _⟩ := h
    rfl
  · obtain ⟨l, b, xs, rfl, st, nb, hS, h1, h2, k⟩ := h
    refine ⟨_, (pss_one (ps_ret (pe_ix ix_seq (pv 1) (pe_call GD hr rfl T.gD T.kD T.bD .nil pass0 (pa_cons (pv 0) (pa_cons (pe_callB call_len_seq (by rfl) B.len (by decide +kernel) (pa_cons (pv 1) pa_nil)) pa_nil))) (fun _ _ => rfl)))), ?_⟩
    refine ⟨_, rfl, _, rfl, _, rfl, b, xs, rfl, hS, l, _, rfl, st, by omega, by omega, fun i x y z g1 g2 => ?_⟩
    obtain ⟨j, rfl⟩ := Int.eq_ofNat_of_zero_le g1
    have hj : j < xs.length := by omega
    have e : xs[j]? = some xs[j] := List.getElem?_eq_getElem hj
    rcases hS with hS | hS
    · exact .inl ⟨b, xs, _, xs[j], rfl, rfl, sql_upd hS nb, atI_nat e, k _ _ _ _ (List.getElem_mem hj)⟩
    · exact .inr (.inl ⟨b, xs, _, xs[j], rfl, rfl, sqt_upd hS nb, atI_nat e, k _ _ _ _ (List.getElem_mem hj)⟩)
end
end K00

set_option Elab.async false
set_option linter.all false
set_option maxRecDepth 100000
set_option maxHeartbeats 4000000
namespace K00
open PySem PySem.Spec PyProof.Rows L2 LW LX
abbrev sKinds : Stmt := top 24
abbrev sOthers : Stmt := top 25
abbrev sBases : Stmt := top 26
/-- is an error of the i-th class one of the j-th (19 and more: the built-in ones) -/
def tbl (i j : Nat) : Bool := i == j || (j == 0 && i ≤ 12) || (j == 19 && i ≤ 12) || (j == 20 && i == 13) || (j == 21 && i == 14) || (j == 22 && i == 15) || (j == 23 && (i == 15 || i == 16)) || (j == 24 && i == 17) || (j == 25 && (i == 13 || i == 14 || i == 18))
abbrev veMro : List Value := [.type "ValueError", .type "Exception", .type "BaseException", .type "object"]
structure TxtX (K : PySem.W.Frag) (mg : Str → Option Value) (c : Nat → Addr) : Prop where
  g0 : mg "PlanError" = some (.ref (c 0))
  g1 : mg "InvalidArcs" = some (.ref (c 1))
  g2 : mg "InvalidPlan" = some (.ref (c 2))
  g3 : mg "InvalidDurations" = some (.ref (c 3))
  g4 : mg "InvalidTimes" = some (.ref (c 4))
  g5 : mg "InvalidRun" = some (.ref (c 5))
  g6 : mg "InvalidPolicy" = some (.ref (c 6))
  g7 : mg "InvalidTable" = some (.ref (c 7))
  g8 : mg "InvalidTask" = some (.ref (c 8))
  g9 : mg "InvalidOperation" = some (.ref (c 9))
  g10 : mg "InvalidEdit" = some (.ref (c 10))
  g11 : mg "ParseError" = some (.ref (c 11))
  g12 : mg "InvalidCommand" = some (.ref (c 12))
  g13 : mg "InvalidNumber" = some (.ref (c 13))
  g14 : mg "UnknownName" = some (.ref (c 14))
  g15 : mg "TooMany" = some (.ref (c 15))
  g16 : mg "Refuted" = some (.ref (c 16))
  g17 : mg "Driven" = some (.ref (c 17))
  g18 : mg "NothingToUndo" = some (.ref (c 18))
  b0 : mg "ValueError" = none
  b1 : mg "IndexError" = none
  b2 : mg "KeyError" = none
  b3 : mg "OverflowError" = none
  b4 : mg "ArithmeticError" = none
  b5 : mg "RuntimeError" = none
  b6 : mg "LookupError" = none
  isinstance : mg "isinstance" = none
  enumerate : mg "enumerate" = none
  range : mg "range" = none
  repr : mg "repr" = none
  com : XCommon K
  tab : ∀ i j, i < 19 → j < 19 → PySem.W.kitOne K (.ref (c i)) (.ref (c j)) = some (tbl i j)
  t0 : ∀ i, i < 19 → PySem.W.kitOne K (.ref (c i)) (.type "ValueError") = some (tbl i 19)
  t1 : ∀ i, i < 19 → PySem.W.kitOne K (.ref (c i)) (.type "IndexError") = some (tbl i 20)
  t2 : ∀ i, i < 19 → PySem.W.kitOne K (.ref (c i)) (.type "KeyError") = some (tbl i 21)
  t3 : ∀ i, i < 19 → PySem.W.kitOne K (.ref (c i)) (.type "OverflowError") = some (tbl i 22)
  t4 : ∀ i, i < 19 → PySem.W.kitOne K (.ref (c i)) (.type "ArithmeticError") = some (tbl i 23)
  t5 : ∀ i, i < 19 → PySem.W.kitOne K (.ref (c i)) (.type "RuntimeError") = some (tbl i 24)
  t6 : ∀ i, i < 19 → PySem.W.kitOne K (.ref (c i)) (.type "LookupError") = some (tbl i 25)
  has : ∀ i, i < 19 → XHas K (c i)
  exc : ∀ i, i < 13 → PySem.W.excIn K (c i) veMro "ValueError.__new__" = true
  kp : ∀ i, i < 19 → PySem.W.keepIn K (.ref (c i)) = true
theorem IsX.same {H H' : Hp} {a C : Addr} {fs : List (Str × V)} (h : IsX H a C fs) (s : Same H H') : IsX H' a C fs := by
  rcases h with ⟨h, e⟩ | ⟨d, h, hd⟩
  · exact .inl ⟨s _ _ h, e⟩
  · exact .inr ⟨d, s _ _ h, s _ _ hd⟩
theorem same_upd {H : Hp} {p : Addr} {o : HO} (h : H p = none) : Same H (upd H p o) := fun b u e => by
  rw [upd_ne (ne_of_none e h)]
  exact e
/-- a new object, the heap behind it by what it holds -/
theorem rd_new {H : Hp} {o : HO} {Q : VK} (h : ∀ p H', Same H H' → H p = none → H' p = some o → Q (.ref p) H') : ∀ p, H p = none → Q (.ref p) (upd H p o) := fun p n => h p _ (same_upd n) n upd_same
theorem rd_mk0 {H : Hp} {C : Addr} {Q : VK} (h : ∀ p H', Same H H' → H p = none → IsX H' p C [] → Q (.ref p) H') : ∀ p, H p = none → Q (.ref p) (upd H p (ExV C p none)) := fun p n => h p _ (same_upd n) n (.inl ⟨upd_same, rfl⟩)
theorem rd_mkX {H : Hp} {C : Addr} {f : Str} {v : V} {Q : VK} (h : ∀ p H', Same H H' → H p = none → IsX H' p C [(f, v)] → Q (.ref p) H') :
    ∀ e d, H e = none → H d = none → d ≠ e → Q (.ref e) (upd (upd H d (.xd [(f, v)])) e (ExV C e (some d))) := fun e d he hd ne => by
  have s1 : Same H (upd H d (.xd [(f, v)])) := same_upd hd
  have n1 : upd H d (.xd [(f, v)]) e = none := (upd_ne ne.symm).trans he
  exact h e _ (s1.trans (same_upd n1)) he (.inr ⟨d, upd_same, (upd_ne ne).trans upd_same⟩)
/-- a list of answers -/
def bls (bs : List Bool) : List V := bs.map V.bl
/-- a def that answers of which classes an error is -/
def spRow (c : Nat → Addr) (js : List Nat) : Sp := fun vs H Q _ => ∃ (a : Addr) (i : Nat) (fs : List (Str × V)), vs = [.ref a] ∧ i < 19 ∧ IsX H a (c i) fs ∧
  ∀ p H', Same H H' → H p = none → H' p = some (.lst (bls (js.map (tbl i)))) → Q (.ref p) H'
section
variable {P : Program} {w : World} {K : PySem.W.Frag} {mg : Str → Option Value} {base : Heap} {c : Nat → Addr}
theorem scKinds : FnScope ["error", "found"] ["error"] (defScope sKinds) := ⟨rfl, rfl, rfl, by decide +kernel, rfl, by decide +kernel, by decide +kernel⟩
theorem ok_law_kinds {f : Addr} {fd : FuncData} (F : Fun K "_law_kinds" "_law_kinds" sKinds f fd) (T : TxtX K mg c) : FnOk P w K mg base CX0 1 f fd ["error"] (spRow c [1, 2, 3, 4, 5, 6, 7, 8, 9, 10, 11, 12]) := by
  refine F.ok scKinds (fun vs H Q E h => ?_) (fun cdv A outer s H vs Q E hr h => ?_)
  · obtain ⟨a, i, fs, rfl, _⟩ := h
    rfl
  · obtain ⟨a, i, fs, rfl, hi, hx, k⟩ := h
    refine ⟨_, (pss_cons (ps_set (i := 1) scKinds.nd rfl (.inl rfl) (pe_lst (pa_cons (pe_callB (call_isX T.com) (by rfl) T.isinstance (by decide +kernel) (pa_cons (pv 0) (pa_cons (pe_glob (v := .ref (c 1)) rfl T.g1 rfl) pa_nil))) (pa_cons (pe_callB (call_isX T.com) (by rfl) T.isinstance (by decide +kernel) (pa_cons (pv 0) (pa_cons (pe_glob (v := .ref (c 2)) rfl T.g2 rfl) pa_nil))) (pa_cons (pe_callB (call_isX T.com) (by rfl) T.isinstance (by decide +kernel) (pa_cons (pv 0) (pa_cons (pe_glob (v := .ref (c 3)) rfl T.g3 rfl) pa_nil))) pa_nil)))))
      (pss_cons (ps_set (i := 1) scKinds.nd rfl (.inl rfl) (pe_op op_cat (pv 1) (pe_lst (pa_cons (pe_callB (call_isX T.com) (by rfl) T.isinstance (by decide +kernel) (pa_cons (pv 0) (pa_cons (pe_glob (v := .ref (c 4)) rfl T.g4 rfl) pa_nil))) (pa_cons (pe_callB (call_isX T.com) (by rfl) T.isinstance (by decide +kernel) (pa_cons (pv 0) (pa_cons (pe_glob (v := .ref (c 5)) rfl T.g5 rfl) pa_nil))) pa_nil)))))
      (pss_cons (ps_set (i := 1) scKinds.nd rfl (.inl rfl) (pe_op op_cat (pv 1) (pe_lst (pa_cons (pe_callB (call_isX T.com) (by rfl) T.isinstance (by decide +kernel) (pa_cons (pv 0) (pa_cons (pe_glob (v := .ref (c 6)) rfl T.g6 rfl) pa_nil))) (pa_cons (pe_callB (call_isX T.com) (by rfl) T.isinstance (by decide +kernel) (pa_cons (pv 0) (pa_cons (pe_glob (v := .ref (c 7)) rfl T.g7 rfl) pa_nil))) pa_nil)))))
      (pss_cons (ps_set (i := 1) scKinds.nd rfl (.inl rfl) (pe_op op_cat (pv 1) (pe_lst (pa_cons (pe_callB (call_isX T.com) (by rfl) T.isinstance (by decide +kernel) (pa_cons (pv 0) (pa_cons (pe_glob (v := .ref (c 8)) rfl T.g8 rfl) pa_nil))) (pa_cons (pe_callB (call_isX T.com) (by rfl) T.isinstance (by decide +kernel) (pa_cons (pv 0) (pa_cons (pe_glob (v := .ref (c 9)) rfl T.g9 rfl) pa_nil))) pa_nil)))))
      (pss_cons (ps_set (i := 1) scKinds.nd rfl (.inl rfl) (pe_op op_cat (pv 1) (pe_lst (pa_cons (pe_callB (call_isX T.com) (by rfl) T.isinstance (by decide +kernel) (pa_cons (pv 0) (pa_cons (pe_glob (v := .ref (c 10)) rfl T.g10 rfl) pa_nil))) (pa_cons (pe_callB (call_isX T.com) (by rfl) T.isinstance (by decide +kernel) (pa_cons (pv 0) (pa_cons (pe_glob (v := .ref (c 11)) rfl T.g11 rfl) pa_nil))) pa_nil)))))
      (pss_one (ps_ret (pe_op op_cat (pv 1) (pe_lst (pa_cons (pe_callB (call_isX T.com) (by rfl) T.isinstance (by decide +kernel) (pa_cons (pv 0) (pa_cons (pe_glob (v := .ref (c 12)) rfl T.g12 rfl) pa_nil))) pa_nil)))))))))), ?_⟩
    refine ⟨_, rfl, a, _, fs, _, _, _, rfl, hx, T.has i hi, .own _, T.tab i 1 hi (by decide), _, rfl, a, _, fs, _, _, _, rfl, hx, T.has i hi, .own _, T.tab i 2 hi (by decide), _, rfl, a, _, fs, _, _, _, rfl, hx, T.has i hi, .own _, T.tab i 3 hi (by decide), (by show 3 ≤ sizeLine; decide), ?_⟩
    intro p0 n0
    obtain ⟨H0, gH0⟩ : ∃ G : Hp, G = upd H p0 (HO.lst [V.bl (tbl i 1), V.bl (tbl i 2), V.bl (tbl i 3)]) := ⟨_, rfl⟩
    rw [← gH0]
    have s0 : Same H H0 := by rw [gH0]; exact same_upd n0
    have e0 : H0 p0 = some (HO.lst [V.bl (tbl i 1), V.bl (tbl i 2), V.bl (tbl i 3)]) := by rw [gH0]; exact upd_same
    clear gH0
    have hx0 := IsX.same hx s0
    have S0 := s0
    refine ⟨_, rfl, _, rfl, a, _, fs, _, _, _, rfl, hx0, T.has i hi, .own _, T.tab i 4 hi (by decide), _, rfl, a, _, fs, _, _, _, rfl, hx0, T.has i hi, .own _, T.tab i 5 hi (by decide), (by show 2 ≤ sizeLine; decide), ?_⟩
    intro q0 m0
    obtain ⟨G0, gG0⟩ : ∃ G : Hp, G = upd H0 q0 (HO.lst [V.bl (tbl i 4), V.bl (tbl i 5)]) := ⟨_, rfl⟩
    rw [← gG0]
    have t0 : Same H0 G0 := by rw [gG0]; exact same_upd m0
    have f0 : G0 q0 = some (HO.lst [V.bl (tbl i 4), V.bl (tbl i 5)]) := by rw [gG0]; exact upd_same
    clear gG0
    refine ⟨_, _, _, _, rfl, rfl, t0 _ _ e0, f0, (by show 5 ≤ sizeLine; decide), ?_⟩
    show ∀ p, G0 p = none → _
    intro p1 n1
    obtain ⟨H1, gH⟩ : ∃ G : Hp, G = upd G0 p1 (HO.lst ([V.bl (tbl i 1), V.bl (tbl i 2), V.bl (tbl i 3)] ++ [V.bl (tbl i 4), V.bl (tbl i 5)])) := ⟨_, rfl⟩
    rw [← gH]
    have s1 : Same G0 H1 := by rw [gH]; exact same_upd n1
    have e1 : H1 p1 = some (HO.lst [V.bl (tbl i 1), V.bl (tbl i 2), V.bl (tbl i 3), V.bl (tbl i 4), V.bl (tbl i 5)]) := by rw [gH]; exact upd_same
    clear gH
    have hx1 := IsX.same (IsX.same hx0 t0) s1
    have S1 := (S0.trans t0).trans s1
    refine ⟨_, rfl, _, rfl, a, _, fs, _, _, _, rfl, hx1, T.has i hi, .own _, T.tab i 6 hi (by decide), _, rfl, a, _, fs, _, _, _, rfl, hx1, T.has i hi, .own _, T.tab i 7 hi (by decide), (by show 2 ≤ sizeLine; decide), ?_⟩
    intro q1 m1
    obtain ⟨G1, gG1⟩ : ∃ G : Hp, G = upd H1 q1 (HO.lst [V.bl (tbl i 6), V.bl (tbl i 7)]) := ⟨_, rfl⟩
    rw [← gG1]
    have t1 : Same H1 G1 := by rw [gG1]; exact same_upd m1
    have f1 : G1 q1 = some (HO.lst [V.bl (tbl i 6), V.bl (tbl i 7)]) := by rw [gG1]; exact upd_same
    clear gG1
    refine ⟨_, _, _, _, rfl, rfl, t1 _ _ e1, f1, (by show 7 ≤ sizeLine; decide), ?_⟩
    show ∀ p, G1 p = none → _
    intro p2 n2
    obtain ⟨H2, gH⟩ : ∃ G : Hp, G = upd G1 p2 (HO.lst ([V.bl (tbl i 1), V.bl (tbl i 2), V.bl (tbl i 3), V.bl (tbl i 4), V.bl (tbl i 5)] ++ [V.bl (tbl i 6), V.bl (tbl i 7)])) := ⟨_, rfl⟩
    rw [← gH]
    have s2 : Same G1 H2 := by rw [gH]; exact same_upd n2
    have e2 : H2 p2 = some (HO.lst [V.bl (tbl i 1), V.bl (tbl i 2), V.bl (tbl i 3), V.bl (tbl i 4), V.bl (tbl i 5), V.bl (tbl i 6), V.bl (tbl i 7)]) := by rw [gH]; exact upd_same
    clear gH
    have hx2 := IsX.same (IsX.same hx1 t1) s2
    have S2 := (S1.trans t1).trans s2
    refine ⟨_, rfl, _, rfl, a, _, fs, _, _, _, rfl, hx2, T.has i hi, .own _, T.tab i 8 hi (by decide), _, rfl, a, _, fs, _, _, _, rfl, hx2, T.has i hi, .own _, T.tab i 9 hi (by decide), (by show 2 ≤ sizeLine; decide), ?_⟩
    intro q2 m2
    obtain ⟨G2, gG2⟩ : ∃ G : Hp, G = upd H2 q2 (HO.lst [V.bl (tbl i 8), V.bl (tbl i 9)]) := ⟨_, rfl⟩
    rw [← gG2]
    have t2 : Same H2 G2 := by rw [gG2]; exact same_upd m2
    have f2 : G2 q2 = some (HO.lst [V.bl (tbl i 8), V.bl (tbl i 9)]) := by rw [gG2]; exact upd_same
    clear gG2
    refine ⟨_, _, _, _, rfl, rfl, t2 _ _ e2, f2, (by show 9 ≤ sizeLine; decide), ?_⟩
    show ∀ p, G2 p = none → _
    intro p3 n3
    obtain ⟨H3, gH⟩ : ∃ G : Hp, G = upd G2 p3 (HO.lst ([V.bl (tbl i 1), V.bl (tbl i 2), V.bl (tbl i 3), V.bl (tbl i 4), V.bl (tbl i 5), V.bl (tbl i 6), V.bl (tbl i 7)] ++ [V.bl (tbl i 8), V.bl (tbl i 9)])) := ⟨_, rfl⟩
    rw [← gH]
    have s3 : Same G2 H3 := by rw [gH]; exact same_upd n3
    have e3 : H3 p3 = some (HO.lst [V.bl (tbl i 1), V.bl (tbl i 2), V.bl (tbl i 3), V.bl (tbl i 4), V.bl (tbl i 5), V.bl (tbl i 6), V.bl (tbl i 7), V.bl (tbl i 8), V.bl (tbl i 9)]) := by rw [gH]; exact upd_same
    clear gH
    have hx3 := IsX.same (IsX.same hx2 t2) s3
    have S3 := (S2.trans t2).trans s3
    refine ⟨_, rfl, _, rfl, a, _, fs, _, _, _, rfl, hx3, T.has i hi, .own _, T.tab i 10 hi (by decide), _, rfl, a, _, fs, _, _, _, rfl, hx3, T.has i hi, .own _, T.tab i 11 hi (by decide), (by show 2 ≤ sizeLine; decide), ?_⟩
    intro q3 m3
    obtain ⟨G3, gG3⟩ : ∃ G : Hp, G = upd H3 q3 (HO.lst [V.bl (tbl i 10), V.bl (tbl i 11)]) := ⟨_, rfl⟩
    rw [← gG3]
    have t3 : Same H3 G3 := by rw [gG3]; exact same_upd m3
    have f3 : G3 q3 = some (HO.lst [V.bl (tbl i 10), V.bl (tbl i 11)]) := by rw [gG3]; exact upd_same
    clear gG3
    refine ⟨_, _, _, _, rfl, rfl, t3 _ _ e3, f3, (by show 11 ≤ sizeLine; decide), ?_⟩
    show ∀ p, G3 p = none → _
    intro p4 n4
    obtain ⟨H4, gH⟩ : ∃ G : Hp, G = upd G3 p4 (HO.lst ([V.bl (tbl i 1), V.bl (tbl i 2), V.bl (tbl i 3), V.bl (tbl i 4), V.bl (tbl i 5), V.bl (tbl i 6), V.bl (tbl i 7), V.bl (tbl i 8), V.bl (tbl i 9)] ++ [V.bl (tbl i 10), V.bl (tbl i 11)])) := ⟨_, rfl⟩
    rw [← gH]
    have s4 : Same G3 H4 := by rw [gH]; exact same_upd n4
    have e4 : H4 p4 = some (HO.lst [V.bl (tbl i 1), V.bl (tbl i 2), V.bl (tbl i 3), V.bl (tbl i 4), V.bl (tbl i 5), V.bl (tbl i 6), V.bl (tbl i 7), V.bl (tbl i 8), V.bl (tbl i 9), V.bl (tbl i 10), V.bl (tbl i 11)]) := by rw [gH]; exact upd_same
    clear gH
    have hx4 := IsX.same (IsX.same hx3 t3) s4
    have S4 := (S3.trans t3).trans s4
    refine ⟨_, rfl, _, rfl, a, _, fs, _, _, _, rfl, hx4, T.has i hi, .own _, T.tab i 12 hi (by decide), (by show 1 ≤ sizeLine; decide), ?_⟩
    intro q4 m4
    obtain ⟨G4, gG4⟩ : ∃ G : Hp, G = upd H4 q4 (HO.lst [V.bl (tbl i 12)]) := ⟨_, rfl⟩
    rw [← gG4]
    have t4 : Same H4 G4 := by rw [gG4]; exact same_upd m4
    have f4 : G4 q4 = some (HO.lst [V.bl (tbl i 12)]) := by rw [gG4]; exact upd_same
    clear gG4
    refine ⟨_, _, _, _, rfl, rfl, t4 _ _ e4, f4, (by show 12 ≤ sizeLine; decide), ?_⟩
    intro p np
    have sf := S4.trans t4
    exact k p _ (sf.trans (same_upd np)) (sf.free np) upd_same
theorem scOthers : FnScope ["error", "found"] ["error"] (defScope sOthers) := ⟨rfl, rfl, rfl, by decide +kernel, rfl, by decide +kernel, by decide +kernel⟩
theorem ok_law_others {f : Addr} {fd : FuncData} (F : Fun K "_law_others" "_law_others" sOthers f fd) (T : TxtX K mg c) : FnOk P w K mg base CX0 1 f fd ["error"] (spRow c [13, 14, 15, 16, 17, 18]) := by
  refine F.ok scOthers (fun vs H Q E h => ?_) (fun cdv A outer s H vs Q E hr h => ?_)
  · obtain ⟨a, i, fs, rfl, _⟩ := h
    rfl
  · obtain ⟨a, i, fs, rfl, hi, hx, k⟩ := h
    refine ⟨_, (pss_cons (ps_set (i := 1) scOthers.nd rfl (.inl rfl) (pe_lst (pa_cons (pe_callB (call_isX T.com) (by rfl) T.isinstance (by decide +kernel) (pa_cons (pv 0) (pa_cons (pe_glob (v := .ref (c 13)) rfl T.g13 rfl) pa_nil))) (pa_cons (pe_callB (call_isX T.com) (by rfl) T.isinstance (by decide +kernel) (pa_cons (pv 0) (pa_cons (pe_glob (v := .ref (c 14)) rfl T.g14 rfl) pa_nil))) (pa_cons (pe_callB (call_isX T.com) (by rfl) T.isinstance (by decide +kernel) (pa_cons (pv 0) (pa_cons (pe_glob (v := .ref (c 15)) rfl T.g15 rfl) pa_nil))) pa_nil)))))
      (pss_one (ps_ret (pe_op op_cat (pv 1) (pe_lst (pa_cons (pe_callB (call_isX T.com) (by rfl) T.isinstance (by decide +kernel) (pa_cons (pv 0) (pa_cons (pe_glob (v := .ref (c 16)) rfl T.g16 rfl) pa_nil))) (pa_cons (pe_callB (call_isX T.com) (by rfl) T.isinstance (by decide +kernel) (pa_cons (pv 0) (pa_cons (pe_glob (v := .ref (c 17)) rfl T.g17 rfl) pa_nil))) (pa_cons (pe_callB (call_isX T.com) (by rfl) T.isinstance (by decide +kernel) (pa_cons (pv 0) (pa_cons (pe_glob (v := .ref (c 18)) rfl T.g18 rfl) pa_nil))) pa_nil)))))))), ?_⟩
    refine ⟨_, rfl, a, _, fs, _, _, _, rfl, hx, T.has i hi, .own _, T.tab i 13 hi (by decide), _, rfl, a, _, fs, _, _, _, rfl, hx, T.has i hi, .own _, T.tab i 14 hi (by decide), _, rfl, a, _, fs, _, _, _, rfl, hx, T.has i hi, .own _, T.tab i 15 hi (by decide), (by show 3 ≤ sizeLine; decide), ?_⟩
    intro p0 n0
    obtain ⟨H0, gH0⟩ : ∃ G : Hp, G = upd H p0 (HO.lst [V.bl (tbl i 13), V.bl (tbl i 14), V.bl (tbl i 15)]) := ⟨_, rfl⟩
    rw [← gH0]
    have s0 : Same H H0 := by rw [gH0]; exact same_upd n0
    have e0 : H0 p0 = some (HO.lst [V.bl (tbl i 13), V.bl (tbl i 14), V.bl (tbl i 15)]) := by rw [gH0]; exact upd_same
    clear gH0
    have hx0 := IsX.same hx s0
    have S0 := s0
    refine ⟨_, rfl, _, rfl, a, _, fs, _, _, _, rfl, hx0, T.has i hi, .own _, T.tab i 16 hi (by decide), _, rfl, a, _, fs, _, _, _, rfl, hx0, T.has i hi, .own _, T.tab i 17 hi (by decide), _, rfl, a, _, fs, _, _, _, rfl, hx0, T.has i hi, .own _, T.tab i 18 hi (by decide), (by show 3 ≤ sizeLine; decide), ?_⟩
    intro q0 m0
    obtain ⟨G0, gG0⟩ : ∃ G : Hp, G = upd H0 q0 (HO.lst [V.bl (tbl i 16), V.bl (tbl i 17), V.bl (tbl i 18)]) := ⟨_, rfl⟩
    rw [← gG0]
    have t0 : Same H0 G0 := by rw [gG0]; exact same_upd m0
    have f0 : G0 q0 = some (HO.lst [V.bl (tbl i 16), V.bl (tbl i 17), V.bl (tbl i 18)]) := by rw [gG0]; exact upd_same
    clear gG0
    refine ⟨_, _, _, _, rfl, rfl, t0 _ _ e0, f0, (by show 6 ≤ sizeLine; decide), ?_⟩
    intro p np
    have sf := S0.trans t0
    exact k p _ (sf.trans (same_upd np)) (sf.free np) upd_same
theorem scBases : FnScope ["error", "found"] ["error"] (defScope sBases) := ⟨rfl, rfl, rfl, by decide +kernel, rfl, by decide +kernel, by decide +kernel⟩
theorem ok_law_bases {f : Addr} {fd : FuncData} (F : Fun K "_law_bases" "_law_bases" sBases f fd) (T : TxtX K mg c) : FnOk P w K mg base CX0 1 f fd ["error"] (spRow c [19, 20, 21, 22, 23, 24, 25]) := by
  refine F.ok scBases (fun vs H Q E h => ?_) (fun cdv A outer s H vs Q E hr h => ?_)
  · obtain ⟨a, i, fs, rfl, _⟩ := h
    rfl
  · obtain ⟨a, i, fs, rfl, hi, hx, k⟩ := h
    refine ⟨_, (pss_cons (ps_set (i := 1) scBases.nd rfl (.inl rfl) (pe_lst (pa_cons (pe_callB (call_isX T.com) (by rfl) T.isinstance (by decide +kernel) (pa_cons (pv 0) (pa_cons (pe_bltn (v := .ty "ValueError") (by rfl) T.b0 (by decide +kernel) rfl) pa_nil))) (pa_cons (pe_callB (call_isX T.com) (by rfl) T.isinstance (by decide +kernel) (pa_cons (pv 0) (pa_cons (pe_bltn (v := .ty "IndexError") (by rfl) T.b1 (by decide +kernel) rfl) pa_nil))) (pa_cons (pe_callB (call_isX T.com) (by rfl) T.isinstance (by decide +kernel) (pa_cons (pv 0) (pa_cons (pe_bltn (v := .ty "KeyError") (by rfl) T.b2 (by decide +kernel) rfl) pa_nil))) pa_nil)))))
      (pss_cons (ps_set (i := 1) scBases.nd rfl (.inl rfl) (pe_op op_cat (pv 1) (pe_lst (pa_cons (pe_callB (call_isX T.com) (by rfl) T.isinstance (by decide +kernel) (pa_cons (pv 0) (pa_cons (pe_bltn (v := .ty "OverflowError") (by rfl) T.b3 (by decide +kernel) rfl) pa_nil))) (pa_cons (pe_callB (call_isX T.com) (by rfl) T.isinstance (by decide +kernel) (pa_cons (pv 0) (pa_cons (pe_bltn (v := .ty "ArithmeticError") (by rfl) T.b4 (by decide +kernel) rfl) pa_nil))) pa_nil)))))
      (pss_one (ps_ret (pe_op op_cat (pv 1) (pe_lst (pa_cons (pe_callB (call_isX T.com) (by rfl) T.isinstance (by decide +kernel) (pa_cons (pv 0) (pa_cons (pe_bltn (v := .ty "RuntimeError") (by rfl) T.b5 (by decide +kernel) rfl) pa_nil))) (pa_cons (pe_callB (call_isX T.com) (by rfl) T.isinstance (by decide +kernel) (pa_cons (pv 0) (pa_cons (pe_bltn (v := .ty "LookupError") (by rfl) T.b6 (by decide +kernel) rfl) pa_nil))) pa_nil)))))))), ?_⟩
    refine ⟨_, rfl, a, _, fs, _, _, _, rfl, hx, T.has i hi, .ty _, T.t0 i hi, _, rfl, a, _, fs, _, _, _, rfl, hx, T.has i hi, .ty _, T.t1 i hi, _, rfl, a, _, fs, _, _, _, rfl, hx, T.has i hi, .ty _, T.t2 i hi, (by show 3 ≤ sizeLine; decide), ?_⟩
    intro p0 n0
    obtain ⟨H0, gH0⟩ : ∃ G : Hp, G = upd H p0 (HO.lst [V.bl (tbl i 19), V.bl (tbl i 20), V.bl (tbl i 21)]) := ⟨_, rfl⟩
    rw [← gH0]
    have s0 : Same H H0 := by rw [gH0]; exact same_upd n0
    have e0 : H0 p0 = some (HO.lst [V.bl (tbl i 19), V.bl (tbl i 20), V.bl (tbl i 21)]) := by rw [gH0]; exact upd_same
    clear gH0
    have hx0 := IsX.same hx s0
    have S0 := s0
    refine ⟨_, rfl, _, rfl, a, _, fs, _, _, _, rfl, hx0, T.has i hi, .ty _, T.t3 i hi, _, rfl, a, _, fs, _, _, _, rfl, hx0, T.has i hi, .ty _, T.t4 i hi, (by show 2 ≤ sizeLine; decide), ?_⟩
    intro q0 m0
    obtain ⟨G0, gG0⟩ : ∃ G : Hp, G = upd H0 q0 (HO.lst [V.bl (tbl i 22), V.bl (tbl i 23)]) := ⟨_, rfl⟩
    rw [← gG0]
    have t0 : Same H0 G0 := by rw [gG0]; exact same_upd m0
    have f0 : G0 q0 = some (HO.lst [V.bl (tbl i 22), V.bl (tbl i 23)]) := by rw [gG0]; exact upd_same
    clear gG0
    refine ⟨_, _, _, _, rfl, rfl, t0 _ _ e0, f0, (by show 5 ≤ sizeLine; decide), ?_⟩
    show ∀ p, G0 p = none → _
    intro p1 n1
    obtain ⟨H1, gH⟩ : ∃ G : Hp, G = upd G0 p1 (HO.lst ([V.bl (tbl i 19), V.bl (tbl i 20), V.bl (tbl i 21)] ++ [V.bl (tbl i 22), V.bl (tbl i 23)])) := ⟨_, rfl⟩
    rw [← gH]
    have s1 : Same G0 H1 := by rw [gH]; exact same_upd n1
    have e1 : H1 p1 = some (HO.lst [V.bl (tbl i 19), V.bl (tbl i 20), V.bl (tbl i 21), V.bl (tbl i 22), V.bl (tbl i 23)]) := by rw [gH]; exact upd_same
    clear gH
    have hx1 := IsX.same (IsX.same hx0 t0) s1
    have S1 := (S0.trans t0).trans s1
    refine ⟨_, rfl, _, rfl, a, _, fs, _, _, _, rfl, hx1, T.has i hi, .ty _, T.t5 i hi, _, rfl, a, _, fs, _, _, _, rfl, hx1, T.has i hi, .ty _, T.t6 i hi, (by show 2 ≤ sizeLine; decide), ?_⟩
    intro q1 m1
    obtain ⟨G1, gG1⟩ : ∃ G : Hp, G = upd H1 q1 (HO.lst [V.bl (tbl i 24), V.bl (tbl i 25)]) := ⟨_, rfl⟩
    rw [← gG1]
    have t1 : Same H1 G1 := by rw [gG1]; exact same_upd m1
    have f1 : G1 q1 = some (HO.lst [V.bl (tbl i 24), V.bl (tbl i 25)]) := by rw [gG1]; exact upd_same
    clear gG1
    refine ⟨_, _, _, _, rfl, rfl, t1 _ _ e1, f1, (by show 7 ≤ sizeLine; decide), ?_⟩
    intro p np
    have sf := S1.trans t1
    exact k p _ (sf.trans (same_upd np)) (sf.free np) upd_same
end
end K00

set_option Elab.async false
set_option linter.all false
set_option maxRecDepth 100000
set_option maxHeartbeats 4000000
namespace K00
open PySem PySem.Spec PyProof.Rows L2 LW LX
abbrev sMsg : Stmt := top 27
abbrev jsK : List Nat := [1, 2, 3, 4, 5, 6, 7, 8, 9, 10, 11, 12]
abbrev jsO : List Nat := [13, 14, 15, 16, 17, 18]
abbrev jsB : List Nat := [19, 20, 21, 22, 23, 24, 25]
structure TxtR (K : PySem.W.Frag) (mg : Str → Option Value) (fK fO fB : Addr) (fdK fdO fdB : FuncData) : Prop where
  gK : mg "_law_kinds" = some (.ref fK)
  kK : PySem.W.keepIn K (.ref fK) = true
  bK : Binds K fdK ["error"] []
  gO : mg "_law_others" = some (.ref fO)
  kO : PySem.W.keepIn K (.ref fO) = true
  bO : Binds K fdO ["error"] []
  gB : mg "_law_bases" = some (.ref fB)
  kB : PySem.W.keepIn K (.ref fB) = true
  bB : Binds K fdB ["error"] []
theorem iteN {b : Bool} {A B : Prop} (h : b = false) (q : B) : if b = true then A else B := by
  rw [h]
  exact iteF q
theorem yes {σ : L2.St} {H : Hp} {A B : Hp → Prop} (h : A H) : tYes σ H (fun b H3 => if b = true then A H3 else B H3) := iteT (A := A H) (B := B H) h
theorem iteY {b : Bool} {A B : Prop} (h : b = true) (q : A) : if b = true then A else B := by
  rw [h]
  exact iteT q
theorem eqvR {d : PyData} (h : SeqAt.shaped d = true) : PyData.eqv d d = true := SeqAt.eqv_refl d (SeqAt.canLay_of_shaped h)
theorem dpAll_bls {K : PySem.W.Frag} {H : Hp} : ∀ bs : List Bool, DpAll K H (bls bs) (bs.map PyData.bool)
  | [] => .nil
  | b :: r => .cons (.bl b) (dpAll_bls r)
theorem dp_bls {K : PySem.W.Frag} {H : Hp} {p : Addr} {bs : List Bool} (h : H p = some (.lst (bls bs))) : Dp K H (.ref p) (.list (bs.map PyData.bool)) := .lst (SqL.of h) (dpAll_bls bs)
theorem tbl_kinds : ∀ i, i < 12 → jsK.map (tbl (i + 1)) = (List.range 12).map (fun o => decide (i = o)) := by decide
theorem tbl_others : ∀ i, i < 12 → jsO.map (tbl (i + 1)) = List.replicate 6 false := by decide
theorem tbl_bases : ∀ i, i < 13 → jsB.map (tbl i) = true :: List.replicate 6 false := by decide
theorem tbl_plan : ∀ i, i < 12 → tbl (i + 1) 0 = true := by decide
theorem tbl_kinds0 : jsK.map (tbl 0) = List.replicate 12 false := by decide
theorem shaped_b6 : SeqAt.shaped (.list ((List.replicate 6 false).map PyData.bool)) = true := by decide
theorem shaped_b7 : SeqAt.shaped (.list ((true :: List.replicate 6 false).map PyData.bool)) = true := by decide
theorem shaped_b12 : SeqAt.shaped (.list ((List.replicate 12 false).map PyData.bool)) = true := by decide
theorem shaped_bk : ∀ i, i < 12 → SeqAt.shaped (.list (((List.range 12).map (fun o => decide (i = o))).map PyData.bool)) = true := by decide
/-- all holds, for any text -/
def spMsg : Sp := fun vs H Q _ => ∃ (x : V), vs = [x] ∧ ∀ H', Same H H' → Q (.bl true) H'
section
variable {P : Program} {w : World} {K : PySem.W.Frag} {mg : Str → Option Value} {base : Heap} {c : Nat → Addr}
theorem scMsg : FnScope ["text", "some", "at", "error", "plain", "other"] ["text"] (defScope sMsg) := ⟨rfl, rfl, rfl, by decide +kernel, rfl, by decide +kernel, by decide +kernel⟩
theorem ok_msg {f fK fO fB : Addr} {fd fdK fdO fdB : FuncData} (F : Fun K "_law_messages_right" "_law_messages_right" sMsg f fd) (T : TxtX K mg c) (R : TxtR K mg fK fO fB fdK fdO fdB)
    (GK : FnOk P w K mg base CX0 1 fK fdK ["error"] (spRow c jsK)) (GO : FnOk P w K mg base CX0 1 fO fdO ["error"] (spRow c jsO)) (GB : FnOk P w K mg base CX0 1 fB fdB ["error"] (spRow c jsB)) :
    FnOk P w K mg base CX0 3 f fd ["text"] spMsg := by
  refine F.ok scMsg (fun vs H Q E h => ?_) (fun cdv A outer s H vs Q E hr h => ?_)
  · obtain ⟨x, rfl, _⟩ := h
    rfl
  · obtain ⟨x, rfl, k⟩ := h
    have hr1 := hr.mono (show 1 ≤ 2 by decide)
    refine ⟨_, (pss_cons (ps_set (i := 1) scMsg.nd rfl (.inl rfl) (pe_lst (pa_cons (pe_mk0 PySem.F.excBase_ValueError (T.exc 1 (by decide)) T.g1 (T.kp 1 (by decide)) rfl (pv 0)) (pa_cons (pe_mk0 PySem.F.excBase_ValueError (T.exc 2 (by decide)) T.g2 (T.kp 2 (by decide)) rfl (pv 0)) (pa_cons (pe_mk0 PySem.F.excBase_ValueError (T.exc 3 (by decide)) T.g3 (T.kp 3 (by decide)) rfl (pv 0)) (pa_cons (pe_mk0 PySem.F.excBase_ValueError (T.exc 4 (by decide)) T.g4 (T.kp 4 (by decide)) rfl (pv 0)) (pa_cons (pe_mk0 PySem.F.excBase_ValueError (T.exc 5 (by decide)) T.g5 (T.kp 5 (by decide)) rfl (pv 0)) pa_nil)))))))
      (pss_cons (ps_set (i := 1) scMsg.nd rfl (.inl rfl) (pe_op op_cat (pv 1) (pe_lst (pa_cons (pe_mk0 PySem.F.excBase_ValueError (T.exc 6 (by decide)) T.g6 (T.kp 6 (by decide)) rfl (pv 0)) (pa_cons (pe_mk0 PySem.F.excBase_ValueError (T.exc 7 (by decide)) T.g7 (T.kp 7 (by decide)) rfl (pv 0)) (pa_cons (pe_mk0 PySem.F.excBase_ValueError (T.exc 8 (by decide)) T.g8 (T.kp 8 (by decide)) rfl (pv 0)) (pa_cons (pe_mk0 PySem.F.excBase_ValueError (T.exc 9 (by decide)) T.g9 (T.kp 9 (by decide)) rfl (pv 0)) pa_nil)))))))
      (pss_cons (ps_set (i := 1) scMsg.nd rfl (.inl rfl) (pe_op op_cat (pv 1) (pe_lst (pa_cons (pe_mk0 PySem.F.excBase_ValueError (T.exc 10 (by decide)) T.g10 (T.kp 10 (by decide)) rfl (pv 0)) (pa_cons (pe_mk0 PySem.F.excBase_ValueError (T.exc 11 (by decide)) T.g11 (T.kp 11 (by decide)) rfl (pv 0)) (pa_cons (pe_mk0 PySem.F.excBase_ValueError (T.exc 12 (by decide)) T.g12 (T.kp 12 (by decide)) rfl (pv 0)) pa_nil))))))
      (pss_cons (ps_for PassesOwn.never rfl (pi_enum (by rfl) T.enumerate (pa_cons (pv 1) pa_nil)) (pg_tup rfl (pgs_cons (pg_name (i := 2) scMsg.nd rfl (.inr rfl)) (pgs_cons (pg_name (i := 3) scMsg.nd rfl (.inl rfl)) pgs_nil)))
        (pss_cons (ps_if (PW.pt (pw_or (pt_not (pt_val (pe_callB (call_isX T.com) (by rfl) T.isinstance (by decide +kernel) (pa_cons (pv 3) (pa_cons (pe_glob (v := .ref (c 0)) rfl T.g0 rfl) pa_nil))))) (pw_or1 (pt_cmpR (op_neD hr.units) (pe_call GO hr1 rfl R.gO R.kO R.bO .nil pass0 (pa_cons (pv 3) pa_nil)) (pe_op op_rep (pe_lst (pa_cons pe_bl pa_nil)) pe_int) (nomark _)))))
          (pss_one (ps_ret pe_bl))
          pss_nil)
        (pss_one (ps_if (PW.pt (pw_or (pt_cmpR (op_neD hr.units) (pe_call GK hr1 rfl R.gK R.kK R.bK .nil pass0 (pa_cons (pv 3) pa_nil)) (pe_lc (own := [("other", 5)]) (g := gName 5) (tt := tYes) (by rfl) scMsg.nd (pi_range1 (by rfl) T.range (pa_cons pe_int pa_nil)) (blkOk_by (own := [("other", 5)]) (N := ["text", "some", "at", "error", "plain", "other"]) (sc := defScope sMsg) (by decide +kernel)) (fun _ _ _ _ _ => (pg_name (i := 5) scMsg.nd rfl (.inl rfl))) (fun _ _ _ _ _ => pts_nil) (fun _ _ _ _ _ => (pe_cmpR op_eq (pv 2) (pv 5) (nomark _)))) (nomark _)) (pw_or1 (pt_cmpR (op_neD hr.units) (pe_call GB hr1 rfl R.gB R.kB R.bB .nil pass0 (pa_cons (pv 3) pa_nil)) (pe_op op_cat (pe_lst (pa_cons pe_bl pa_nil)) (pe_op op_rep (pe_lst (pa_cons pe_bl pa_nil)) pe_int)) (nomark _)))))
          (pss_one (ps_ret pe_bl))
          pss_nil))))
      (pss_cons (ps_set (i := 4) scMsg.nd rfl (.inl rfl) (pe_mk0 PySem.F.excBase_ValueError (T.exc 0 (by decide)) T.g0 (T.kp 0 (by decide)) rfl (pv 0)))
      (pss_one (ps_ret (pe_and (pe_cmpR (op_eqD hr.units) (pe_call GK hr1 rfl R.gK R.kK R.bK .nil pass0 (pa_cons (pv 4) pa_nil)) (pe_op op_rep (pe_lst (pa_cons pe_bl pa_nil)) pe_int) (nomark _)) (pe_one (pe_cmpR (op_eqD hr.units) (pe_call GB hr1 rfl R.gB R.kB R.bB .nil pass0 (pa_cons (pv 4) pa_nil)) (pe_op op_cat (pe_lst (pa_cons pe_bl pa_nil)) (pe_op op_rep (pe_lst (pa_cons pe_bl pa_nil)) pe_int)) (nomark _))))))))))), ?_⟩
    refine ⟨_, rfl, ?_⟩
    intro e1 n1
    obtain ⟨A1, gA1⟩ : ∃ G : Hp, G = upd H e1 (ExV (c 1) e1 none) := ⟨_, rfl⟩
    rw [← gA1]
    have s1 : Same H A1 := by rw [gA1]; exact same_upd n1
    have y1 : A1 e1 = some (ExV (c 1) e1 none) := by rw [gA1]; exact upd_same
    clear gA1
    refine ⟨_, rfl, ?_⟩
    intro e2 n2
    obtain ⟨A2, gA2⟩ : ∃ G : Hp, G = upd A1 e2 (ExV (c 2) e2 none) := ⟨_, rfl⟩
    rw [← gA2]
    have s2 : Same A1 A2 := by rw [gA2]; exact same_upd n2
    have y2 : A2 e2 = some (ExV (c 2) e2 none) := by rw [gA2]; exact upd_same
    clear gA2
    refine ⟨_, rfl, ?_⟩
    intro e3 n3
    obtain ⟨A3, gA3⟩ : ∃ G : Hp, G = upd A2 e3 (ExV (c 3) e3 none) := ⟨_, rfl⟩
    rw [← gA3]
    have s3 : Same A2 A3 := by rw [gA3]; exact same_upd n3
    have y3 : A3 e3 = some (ExV (c 3) e3 none) := by rw [gA3]; exact upd_same
    clear gA3
    refine ⟨_, rfl, ?_⟩
    intro e4 n4
    obtain ⟨A4, gA4⟩ : ∃ G : Hp, G = upd A3 e4 (ExV (c 4) e4 none) := ⟨_, rfl⟩
    rw [← gA4]
    have s4 : Same A3 A4 := by rw [gA4]; exact same_upd n4
    have y4 : A4 e4 = some (ExV (c 4) e4 none) := by rw [gA4]; exact upd_same
    clear gA4
    refine ⟨_, rfl, ?_⟩
    intro e5 n5
    obtain ⟨A5, gA5⟩ : ∃ G : Hp, G = upd A4 e5 (ExV (c 5) e5 none) := ⟨_, rfl⟩
    rw [← gA5]
    have s5 : Same A4 A5 := by rw [gA5]; exact same_upd n5
    have y5 : A5 e5 = some (ExV (c 5) e5 none) := by rw [gA5]; exact upd_same
    clear gA5
    refine ⟨(by show 5 ≤ sizeLine; decide), ?_⟩
    intro p6 n6
    obtain ⟨A6, gA6⟩ : ∃ G : Hp, G = upd A5 p6 (HO.lst [V.ref e1, V.ref e2, V.ref e3, V.ref e4, V.ref e5]) := ⟨_, rfl⟩
    rw [← gA6]
    have s6 : Same A5 A6 := by rw [gA6]; exact same_upd n6
    have z6 : A6 p6 = some (HO.lst [V.ref e1, V.ref e2, V.ref e3, V.ref e4, V.ref e5]) := by rw [gA6]; exact upd_same
    clear gA6
    refine ⟨_, rfl, _, rfl, ?_⟩
    intro e6 n7
    obtain ⟨A7, gA7⟩ : ∃ G : Hp, G = upd A6 e6 (ExV (c 6) e6 none) := ⟨_, rfl⟩
    rw [← gA7]
    have s7 : Same A6 A7 := by rw [gA7]; exact same_upd n7
    have y6 : A7 e6 = some (ExV (c 6) e6 none) := by rw [gA7]; exact upd_same
    clear gA7
    refine ⟨_, rfl, ?_⟩
    intro e7 n8
    obtain ⟨A8, gA8⟩ : ∃ G : Hp, G = upd A7 e7 (ExV (c 7) e7 none) := ⟨_, rfl⟩
    rw [← gA8]
    have s8 : Same A7 A8 := by rw [gA8]; exact same_upd n8
    have y7 : A8 e7 = some (ExV (c 7) e7 none) := by rw [gA8]; exact upd_same
    clear gA8
    refine ⟨_, rfl, ?_⟩
    intro e8 n9
    obtain ⟨A9, gA9⟩ : ∃ G : Hp, G = upd A8 e8 (ExV (c 8) e8 none) := ⟨_, rfl⟩
    rw [← gA9]
    have s9 : Same A8 A9 := by rw [gA9]; exact same_upd n9
    have y8 : A9 e8 = some (ExV (c 8) e8 none) := by rw [gA9]; exact upd_same
    clear gA9
    refine ⟨_, rfl, ?_⟩
    intro e9 n10
    obtain ⟨A10, gA10⟩ : ∃ G : Hp, G = upd A9 e9 (ExV (c 9) e9 none) := ⟨_, rfl⟩
    rw [← gA10]
    have s10 : Same A9 A10 := by rw [gA10]; exact same_upd n10
    have y9 : A10 e9 = some (ExV (c 9) e9 none) := by rw [gA10]; exact upd_same
    clear gA10
    refine ⟨(by show 4 ≤ sizeLine; decide), ?_⟩
    intro p11 n11
    obtain ⟨A11, gA11⟩ : ∃ G : Hp, G = upd A10 p11 (HO.lst [V.ref e6, V.ref e7, V.ref e8, V.ref e9]) := ⟨_, rfl⟩
    rw [← gA11]
    have s11 : Same A10 A11 := by rw [gA11]; exact same_upd n11
    have z11 : A11 p11 = some (HO.lst [V.ref e6, V.ref e7, V.ref e8, V.ref e9]) := by rw [gA11]; exact upd_same
    clear gA11
    refine ⟨_, _, _, _, rfl, rfl, (s11 _ _ (s10 _ _ (s9 _ _ (s8 _ _ (s7 _ _ z6))))), z11, (by show 9 ≤ sizeLine; decide), ?_⟩
    show ∀ p, A11 p = none → _
    intro p12 n12
    obtain ⟨A12, gH⟩ : ∃ G : Hp, G = upd A11 p12 (HO.lst ([V.ref e1, V.ref e2, V.ref e3, V.ref e4, V.ref e5] ++ [V.ref e6, V.ref e7, V.ref e8, V.ref e9])) := ⟨_, rfl⟩
    rw [← gH]
    have s12 : Same A11 A12 := by rw [gH]; exact same_upd n12
    have z12 : A12 p12 = some (HO.lst [V.ref e1, V.ref e2, V.ref e3, V.ref e4, V.ref e5, V.ref e6, V.ref e7, V.ref e8, V.ref e9]) := by rw [gH]; exact upd_same
    clear gH
    refine ⟨_, rfl, _, rfl, ?_⟩
    intro e10 n13
    obtain ⟨A13, gA13⟩ : ∃ G : Hp, G = upd A12 e10 (ExV (c 10) e10 none) := ⟨_, rfl⟩
    rw [← gA13]
    have s13 : Same A12 A13 := by rw [gA13]; exact same_upd n13
    have y10 : A13 e10 = some (ExV (c 10) e10 none) := by rw [gA13]; exact upd_same
    clear gA13
    refine ⟨_, rfl, ?_⟩
    intro e11 n14
    obtain ⟨A14, gA14⟩ : ∃ G : Hp, G = upd A13 e11 (ExV (c 11) e11 none) := ⟨_, rfl⟩
    rw [← gA14]
    have s14 : Same A13 A14 := by rw [gA14]; exact same_upd n14
    have y11 : A14 e11 = some (ExV (c 11) e11 none) := by rw [gA14]; exact upd_same
    clear gA14
    refine ⟨_, rfl, ?_⟩
    intro e12 n15
    obtain ⟨A15, gA15⟩ : ∃ G : Hp, G = upd A14 e12 (ExV (c 12) e12 none) := ⟨_, rfl⟩
    rw [← gA15]
    have s15 : Same A14 A15 := by rw [gA15]; exact same_upd n15
    have y12 : A15 e12 = some (ExV (c 12) e12 none) := by rw [gA15]; exact upd_same
    clear gA15
    refine ⟨(by show 3 ≤ sizeLine; decide), ?_⟩
    intro p16 n16
    obtain ⟨A16, gA16⟩ : ∃ G : Hp, G = upd A15 p16 (HO.lst [V.ref e10, V.ref e11, V.ref e12]) := ⟨_, rfl⟩
    rw [← gA16]
    have s16 : Same A15 A16 := by rw [gA16]; exact same_upd n16
    have z16 : A16 p16 = some (HO.lst [V.ref e10, V.ref e11, V.ref e12]) := by rw [gA16]; exact upd_same
    clear gA16
    refine ⟨_, _, _, _, rfl, rfl, (s16 _ _ (s15 _ _ (s14 _ _ (s13 _ _ z12)))), z16, (by show 12 ≤ sizeLine; decide), ?_⟩
    show ∀ p, A16 p = none → _
    intro p17 n17
    obtain ⟨A17, gH⟩ : ∃ G : Hp, G = upd A16 p17 (HO.lst ([V.ref e1, V.ref e2, V.ref e3, V.ref e4, V.ref e5, V.ref e6, V.ref e7, V.ref e8, V.ref e9] ++ [V.ref e10, V.ref e11, V.ref e12])) := ⟨_, rfl⟩
    rw [← gH]
    have s17 : Same A16 A17 := by rw [gH]; exact same_upd n17
    have z17 : A17 p17 = some (HO.lst [V.ref e1, V.ref e2, V.ref e3, V.ref e4, V.ref e5, V.ref e6, V.ref e7, V.ref e8, V.ref e9, V.ref e10, V.ref e11, V.ref e12]) := by rw [gH]; exact upd_same
    clear gH
    have S0 : Same H A17 := ((((((((((((((((s1.trans s2).trans s3).trans s4).trans s5).trans s6).trans s7).trans s8).trans s9).trans s10).trans s11).trans s12).trans s13).trans s14).trans s15).trans s16).trans s17)
    have all : ∀ i, i < 12 → ∃ e, ([V.ref e1, V.ref e2, V.ref e3, V.ref e4, V.ref e5, V.ref e6, V.ref e7, V.ref e8, V.ref e9, V.ref e10, V.ref e11, V.ref e12] : List V)[i]? = some (.ref e) ∧ IsX A17 e (c (i + 1)) [] := by
      intro i hi
      match i, hi with
      | 0, _ => exact ⟨e1, rfl, IsX.same (.inl ⟨y1, rfl⟩) (((((((((((((((s2.trans s3).trans s4).trans s5).trans s6).trans s7).trans s8).trans s9).trans s10).trans s11).trans s12).trans s13).trans s14).trans s15).trans s16).trans s17)⟩
      | 1, _ => exact ⟨e2, rfl, IsX.same (.inl ⟨y2, rfl⟩) ((((((((((((((s3.trans s4).trans s5).trans s6).trans s7).trans s8).trans s9).trans s10).trans s11).trans s12).trans s13).trans s14).trans s15).trans s16).trans s17)⟩
      | 2, _ => exact ⟨e3, rfl, IsX.same (.inl ⟨y3, rfl⟩) (((((((((((((s4.trans s5).trans s6).trans s7).trans s8).trans s9).trans s10).trans s11).trans s12).trans s13).trans s14).trans s15).trans s16).trans s17)⟩
      | 3, _ => exact ⟨e4, rfl, IsX.same (.inl ⟨y4, rfl⟩) ((((((((((((s5.trans s6).trans s7).trans s8).trans s9).trans s10).trans s11).trans s12).trans s13).trans s14).trans s15).trans s16).trans s17)⟩
      | 4, _ => exact ⟨e5, rfl, IsX.same (.inl ⟨y5, rfl⟩) (((((((((((s6.trans s7).trans s8).trans s9).trans s10).trans s11).trans s12).trans s13).trans s14).trans s15).trans s16).trans s17)⟩
      | 5, _ => exact ⟨e6, rfl, IsX.same (.inl ⟨y6, rfl⟩) (((((((((s8.trans s9).trans s10).trans s11).trans s12).trans s13).trans s14).trans s15).trans s16).trans s17)⟩
      | 6, _ => exact ⟨e7, rfl, IsX.same (.inl ⟨y7, rfl⟩) ((((((((s9.trans s10).trans s11).trans s12).trans s13).trans s14).trans s15).trans s16).trans s17)⟩
      | 7, _ => exact ⟨e8, rfl, IsX.same (.inl ⟨y8, rfl⟩) (((((((s10.trans s11).trans s12).trans s13).trans s14).trans s15).trans s16).trans s17)⟩
      | 8, _ => exact ⟨e9, rfl, IsX.same (.inl ⟨y9, rfl⟩) ((((((s11.trans s12).trans s13).trans s14).trans s15).trans s16).trans s17)⟩
      | 9, _ => exact ⟨e10, rfl, IsX.same (.inl ⟨y10, rfl⟩) (((s14.trans s15).trans s16).trans s17)⟩
      | 10, _ => exact ⟨e11, rfl, IsX.same (.inl ⟨y11, rfl⟩) ((s15.trans s16).trans s17)⟩
      | 11, _ => exact ⟨e12, rfl, IsX.same (.inl ⟨y12, rfl⟩) (s16.trans s17)⟩
      | k + 12, hk => exact absurd hk (by omega)
    clear y1 y2 y3 y4 y5 y6 y7 y8 y9 y10 y11 y12
    refine ⟨_, rfl, p17, [V.ref e1, V.ref e2, V.ref e3, V.ref e4, V.ref e5, V.ref e6, V.ref e7, V.ref e8, V.ref e9, V.ref e10, V.ref e11, V.ref e12], rfl, SqL.of z17, for_it walk_enum (fun i σ H' => ∃ v2 v3, σ = [some x, some (.ref p17), v2, v3, none, none] ∧ Same A17 H')
      ⟨none, none, rfl, Same.refl _⟩ (fun i σ H' _ ⟨_, _, _, s5⟩ => s5.seq (SqL.of z17)) ?turn ?rest⟩
    case turn =>
      rintro i v σ B B' hi ⟨v2, v3, rfl, s5⟩ ⟨U, a, b, rfl, nU, rfl, ea, eb⟩
      have hi : i < 12 := hi
      obtain ⟨e, he, hx⟩ := all i hi
      have ee := eb.symm.trans he
      cases ee
      cases ea
      refine ⟨U, _, rfl, SqT.of upd_same, rfl, _, _, rfl, _, _, rfl, rfl, ?_⟩
      have s6 : Same A17 (upd B U (.tup [.int i, .ref e])) := s5.trans (same_upd nU)
      obtain ⟨B1, gB⟩ : ∃ G : Hp, G = upd B U (.tup [.int i, .ref e]) := ⟨_, rfl⟩
      rw [← gB] at s6 ⊢
      clear gB
      have hx1 := IsX.same hx s6
      -- if not isinstance(error, PlanError) or _law_others(error) != [False] * 6
      refine ⟨_, rfl, e, c (i + 1), [], _, _, true, rfl, hx1, T.has (i + 1) (by omega), .own _, (T.tab (i + 1) 0 (by omega) (by decide)).trans (congrArg some (tbl_plan i hi)), _, rfl, iteF ?_⟩
      refine ⟨_, rfl, e, i + 1, [], rfl, by omega, hx1, fun p1 B2 t1 m1 f1 => ?_⟩
      rw [tbl_others i hi] at f1
      refine ⟨(by show 1 ≤ sizeLine; decide), ?_⟩

      intro p2 m2
      obtain ⟨B3, gB3⟩ : ∃ G : Hp, G = upd B2 p2 (HO.lst [V.bl false]) := ⟨_, rfl⟩
      rw [← gB3]
      have t2 : Same B2 B3 := by rw [gB3]; exact same_upd m2
      have f2 : B3 p2 = some (HO.lst [V.bl false]) := by rw [gB3]; exact upd_same
      clear gB3
      refine ⟨_, _, _, rfl, rfl, f2, (by decide), (by decide), (by show 1 * 6 ≤ sizeLine; decide), ?_⟩
      intro p3 m3
      obtain ⟨B4, g4⟩ : ∃ G : Hp, G = upd B3 p3 (HO.lst (bls (List.replicate 6 false))) := ⟨_, rfl⟩
      have t3 : Same B3 B4 := by rw [g4]; exact same_upd m3
      have f3 : B4 p3 = some (HO.lst (bls (List.replicate 6 false))) := by rw [g4]; exact upd_same
      have e4 : upd B3 p3 (HO.lst (List.replicate (Int.toNat 6) [V.bl false]).flatten) = B4 := g4.symm
      rw [e4]
      clear g4 e4
      refine ⟨_, _, dp_bls (t3 _ _ (t2 _ _ f1)), dp_bls f3, shaped_b6, shaped_b6, _, rfl, iteN (by rw [eqvR shaped_b6]; rfl) ?_⟩
      -- if _law_kinds(error) != [at == other ..] or _law_bases(error) != [True] + [False] * 6
      have s7 : Same B1 B4 := t1.trans (t2.trans t3)
      have hx4 := IsX.same hx1 s7
      refine ⟨_, rfl, e, i + 1, [], rfl, by omega, hx4, fun p4 B5 t4 m4 f4 => ?_⟩
      rw [tbl_kinds i hi] at f4
      refine ⟨12, rfl, by decide, by decide, fun D nD => lc_range (lo := 0) (n := 12) (fun k B => Same B5 B ∧ B D = some (.lst (bls ((List.range k).map fun o => decide (i = o))))) ⟨same_upd nD, upd_same⟩ ?step ?fin⟩
      case step =>
        rintro o B ho ⟨sB, hD⟩
        refine ⟨rfl, yes ?_⟩
        refine ⟨_, rfl, _, rfl, rfl, _, hD, ?_, ?_, ?_⟩
        · show ((List.map V.bl (List.map (fun o => decide (i = o)) (List.range o))).length) < sizeLine
          rw [List.length_map, List.length_map, List.length_range]
          exact Nat.lt_trans ho (by decide)
        · intro b u q
          rw [upd_ne (ne_of_none q nD)]
          exact sB b u q
        · rw [upd_same]
          have e1 : decide (V.int (i : Int) = V.int (0 + (o : Int))) = decide (i = o) := by
            rw [Bool.eq_iff_iff]
            simp
            omega
          show some (HO.lst (bls ((List.range o).map fun o => decide (i = o)) ++ [V.bl (decide (V.int (i : Int) = V.int (0 + (o : Int))))])) = _
          rw [e1, List.range_succ, List.map_append]
          simp [bls]
      case fin =>
        rintro B ⟨sB, hD⟩
        refine ⟨_, _, dp_bls (sB _ _ f4), dp_bls hD, shaped_bk i hi, shaped_bk i hi, _, rfl, iteN (by rw [eqvR (shaped_bk i hi)]; rfl) ?_⟩
        have s8 : Same B4 B := t4.trans sB
        have hx5 := IsX.same hx4 s8
        refine ⟨_, rfl, e, i + 1, [], rfl, by omega, hx5, fun p5 B6 t5 m5 f5 => ?_⟩
        rw [tbl_bases (i + 1) (by omega)] at f5
        refine ⟨(by show 1 ≤ sizeLine; decide), ?_⟩
        -- [True] + [False] * 6
        intro q1 r1
        obtain ⟨D1, gD⟩ : ∃ G : Hp, G = upd B6 q1 (HO.lst [V.bl true]) := ⟨_, rfl⟩
        rw [← gD]
        have u1 : Same B6 D1 := by rw [gD]; exact same_upd r1
        have w1 : D1 q1 = some (HO.lst [V.bl true]) := by rw [gD]; exact upd_same
        clear gD
        refine ⟨(by show 1 ≤ sizeLine; decide), ?_⟩
        intro q2 r2
        obtain ⟨D2, gD⟩ : ∃ G : Hp, G = upd D1 q2 (HO.lst [V.bl false]) := ⟨_, rfl⟩
        rw [← gD]
        have u2 : Same D1 D2 := by rw [gD]; exact same_upd r2
        have w2 : D2 q2 = some (HO.lst [V.bl false]) := by rw [gD]; exact upd_same
        clear gD
        refine ⟨_, _, _, rfl, rfl, w2, (by decide), (by decide), (by show 1 * 6 ≤ sizeLine; decide), ?_⟩
        intro q3 r3
        obtain ⟨D3, gD⟩ : ∃ G : Hp, G = upd D2 q3 (HO.lst (bls (List.replicate 6 false))) := ⟨_, rfl⟩
        have u3 : Same D2 D3 := by rw [gD]; exact same_upd r3
        have w3 : D3 q3 = some (HO.lst (bls (List.replicate 6 false))) := by rw [gD]; exact upd_same
        have eD : upd D2 q3 (HO.lst (List.replicate (Int.toNat 6) [V.bl false]).flatten) = D3 := gD.symm
        rw [eD]
        clear gD eD
        refine ⟨_, _, _, _, rfl, rfl, u3 _ _ (u2 _ _ w1), w3, (by show 7 ≤ sizeLine; decide), ?_⟩
        intro q4 r4
        obtain ⟨D4, gD⟩ : ∃ G : Hp, G = upd D3 q4 (HO.lst (bls (true :: List.replicate 6 false))) := ⟨_, rfl⟩
        have u4 : Same D3 D4 := by rw [gD]; exact same_upd r4
        have f9 : D4 q4 = some (HO.lst (bls (true :: List.replicate 6 false))) := by rw [gD]; exact upd_same
        have eD : upd D3 q4 (HO.lst ([V.bl true] ++ bls (List.replicate 6 false))) = D4 := gD.symm
        rw [eD]
        clear gD eD
        have S9 : Same B6 D4 := u1.trans (u2.trans (u3.trans u4))
        refine ⟨_, _, dp_bls (S9 _ _ f5), dp_bls f9, shaped_b7, shaped_b7, _, rfl, iteN (by rw [eqvR shaped_b7]; rfl) ?_⟩
        exact ⟨_, _, rfl, s6.trans (s7.trans (s8.trans (t5.trans S9)))⟩
    case rest =>
      rintro σ B ⟨v2, v3, rfl, s5⟩
      refine ⟨_, rfl, ?_⟩
      intro e0 n0
      obtain ⟨B1, gB⟩ : ∃ G : Hp, G = upd B e0 (ExV (c 0) e0 none) := ⟨_, rfl⟩
      rw [← gB]
      have s6 : Same B B1 := by rw [gB]; exact same_upd n0
      have hx : IsX B1 e0 (c 0) [] := .inl ⟨by rw [gB]; exact upd_same, rfl⟩
      clear gB
      refine ⟨_, rfl, e0, 0, [], rfl, by decide, hx, fun p1 B2 t1 m1 f1 => ?_⟩
      rw [tbl_kinds0] at f1
      refine ⟨(by show 1 ≤ sizeLine; decide), ?_⟩
      intro p2 m2
      obtain ⟨B3, g3⟩ : ∃ G : Hp, G = upd B2 p2 (HO.lst [V.bl false]) := ⟨_, rfl⟩
      rw [← g3]
      have t2 : Same B2 B3 := by rw [g3]; exact same_upd m2
      have f2 : B3 p2 = some (HO.lst [V.bl false]) := by rw [g3]; exact upd_same
      clear g3
      refine ⟨_, _, _, rfl, rfl, f2, (by decide), (by decide), (by show 1 * 12 ≤ sizeLine; decide), ?_⟩
      intro p3 m3
      obtain ⟨B4, g4⟩ : ∃ G : Hp, G = upd B3 p3 (HO.lst (bls (List.replicate 12 false))) := ⟨_, rfl⟩
      have t3 : Same B3 B4 := by rw [g4]; exact same_upd m3
      have f3 : B4 p3 = some (HO.lst (bls (List.replicate 12 false))) := by rw [g4]; exact upd_same
      have e4 : upd B3 p3 (HO.lst (List.replicate (Int.toNat 12) [V.bl false]).flatten) = B4 := g4.symm
      rw [e4]
      clear g4 e4
      refine ⟨_, _, dp_bls (t3 _ _ (t2 _ _ f1)), dp_bls f3, shaped_b12, shaped_b12, _, rfl, iteY (eqvR shaped_b12) ?_⟩
      have s8 : Same B1 B4 := t1.trans (t2.trans t3)
      refine ⟨_, rfl, e0, 0, [], rfl, by decide, IsX.same hx s8, fun p5 B6 t5 m5 f5 => ?_⟩
      rw [tbl_bases 0 (by decide)] at f5
      refine ⟨(by show 1 ≤ sizeLine; decide), ?_⟩
      -- [True] + [False] * 6
      intro q1 r1
      obtain ⟨D1, gD⟩ : ∃ G : Hp, G = upd B6 q1 (HO.lst [V.bl true]) := ⟨_, rfl⟩
      rw [← gD]
      have u1 : Same B6 D1 := by rw [gD]; exact same_upd r1
      have w1 : D1 q1 = some (HO.lst [V.bl true]) := by rw [gD]; exact upd_same
      clear gD
      refine ⟨(by show 1 ≤ sizeLine; decide), ?_⟩
      intro q2 r2
      obtain ⟨D2, gD⟩ : ∃ G : Hp, G = upd D1 q2 (HO.lst [V.bl false]) := ⟨_, rfl⟩
      rw [← gD]
      have u2 : Same D1 D2 := by rw [gD]; exact same_upd r2
      have w2 : D2 q2 = some (HO.lst [V.bl false]) := by rw [gD]; exact upd_same
      clear gD
      refine ⟨_, _, _, rfl, rfl, w2, (by decide), (by decide), (by show 1 * 6 ≤ sizeLine; decide), ?_⟩
      intro q3 r3
      obtain ⟨D3, gD⟩ : ∃ G : Hp, G = upd D2 q3 (HO.lst (bls (List.replicate 6 false))) := ⟨_, rfl⟩
      have u3 : Same D2 D3 := by rw [gD]; exact same_upd r3
      have w3 : D3 q3 = some (HO.lst (bls (List.replicate 6 false))) := by rw [gD]; exact upd_same
      have eD : upd D2 q3 (HO.lst (List.replicate (Int.toNat 6) [V.bl false]).flatten) = D3 := gD.symm
      rw [eD]
      clear gD eD
      refine ⟨_, _, _, _, rfl, rfl, u3 _ _ (u2 _ _ w1), w3, (by show 7 ≤ sizeLine; decide), ?_⟩
      intro q4 r4
      obtain ⟨D4, gD⟩ : ∃ G : Hp, G = upd D3 q4 (HO.lst (bls (true :: List.replicate 6 false))) := ⟨_, rfl⟩
      have u4 : Same D3 D4 := by rw [gD]; exact same_upd r4
      have f9 : D4 q4 = some (HO.lst (bls (true :: List.replicate 6 false))) := by rw [gD]; exact upd_same
      have eD : upd D3 q4 (HO.lst ([V.bl true] ++ bls (List.replicate 6 false))) = D4 := gD.symm
      rw [eD]
      clear gD eD
      have S9 : Same B6 D4 := u1.trans (u2.trans (u3.trans u4))
      refine ⟨_, _, dp_bls (S9 _ _ f5), dp_bls f9, shaped_b7, shaped_b7, ?_⟩
      rw [eqvR shaped_b7]
      exact k _ (S0.trans (s5.trans (s6.trans (s8.trans (t5.trans S9)))))
end
end K00


set_option Elab.async false
set_option linter.all false
set_option maxRecDepth 100000
set_option maxHeartbeats 4000000
namespace K00
open PySem PySem.Spec PyProof.Rows L2 LW LX
abbrev sVal : Stmt := top 28
structure XMks (P : Program) (w : World) (K : PySem.W.Frag) (c : Nat → Addr) : Prop where
  m13 : XMk P w K "value" (c 13)
  o13 : PySem.W.findIn K (.ref (c 13)) "value" = some none
  m14 : XMk P w K "name" (c 14)
  o14 : PySem.W.findIn K (.ref (c 14)) "name" = some none
  m15 : XMk P w K "limit" (c 15)
  o15 : PySem.W.findIn K (.ref (c 15)) "limit" = some none
  m16 : XMk P w K "paper" (c 16)
  o16 : PySem.W.findIn K (.ref (c 16)) "paper" = some none
  m17 : XMk P w K "paper" (c 17)
  o17 : PySem.W.findIn K (.ref (c 17)) "paper" = some none
  m18 : XMk P w K "many" (c 18)
  o18 : PySem.W.findIn K (.ref (c 18)) "many" = some none
def dueRow : Nat → List Bool
  | 0 => [false, true, false, false, false, false, true]
  | 1 => [false, false, true, false, false, false, true]
  | 2 => [false, false, false, true, true, false, false]
  | 3 => [false, false, false, false, true, false, false]
  | 4 => [false, false, false, false, false, true, false]
  | _ => List.replicate 6 false ++ [true]
theorem tbx_plan : ∀ i, i < 6 → tbl (i + 13) 0 = false := by decide
theorem tbx_others : ∀ i, i < 6 → jsO.map (tbl (i + 13)) = (List.range 6).map (fun o => decide (i = o)) := by decide
theorem tbx_kinds : ∀ i, i < 6 → jsK.map (tbl (i + 13)) = List.replicate 12 false := by decide
theorem tbx_bases : ∀ i, i < 6 → jsB.map (tbl (i + 13)) = dueRow i := by decide
theorem shaped_o6 : ∀ i, i < 6 → SeqAt.shaped (.list (((List.range 6).map (fun o => decide (i = o))).map PyData.bool)) = true := by decide
theorem shaped_due : ∀ i, i < 6 → SeqAt.shaped (.list ((dueRow i).map PyData.bool)) = true := by decide
mutual
theorem DpX.same {K : PySem.W.Frag} {H H' : Hp} (s : Same H H') : ∀ {v : V} {d : PyData}, DpX K H v d → DpX K H' v d
  | _, _, .non => .non
  | _, _, .bl b => .bl b
  | _, _, .int i => .int i
  | _, _, .str x => .str x
  | _, _, .lst n h t => .lst n (s.seq h) (DpXAll.same s t)
  | _, _, .tup h t => .tup (by
      rcases h with (h | ⟨o, h⟩) | h
      · exact .inl (.inl (s _ _ h))
      · exact .inl (.inr ⟨o, s _ _ h⟩)
      · exact .inr h) (DpXAll.same s t)
  | _, _, .dK h t => .dK (s _ _ h) (DpXAll.same s t)
  | _, _, .dT h t => .dT (s _ _ h) (DpXAll.same s t)
theorem DpXAll.same {K : PySem.W.Frag} {H H' : Hp} (s : Same H H') : ∀ {vs : List V} {ds : List PyData}, DpXAll K H vs ds → DpXAll K H' vs ds
  | _, _, .nil => .nil
  | _, _, .cons h t => .cons (DpX.same s h) (DpXAll.same s t)
end
theorem isX_upd {H : Hp} {a C p : Addr} {fs : List (Str × V)} {xs : List V} {o : HO} (h : IsX H a C fs) (hp : H p = some (.lst xs)) : IsX (upd H p o) a C fs := by
  have ne : ∀ {b : Addr} {u : HO}, H b = some u → (∀ ys, u ≠ .lst ys) → b ≠ p := by
    rintro b u e n rfl
    rw [hp] at e
    exact n xs (Option.some.inj e).symm
  rcases h with ⟨h, e⟩ | ⟨d, h, hd⟩
  · exact .inl ⟨(upd_ne (ne h fun ys z => by unfold ExV at z; cases z)).trans h, e⟩
  · exact .inr ⟨d, (upd_ne (ne h fun ys z => by unfold ExV at z; cases z)).trans h, (upd_ne (ne hd fun ys z => by cases z)).trans hd⟩
theorem same_upd2 {H A : Hp} {p : Addr} {o : HO} (s : Same H A) (n : H p = none) : Same H (upd A p o) := fun b u e => by
  rw [upd_ne (ne_of_none e n)]
  exact s b u e
theorem lk1 {f : Str} {v : V} : List.lookup f [(f, v)] = some v := by simp [List.lookup]
def goodData (d : PyData) : Prop := d.showable = true ∧ d.depth ≤ 60 ∧ d.shown.length ≤ sizeLine
/-- all holds, for any values of which the list can be shown -/
def spVal (K : PySem.W.Frag) : Sp := fun vs H Q _ => ∃ (v p t : V) (n : Int) (dv dp dt : PyData), vs = [v, .int n, p, t] ∧ DpX K H v dv ∧ DpX K H p dp ∧ DpX K H t dt ∧ goodData (.list [dv, dv, .int n, dp, dt, .int n]) ∧
  ∀ H', Same H H' → Q (.bl true) H'
section
variable {P : Program} {w : World} {K : PySem.W.Frag} {mg : Str → Option Value} {base : Heap} {c : Nat → Addr}
theorem scVal : FnScope ["value", "number", "paper", "table", "some", "due", "at", "error", "kept", "other"] ["value", "number", "paper", "table"] (defScope sVal) := ⟨rfl, rfl, rfl, by decide +kernel, rfl, by decide +kernel, by decide +kernel⟩
theorem ok_val {f fK fO fB : Addr} {fd fdK fdO fdB : FuncData} (F : Fun K "_law_values_right" "_law_values_right" sVal f fd) (T : TxtX K mg c) (M : XMks P w K c) (R : TxtR K mg fK fO fB fdK fdO fdB)
    (GK : FnOk P w K mg base CX0 1 fK fdK ["error"] (spRow c jsK)) (GO : FnOk P w K mg base CX0 1 fO fdO ["error"] (spRow c jsO)) (GB : FnOk P w K mg base CX0 1 fB fdB ["error"] (spRow c jsB)) :
    FnG P w K mg base CX0 3 f fd ["value", "number", "paper", "table"] (spVal K) := by
  refine okG F scVal (fun vs H Q E h => ?_) (fun cdv A outer s H vs Q E hgd hr h => ?_)
  · obtain ⟨v, p, t, n, _, _, _, rfl, _⟩ := h
    rfl
  · obtain ⟨v, p, t, n, dv, dp, dt, rfl, hdv, hdp, hdt, good, k⟩ := h
    have hr1 := hr.mono (show 1 ≤ 2 by decide)
    refine ⟨_, (pss_cons (ps_set (i := 4) scVal.nd rfl (.inl rfl) (pe_lst (pa_cons (pe_mkX M.m13 T.g13 (T.kp 13 (by decide)) hr1 (pv 0) rfl) (pa_cons (pe_mkX M.m14 T.g14 (T.kp 14 (by decide)) hr1 (pv 0) rfl) (pa_cons (pe_mkX M.m15 T.g15 (T.kp 15 (by decide)) hr1 (pv 1) rfl) (pa_cons (pe_mkX M.m16 T.g16 (T.kp 16 (by decide)) hr1 (pv 2) rfl) (pa_cons (pe_mkX M.m17 T.g17 (T.kp 17 (by decide)) hr1 (pv 3) rfl) pa_nil)))))))
      (pss_cons (ps_expr (pe_bm PySem.F.plainAttrs_list PySem.F.slot_list_append PySem.F.type_list_append mt_append (pv 4) (pa_cons (pe_mkX M.m18 T.g18 (T.kp 18 (by decide)) hr1 (pv 1) rfl) pa_nil)))
      (pss_cons (ps_set (i := 5) scVal.nd rfl (.inl rfl) (pe_lst (pa_cons (pe_lst (pa_cons pe_bl (pa_cons pe_bl (pa_cons pe_bl (pa_cons pe_bl (pa_cons pe_bl (pa_cons pe_bl (pa_cons pe_bl pa_nil)))))))) (pa_cons (pe_lst (pa_cons pe_bl (pa_cons pe_bl (pa_cons pe_bl (pa_cons pe_bl (pa_cons pe_bl (pa_cons pe_bl (pa_cons pe_bl pa_nil)))))))) pa_nil))))
      (pss_cons (ps_set (i := 5) scVal.nd rfl (.inl rfl) (pe_op op_cat (pv 5) (pe_lst (pa_cons (pe_lst (pa_cons pe_bl (pa_cons pe_bl (pa_cons pe_bl (pa_cons pe_bl (pa_cons pe_bl (pa_cons pe_bl (pa_cons pe_bl pa_nil)))))))) (pa_cons (pe_lst (pa_cons pe_bl (pa_cons pe_bl (pa_cons pe_bl (pa_cons pe_bl (pa_cons pe_bl (pa_cons pe_bl (pa_cons pe_bl pa_nil)))))))) pa_nil)))))
      (pss_cons (ps_set (i := 5) scVal.nd rfl (.inl rfl) (pe_op op_cat (pv 5) (pe_lst (pa_cons (pe_lst (pa_cons pe_bl (pa_cons pe_bl (pa_cons pe_bl (pa_cons pe_bl (pa_cons pe_bl (pa_cons pe_bl (pa_cons pe_bl pa_nil)))))))) (pa_cons (pe_op op_cat (pe_op op_rep (pe_lst (pa_cons pe_bl pa_nil)) pe_int) (pe_lst (pa_cons pe_bl pa_nil))) pa_nil)))))
      (pss_cons (ps_for PassesOwn.never rfl (pi_enum (by rfl) T.enumerate (pa_cons (pv 4) pa_nil)) (pg_tup rfl (pgs_cons (pg_name (i := 6) scVal.nd rfl (.inr rfl)) (pgs_cons (pg_name (i := 7) scVal.nd rfl (.inl rfl)) pgs_nil)))
        (pss_cons (ps_if (PW.pt (pw_or (pt_val (pe_callB (call_isX T.com) (by rfl) T.isinstance (by decide +kernel) (pa_cons (pv 7) (pa_cons (pe_glob (v := .ref (c 0)) rfl T.g0 rfl) pa_nil)))) (pw_or1 (pt_cmpR (op_neD hr.units) (pe_call GO hr1 rfl R.gO R.kO R.bO .nil pass0 (pa_cons (pv 7) pa_nil)) (pe_lc (own := [("other", 9)]) (g := gName 9) (tt := tYes) (by rfl) scVal.nd (pi_range1 (by rfl) T.range (pa_cons pe_int pa_nil)) (blkOk_by (own := [("other", 9)]) (N := ["value", "number", "paper", "table", "some", "due", "at", "error", "kept", "other"]) (sc := defScope sVal) (by decide +kernel)) (fun _ _ _ _ _ => (pg_name (i := 9) scVal.nd rfl (.inl rfl))) (fun _ _ _ _ _ => pts_nil) (fun _ _ _ _ _ => (pe_cmpR op_eq (pv 6) (pv 9) (nomark _)))) (nomark _)))))
          (pss_one (ps_ret pe_bl))
          pss_nil)
        (pss_one (ps_if (PW.pt (pw_or (pt_cmpR (op_neD hr.units) (pe_call GK hr1 rfl R.gK R.kK R.bK .nil pass0 (pa_cons (pv 7) pa_nil)) (pe_op op_rep (pe_lst (pa_cons pe_bl pa_nil)) pe_int) (nomark _)) (pw_or1 (pt_cmpR (op_neD hr.units) (pe_call GB hr1 rfl R.gB R.kB R.bB .nil pass0 (pa_cons (pv 7) pa_nil)) (pe_ix ix_list (pv 5) (pv 6) (fun _ _ => rfl)) (nomark _)))))
          (pss_one (ps_ret pe_bl))
          pss_nil))))
      (pss_cons (ps_set (i := 8) scVal.nd rfl (.inl rfl) (pe_lstN (pa_cons (pe_xv (pe_ix ix_list (pv 4) pe_int (fun _ _ => rfl))) (pa_cons (pe_xv (pe_ix ix_list (pv 4) pe_int (fun _ _ => rfl))) (pa_cons (pe_xv (pe_ix ix_list (pv 4) pe_int (fun _ _ => rfl))) (pa_cons (pe_xv (pe_ix ix_list (pv 4) pe_int (fun _ _ => rfl))) (pa_cons (pe_xv (pe_ix ix_list (pv 4) pe_int (fun _ _ => rfl))) (pa_cons (pe_xv (pe_ix ix_list (pv 4) pe_int (fun _ _ => rfl))) pa_nil))))))))
      (pss_one (ps_ret (pe_cmpR op_eq (pe_callB (call_reprX hgd hr.units) (by rfl) T.repr (by decide +kernel) (pa_cons (pv 8) pa_nil)) (pe_callB (call_reprX hgd hr.units) (by rfl) T.repr (by decide +kernel) (pa_cons (pe_lstN (pa_cons (pv 0) (pa_cons (pv 0) (pa_cons (pv 1) (pa_cons (pv 2) (pa_cons (pv 3) (pa_cons (pv 1) pa_nil))))))) pa_nil)) (nomark _))))))))))), ?_⟩
    refine ⟨_, rfl, ?_⟩
    intro e0 d0 ne0 nd0 nn0
    obtain ⟨A1, gH⟩ : ∃ G : Hp, G = upd (upd H d0 (.xd [("value", v)])) e0 (ExV (c 13) e0 (some d0)) := ⟨_, rfl⟩
    rw [← gH]
    have s1 : Same H A1 := by rw [gH]; exact (same_upd nd0).trans (same_upd ((upd_ne nn0.symm).trans ne0))
    have x0 : IsX A1 e0 (c 13) [("value", v)] := by rw [gH]; exact .inr ⟨d0, upd_same, (upd_ne nn0).trans upd_same⟩
    clear gH
    refine ⟨_, rfl, ?_⟩
    intro e1 d1 ne1 nd1 nn1
    obtain ⟨A2, gH⟩ : ∃ G : Hp, G = upd (upd A1 d1 (.xd [("name", v)])) e1 (ExV (c 14) e1 (some d1)) := ⟨_, rfl⟩
    rw [← gH]
    have s2 : Same A1 A2 := by rw [gH]; exact (same_upd nd1).trans (same_upd ((upd_ne nn1.symm).trans ne1))
    have x1 : IsX A2 e1 (c 14) [("name", v)] := by rw [gH]; exact .inr ⟨d1, upd_same, (upd_ne nn1).trans upd_same⟩
    clear gH
    refine ⟨_, rfl, ?_⟩
    intro e2 d2 ne2 nd2 nn2
    obtain ⟨A3, gH⟩ : ∃ G : Hp, G = upd (upd A2 d2 (.xd [("limit", V.int n)])) e2 (ExV (c 15) e2 (some d2)) := ⟨_, rfl⟩
    rw [← gH]
    have s3 : Same A2 A3 := by rw [gH]; exact (same_upd nd2).trans (same_upd ((upd_ne nn2.symm).trans ne2))
    have x2 : IsX A3 e2 (c 15) [("limit", V.int n)] := by rw [gH]; exact .inr ⟨d2, upd_same, (upd_ne nn2).trans upd_same⟩
    clear gH
    refine ⟨_, rfl, ?_⟩
    intro e3 d3 ne3 nd3 nn3
    obtain ⟨A4, gH⟩ : ∃ G : Hp, G = upd (upd A3 d3 (.xd [("paper", p)])) e3 (ExV (c 16) e3 (some d3)) := ⟨_, rfl⟩
    rw [← gH]
    have s4 : Same A3 A4 := by rw [gH]; exact (same_upd nd3).trans (same_upd ((upd_ne nn3.symm).trans ne3))
    have x3 : IsX A4 e3 (c 16) [("paper", p)] := by rw [gH]; exact .inr ⟨d3, upd_same, (upd_ne nn3).trans upd_same⟩
    clear gH
    refine ⟨_, rfl, ?_⟩
    intro e4 d4 ne4 nd4 nn4
    obtain ⟨A5, gH⟩ : ∃ G : Hp, G = upd (upd A4 d4 (.xd [("paper", t)])) e4 (ExV (c 17) e4 (some d4)) := ⟨_, rfl⟩
    rw [← gH]
    have s5 : Same A4 A5 := by rw [gH]; exact (same_upd nd4).trans (same_upd ((upd_ne nn4.symm).trans ne4))
    have x4 : IsX A5 e4 (c 17) [("paper", t)] := by rw [gH]; exact .inr ⟨d4, upd_same, (upd_ne nn4).trans upd_same⟩
    clear gH
    refine ⟨(by show 5 ≤ sizeLine; decide), ?_⟩
    intro ps ns
    obtain ⟨A6, gA6⟩ : ∃ G : Hp, G = upd A5 ps (HO.lst [V.ref e0, V.ref e1, V.ref e2, V.ref e3, V.ref e4]) := ⟨_, rfl⟩
    rw [← gA6]
    have s6 : Same A5 A6 := by rw [gA6]; exact same_upd ns
    have zs5 : A6 ps = some (HO.lst [V.ref e0, V.ref e1, V.ref e2, V.ref e3, V.ref e4]) := by rw [gA6]; exact upd_same
    clear gA6
    refine ⟨_, rfl, .inl ⟨rfl, _, SqL.of zs5⟩, _, rfl, ?_⟩
    intro e5 d5 ne5 nd5 nn5
    obtain ⟨A7, gH⟩ : ∃ G : Hp, G = upd (upd A6 d5 (.xd [("many", V.int n)])) e5 (ExV (c 18) e5 (some d5)) := ⟨_, rfl⟩
    rw [← gH]
    have s7 : Same A6 A7 := by rw [gH]; exact (same_upd nd5).trans (same_upd ((upd_ne nn5.symm).trans ne5))
    have x5 : IsX A7 e5 (c 18) [("many", V.int n)] := by rw [gH]; exact .inr ⟨d5, upd_same, (upd_ne nn5).trans upd_same⟩
    clear gH
    refine ⟨ps, _, _, rfl, rfl, s7 _ _ zs5, (by show 5 < sizeLine; decide), ?_⟩
    have S1 : Same H A7 := ((((((s1.trans s2).trans s3).trans s4).trans s5).trans s6).trans s7)
    have nps : H ps = none := (((((s1.trans s2).trans s3).trans s4).trans s5)).free ns
    have w0 := isX_upd (o := HO.lst [V.ref e0, V.ref e1, V.ref e2, V.ref e3, V.ref e4, V.ref e5]) (IsX.same x0 (((((s2.trans s3).trans s4).trans s5).trans s6).trans s7)) (s7 _ _ zs5)
    have w1 := isX_upd (o := HO.lst [V.ref e0, V.ref e1, V.ref e2, V.ref e3, V.ref e4, V.ref e5]) (IsX.same x1 ((((s3.trans s4).trans s5).trans s6).trans s7)) (s7 _ _ zs5)
    have w2 := isX_upd (o := HO.lst [V.ref e0, V.ref e1, V.ref e2, V.ref e3, V.ref e4, V.ref e5]) (IsX.same x2 (((s4.trans s5).trans s6).trans s7)) (s7 _ _ zs5)
    have w3 := isX_upd (o := HO.lst [V.ref e0, V.ref e1, V.ref e2, V.ref e3, V.ref e4, V.ref e5]) (IsX.same x3 ((s5.trans s6).trans s7)) (s7 _ _ zs5)
    have w4 := isX_upd (o := HO.lst [V.ref e0, V.ref e1, V.ref e2, V.ref e3, V.ref e4, V.ref e5]) (IsX.same x4 (s6.trans s7)) (s7 _ _ zs5)
    have w5 := isX_upd (o := HO.lst [V.ref e0, V.ref e1, V.ref e2, V.ref e3, V.ref e4, V.ref e5]) x5 (s7 _ _ zs5)
    obtain ⟨B0, gB⟩ : ∃ G : Hp, G = upd A7 ps (HO.lst [V.ref e0, V.ref e1, V.ref e2, V.ref e3, V.ref e4, V.ref e5]) := ⟨_, rfl⟩
    have S2 : Same H B0 := by rw [gB]; exact same_upd2 S1 nps
    have z0 : B0 ps = some (HO.lst [V.ref e0, V.ref e1, V.ref e2, V.ref e3, V.ref e4, V.ref e5]) := by rw [gB]; exact upd_same
    rw [← gB] at w0 w1 w2 w3 w4 w5
    have eB : upd A7 ps (HO.lst ([V.ref e0, V.ref e1, V.ref e2, V.ref e3, V.ref e4] ++ [V.ref e5])) = B0 := gB.symm
    rw [eB]
    clear gB eB
    refine ⟨(by show 7 ≤ sizeLine; decide), ?_⟩
    intro q0 k1
    obtain ⟨B1, gB1⟩ : ∃ G : Hp, G = upd B0 q0 (HO.lst [V.bl false, V.bl true, V.bl false, V.bl false, V.bl false, V.bl false, V.bl true]) := ⟨_, rfl⟩
    rw [← gB1]
    have t1 : Same B0 B1 := by rw [gB1]; exact same_upd k1
    have y0 : B1 q0 = some (HO.lst [V.bl false, V.bl true, V.bl false, V.bl false, V.bl false, V.bl false, V.bl true]) := by rw [gB1]; exact upd_same
    clear gB1
    refine ⟨(by show 7 ≤ sizeLine; decide), ?_⟩
    intro q1 k2
    obtain ⟨B2, gB2⟩ : ∃ G : Hp, G = upd B1 q1 (HO.lst [V.bl false, V.bl false, V.bl true, V.bl false, V.bl false, V.bl false, V.bl true]) := ⟨_, rfl⟩
    rw [← gB2]
    have t2 : Same B1 B2 := by rw [gB2]; exact same_upd k2
    have y1 : B2 q1 = some (HO.lst [V.bl false, V.bl false, V.bl true, V.bl false, V.bl false, V.bl false, V.bl true]) := by rw [gB2]; exact upd_same
    clear gB2
    refine ⟨(by show 2 ≤ sizeLine; decide), ?_⟩
    intro u0 k3
    obtain ⟨B3, gB3⟩ : ∃ G : Hp, G = upd B2 u0 (HO.lst [V.ref q0, V.ref q1]) := ⟨_, rfl⟩
    rw [← gB3]
    have t3 : Same B2 B3 := by rw [gB3]; exact same_upd k3
    have yu0 : B3 u0 = some (HO.lst [V.ref q0, V.ref q1]) := by rw [gB3]; exact upd_same
    clear gB3
    refine ⟨_, rfl, ?_⟩
    refine ⟨(by show 7 ≤ sizeLine; decide), ?_⟩
    intro q2 k4
    obtain ⟨B4, gB4⟩ : ∃ G : Hp, G = upd B3 q2 (HO.lst [V.bl false, V.bl false, V.bl false, V.bl true, V.bl true, V.bl false, V.bl false]) := ⟨_, rfl⟩
    rw [← gB4]
    have t4 : Same B3 B4 := by rw [gB4]; exact same_upd k4
    have y2 : B4 q2 = some (HO.lst [V.bl false, V.bl false, V.bl false, V.bl true, V.bl true, V.bl false, V.bl false]) := by rw [gB4]; exact upd_same
    clear gB4
    refine ⟨(by show 7 ≤ sizeLine; decide), ?_⟩
    intro q3 k5
    obtain ⟨B5, gB5⟩ : ∃ G : Hp, G = upd B4 q3 (HO.lst [V.bl false, V.bl false, V.bl false, V.bl false, V.bl true, V.bl false, V.bl false]) := ⟨_, rfl⟩
    rw [← gB5]
    have t5 : Same B4 B5 := by rw [gB5]; exact same_upd k5
    have y3 : B5 q3 = some (HO.lst [V.bl false, V.bl false, V.bl false, V.bl false, V.bl true, V.bl false, V.bl false]) := by rw [gB5]; exact upd_same
    clear gB5
    refine ⟨(by show 2 ≤ sizeLine; decide), ?_⟩
    intro u1 k6
    obtain ⟨B6, gB6⟩ : ∃ G : Hp, G = upd B5 u1 (HO.lst [V.ref q2, V.ref q3]) := ⟨_, rfl⟩
    rw [← gB6]
    have t6 : Same B5 B6 := by rw [gB6]; exact same_upd k6
    have yu1 : B6 u1 = some (HO.lst [V.ref q2, V.ref q3]) := by rw [gB6]; exact upd_same
    clear gB6
    refine ⟨_, _, _, _, rfl, rfl, (t6 _ _ (t5 _ _ (t4 _ _ yu0))), yu1, (by show 4 ≤ sizeLine; decide), ?_⟩
    show ∀ p, B6 p = none → _
    intro u2 k7
    obtain ⟨B7, gH⟩ : ∃ G : Hp, G = upd B6 u2 (HO.lst [V.ref q0, V.ref q1, V.ref q2, V.ref q3]) := ⟨_, rfl⟩
    have t7 : Same B6 B7 := by rw [gH]; exact same_upd k7
    have yu2 : B7 u2 = some (HO.lst [V.ref q0, V.ref q1, V.ref q2, V.ref q3]) := by rw [gH]; exact upd_same
    have eH : upd B6 u2 (HO.lst ([V.ref q0, V.ref q1] ++ [V.ref q2, V.ref q3])) = B7 := gH.symm
    rw [eH]
    clear gH eH
    refine ⟨_, rfl, ?_⟩
    refine ⟨(by show 7 ≤ sizeLine; decide), ?_⟩
    intro q4 k8
    obtain ⟨B8, gB8⟩ : ∃ G : Hp, G = upd B7 q4 (HO.lst [V.bl false, V.bl false, V.bl false, V.bl false, V.bl false, V.bl true, V.bl false]) := ⟨_, rfl⟩
    rw [← gB8]
    have t8 : Same B7 B8 := by rw [gB8]; exact same_upd k8
    have y4 : B8 q4 = some (HO.lst [V.bl false, V.bl false, V.bl false, V.bl false, V.bl false, V.bl true, V.bl false]) := by rw [gB8]; exact upd_same
    clear gB8
    refine ⟨(by show 1 ≤ sizeLine; decide), ?_⟩
    intro u3 k9
    obtain ⟨B9, gB9⟩ : ∃ G : Hp, G = upd B8 u3 (HO.lst [V.bl false]) := ⟨_, rfl⟩
    rw [← gB9]
    have t9 : Same B8 B9 := by rw [gB9]; exact same_upd k9
    have yu3 : B9 u3 = some (HO.lst [V.bl false]) := by rw [gB9]; exact upd_same
    clear gB9
    refine ⟨_, _, _, rfl, rfl, yu3, (by decide), (by decide), (by show 1 * 6 ≤ sizeLine; decide), ?_⟩
    show ∀ p, B9 p = none → _
    intro u4 k10
    obtain ⟨B10, gH⟩ : ∃ G : Hp, G = upd B9 u4 (HO.lst (bls (List.replicate 6 false))) := ⟨_, rfl⟩
    have t10 : Same B9 B10 := by rw [gH]; exact same_upd k10
    have yu4 : B10 u4 = some (HO.lst (bls (List.replicate 6 false))) := by rw [gH]; exact upd_same
    have eH : upd B9 u4 (HO.lst (List.replicate (Int.toNat 6) [V.bl false]).flatten) = B10 := gH.symm
    rw [eH]
    clear gH eH
    refine ⟨(by show 1 ≤ sizeLine; decide), ?_⟩
    intro u5 k11
    obtain ⟨B11, gB11⟩ : ∃ G : Hp, G = upd B10 u5 (HO.lst [V.bl true]) := ⟨_, rfl⟩
    rw [← gB11]
    have t11 : Same B10 B11 := by rw [gB11]; exact same_upd k11
    have yu5 : B11 u5 = some (HO.lst [V.bl true]) := by rw [gB11]; exact upd_same
    clear gB11
    refine ⟨_, _, _, _, rfl, rfl, (t11 _ _ yu4), yu5, (by show 7 ≤ sizeLine; decide), ?_⟩
    show ∀ p, B11 p = none → _
    intro q5 k12
    obtain ⟨B12, gH⟩ : ∃ G : Hp, G = upd B11 q5 (HO.lst (bls (dueRow 5))) := ⟨_, rfl⟩
    have t12 : Same B11 B12 := by rw [gH]; exact same_upd k12
    have y5 : B12 q5 = some (HO.lst (bls (dueRow 5))) := by rw [gH]; exact upd_same
    have eH : upd B11 q5 (HO.lst (bls (List.replicate 6 false) ++ [V.bl true])) = B12 := gH.symm
    rw [eH]
    clear gH eH
    refine ⟨(by show 2 ≤ sizeLine; decide), ?_⟩
    intro u6 k13
    obtain ⟨B13, gB13⟩ : ∃ G : Hp, G = upd B12 u6 (HO.lst [V.ref q4, V.ref q5]) := ⟨_, rfl⟩
    rw [← gB13]
    have t13 : Same B12 B13 := by rw [gB13]; exact same_upd k13
    have yu6 : B13 u6 = some (HO.lst [V.ref q4, V.ref q5]) := by rw [gB13]; exact upd_same
    clear gB13
    refine ⟨_, _, _, _, rfl, rfl, (t13 _ _ (t12 _ _ (t11 _ _ (t10 _ _ (t9 _ _ (t8 _ _ yu2)))))), yu6, (by show 6 ≤ sizeLine; decide), ?_⟩
    show ∀ p, B13 p = none → _
    intro u7 k14
    obtain ⟨B14, gH⟩ : ∃ G : Hp, G = upd B13 u7 (HO.lst [V.ref q0, V.ref q1, V.ref q2, V.ref q3, V.ref q4, V.ref q5]) := ⟨_, rfl⟩
    have t14 : Same B13 B14 := by rw [gH]; exact same_upd k14
    have yu7 : B14 u7 = some (HO.lst [V.ref q0, V.ref q1, V.ref q2, V.ref q3, V.ref q4, V.ref q5]) := by rw [gH]; exact upd_same
    have eH : upd B13 u7 (HO.lst ([V.ref q0, V.ref q1, V.ref q2, V.ref q3] ++ [V.ref q4, V.ref q5])) = B14 := gH.symm
    rw [eH]
    clear gH eH
    have S3 : Same B0 B14 := (((((((((((((t1.trans t2).trans t3).trans t4).trans t5).trans t6).trans t7).trans t8).trans t9).trans t10).trans t11).trans t12).trans t13).trans t14)
    have all : ∀ i, i < 6 → ∃ (e : Addr) (fs : List (Str × V)), ([V.ref e0, V.ref e1, V.ref e2, V.ref e3, V.ref e4, V.ref e5] : List V)[i]? = some (.ref e) ∧ IsX B14 e (c (i + 13)) fs := by
      intro i hi
      match i, hi with
      | 0, _ => exact ⟨e0, _, rfl, IsX.same w0 S3⟩
      | 1, _ => exact ⟨e1, _, rfl, IsX.same w1 S3⟩
      | 2, _ => exact ⟨e2, _, rfl, IsX.same w2 S3⟩
      | 3, _ => exact ⟨e3, _, rfl, IsX.same w3 S3⟩
      | 4, _ => exact ⟨e4, _, rfl, IsX.same w4 S3⟩
      | 5, _ => exact ⟨e5, _, rfl, IsX.same w5 S3⟩
      | k + 6, hk => exact absurd hk (by omega)
    have dues : ∀ i, i < 6 → ∃ q, ([V.ref q0, V.ref q1, V.ref q2, V.ref q3, V.ref q4, V.ref q5] : List V)[i]? = some (.ref q) ∧ B14 q = some (.lst (bls (dueRow i))) := by
      intro i hi
      match i, hi with
      | 0, _ => exact ⟨q0, rfl, (t14 _ _ (t13 _ _ (t12 _ _ (t11 _ _ (t10 _ _ (t9 _ _ (t8 _ _ (t7 _ _ (t6 _ _ (t5 _ _ (t4 _ _ (t3 _ _ (t2 _ _ y0)))))))))))))⟩
      | 1, _ => exact ⟨q1, rfl, (t14 _ _ (t13 _ _ (t12 _ _ (t11 _ _ (t10 _ _ (t9 _ _ (t8 _ _ (t7 _ _ (t6 _ _ (t5 _ _ (t4 _ _ (t3 _ _ y1))))))))))))⟩
      | 2, _ => exact ⟨q2, rfl, (t14 _ _ (t13 _ _ (t12 _ _ (t11 _ _ (t10 _ _ (t9 _ _ (t8 _ _ (t7 _ _ (t6 _ _ (t5 _ _ y2))))))))))⟩
      | 3, _ => exact ⟨q3, rfl, (t14 _ _ (t13 _ _ (t12 _ _ (t11 _ _ (t10 _ _ (t9 _ _ (t8 _ _ (t7 _ _ (t6 _ _ y3)))))))))⟩
      | 4, _ => exact ⟨q4, rfl, (t14 _ _ (t13 _ _ (t12 _ _ (t11 _ _ (t10 _ _ (t9 _ _ y4))))))⟩
      | 5, _ => exact ⟨q5, rfl, (t14 _ _ (t13 _ _ y5))⟩
      | k + 6, hk => exact absurd hk (by omega)
    have S4 : Same H B14 := S2.trans S3
    have zz : B14 ps = some (HO.lst [V.ref e0, V.ref e1, V.ref e2, V.ref e3, V.ref e4, V.ref e5]) := S3 _ _ z0
    refine ⟨_, rfl, ps, [V.ref e0, V.ref e1, V.ref e2, V.ref e3, V.ref e4, V.ref e5], rfl, SqL.of zz, for_it walk_enum (fun i σ H' => ∃ v6 v7, σ = [some v, some (.int n), some p, some t, some (.ref ps), some (.ref u7), v6, v7, none, none] ∧ Same B14 H')
      ⟨none, none, rfl, Same.refl _⟩ (fun i σ H' _ ⟨_, _, _, s5⟩ => s5.seq (SqL.of zz)) ?turn ?rest⟩
    case turn =>
      rintro i vv σ B BB' hi ⟨v6, v7, rfl, s5⟩ ⟨U, a, b, rfl, nU, rfl, ea, eb⟩
      have hi : i < 6 := hi
      obtain ⟨e, fs, he, hx⟩ := all i hi
      obtain ⟨qd, hqd, fqd⟩ := dues i hi
      have ee := eb.symm.trans he
      cases ee
      cases ea
      refine ⟨U, _, rfl, SqT.of upd_same, rfl, _, _, rfl, _, _, rfl, rfl, ?_⟩
      have s6 : Same B14 (upd B U (.tup [.int i, .ref e])) := s5.trans (same_upd nU)
      obtain ⟨C1, gB⟩ : ∃ G : Hp, G = upd B U (.tup [.int i, .ref e]) := ⟨_, rfl⟩
      rw [← gB] at s6 ⊢
      clear gB
      have hx1 := IsX.same hx s6
      refine ⟨_, rfl, e, c (i + 13), fs, _, _, false, rfl, hx1, T.has (i + 13) (by omega), .own _, (T.tab (i + 13) 0 (by omega) (by decide)).trans (congrArg some (tbx_plan i hi)), _, rfl, iteF ?_⟩
      refine ⟨_, rfl, e, i + 13, fs, rfl, by omega, hx1, fun p4 C2 t4 m4 f4 => ?_⟩
      rw [tbx_others i hi] at f4
      refine ⟨6, rfl, by decide, by decide, fun D nD => lc_range (lo := 0) (n := 6) (fun k B => Same C2 B ∧ B D = some (.lst (bls ((List.range k).map fun o => decide (i = o))))) ⟨same_upd nD, upd_same⟩ ?step ?fin⟩
      case step =>
        rintro o B ho ⟨sB, hD⟩
        refine ⟨rfl, yes ?_⟩
        refine ⟨_, rfl, _, rfl, rfl, _, hD, ?_, ?_, ?_⟩
        · show ((List.map V.bl (List.map (fun o => decide (i = o)) (List.range o))).length) < sizeLine
          rw [List.length_map, List.length_map, List.length_range]
          exact Nat.lt_trans ho (by decide)
        · intro b u q
          rw [upd_ne (ne_of_none q nD)]
          exact sB b u q
        · rw [upd_same]
          have e1 : decide (V.int (i : Int) = V.int (0 + (o : Int))) = decide (i = o) := by
            rw [Bool.eq_iff_iff]
            simp
            omega
          show some (HO.lst (bls ((List.range o).map fun o => decide (i = o)) ++ [V.bl (decide (V.int (i : Int) = V.int (0 + (o : Int))))])) = _
          rw [e1, List.range_succ, List.map_append]
          simp [bls]
      case fin =>
        rintro B ⟨sB, hD⟩
        refine ⟨_, _, dp_bls (sB _ _ f4), dp_bls hD, shaped_o6 i hi, shaped_o6 i hi, _, rfl, iteN (by rw [eqvR (shaped_o6 i hi)]; rfl) ?_⟩
        have s8 : Same C1 B := t4.trans sB
        have hx5 := IsX.same hx1 s8
        refine ⟨_, rfl, e, i + 13, fs, rfl, by omega, hx5, fun p5 C6 t5 m5 f5 => ?_⟩
        rw [tbx_kinds i hi] at f5
        refine ⟨(by show 1 ≤ sizeLine; decide), ?_⟩
        intro p2 m2
        obtain ⟨C7, g3⟩ : ∃ G : Hp, G = upd C6 p2 (HO.lst [V.bl false]) := ⟨_, rfl⟩
        rw [← g3]
        have t2 : Same C6 C7 := by rw [g3]; exact same_upd m2
        have f2 : C7 p2 = some (HO.lst [V.bl false]) := by rw [g3]; exact upd_same
        clear g3
        refine ⟨_, _, _, rfl, rfl, f2, (by decide), (by decide), (by show 1 * 12 ≤ sizeLine; decide), ?_⟩
        intro p3 m3
        obtain ⟨C8, g4⟩ : ∃ G : Hp, G = upd C7 p3 (HO.lst (bls (List.replicate 12 false))) := ⟨_, rfl⟩
        have t3 : Same C7 C8 := by rw [g4]; exact same_upd m3
        have f3 : C8 p3 = some (HO.lst (bls (List.replicate 12 false))) := by rw [g4]; exact upd_same
        have e4 : upd C7 p3 (HO.lst (List.replicate (Int.toNat 12) [V.bl false]).flatten) = C8 := g4.symm
        rw [e4]
        clear g4 e4
        refine ⟨_, _, dp_bls (t3 _ _ (t2 _ _ f5)), dp_bls f3, shaped_b12, shaped_b12, _, rfl, iteN (by rw [eqvR shaped_b12]; rfl) ?_⟩
        have s9 : Same C1 C8 := s8.trans (t5.trans (t2.trans t3))
        refine ⟨_, rfl, e, i + 13, fs, rfl, by omega, IsX.same hx1 s9, fun p6 C9 t6 m6 f6 => ?_⟩
        rw [tbx_bases i hi] at f6
        have sAll : Same B14 C9 := s6.trans (s9.trans t6)
        refine ⟨_, rfl, _, rfl, u7, _, _, _, rfl, rfl, SqL.of (sAll _ _ yu7), atI_nat hqd, ?_⟩
        refine ⟨_, _, dp_bls f6, dp_bls (sAll _ _ fqd), shaped_due i hi, shaped_due i hi, _, rfl, iteN (by rw [eqvR (shaped_due i hi)]; rfl) ?_⟩
        exact ⟨_, _, rfl, sAll⟩
    case rest =>
      rintro σ B ⟨v6, v7, rfl, s5⟩
      have sH : Same H B := S4.trans s5
      have sq : SqL K B ps [V.ref e0, V.ref e1, V.ref e2, V.ref e3, V.ref e4, V.ref e5] := SqL.of (s5 _ _ zz)
      refine ⟨_, rfl, ps, _, _, _, rfl, rfl, sq, rfl, e0, c 13, _, _, rfl, IsX.same w0 (S3.trans s5), T.has 13 (by decide), M.o13, lk1, _, rfl, ps, _, _, _, rfl, rfl, sq, rfl, e1, c 14, _, _, rfl, IsX.same w1 (S3.trans s5), T.has 14 (by decide), M.o14, lk1, _, rfl, ps, _, _, _, rfl, rfl, sq, rfl, e2, c 15, _, _, rfl, IsX.same w2 (S3.trans s5), T.has 15 (by decide), M.o15, lk1, _, rfl, ps, _, _, _, rfl, rfl, sq, rfl, e3, c 16, _, _, rfl, IsX.same w3 (S3.trans s5), T.has 16 (by decide), M.o16, lk1, _, rfl, ps, _, _, _, rfl, rfl, sq, rfl, e4, c 17, _, _, rfl, IsX.same w4 (S3.trans s5), T.has 17 (by decide), M.o17, lk1, _, rfl, ps, _, _, _, rfl, rfl, sq, rfl, e5, c 18, _, _, rfl, IsX.same w5 (S3.trans s5), T.has 18 (by decide), M.o18, lk1, (by show 6 ≤ sizeLine; decide), ?_⟩
      intro pk nk nsk
      obtain ⟨D1, gD1⟩ : ∃ G : Hp, G = upd B pk (HO.lst [v, v, V.int n, p, t, V.int n]) := ⟨_, rfl⟩
      rw [← gD1]
      have r1 : Same B D1 := by rw [gD1]; exact same_upd nk
      have zk : D1 pk = some (HO.lst [v, v, V.int n, p, t, V.int n]) := by rw [gD1]; exact upd_same
      clear gD1
      have dd : ∀ {G : Hp}, Same H G → DpXAll K G [v, v, .int n, p, t, .int n] [dv, dv, .int n, dp, dt, .int n] := fun s => .cons (DpX.same s hdv) (.cons (DpX.same s hdv) (.cons (.int n) (.cons (DpX.same s hdp) (.cons (DpX.same s hdt) (.cons (.int n) .nil)))))
      refine ⟨_, rfl, pk, _, rfl, .lst nsk (SqL.of zk) (dd (sH.trans r1)), good.1, good.2.1, good.2.2, ?_⟩
      refine ⟨_, rfl, _, rfl, _, rfl, _, rfl, _, rfl, _, rfl, (by show 6 ≤ sizeLine; decide), ?_⟩
      intro pm nm nsm
      obtain ⟨D2, gD2⟩ : ∃ G : Hp, G = upd D1 pm (HO.lst [v, v, V.int n, p, t, V.int n]) := ⟨_, rfl⟩
      rw [← gD2]
      have r2 : Same D1 D2 := by rw [gD2]; exact same_upd nm
      have zm : D2 pm = some (HO.lst [v, v, V.int n, p, t, V.int n]) := by rw [gD2]; exact upd_same
      clear gD2
      refine ⟨pm, _, rfl, .lst nsm (SqL.of zm) (dd ((sH.trans r1).trans r2)), good.1, good.2.1, good.2.2, rfl, ?_⟩
      rw [decide_eq_true rfl]
      exact k _ ((sH.trans r1).trans r2)
end
end K00

set_option Elab.async false
set_option linter.all false
set_option maxRecDepth 100000
set_option maxHeartbeats 4000000
namespace K00
open PySem PySem.Spec PyProof.Rows L2 LW LX
abbrev sLaw : Stmt := top 29
structure TxtL (K : PySem.W.Frag) (mg : Str → Option Value) (fS fP fV fM : Addr) (fdS fdP fdV fdM : FuncData) : Prop where
  gS : mg "_law_stream" = some (.ref fS)
  kS : PySem.W.keepIn K (.ref fS) = true
  bS : Binds K fdS ["script", "at"] []
  gP : mg "_law_pick" = some (.ref fP)
  kP : PySem.W.keepIn K (.ref fP) = true
  bP : Binds K fdP ["stream", "items"] []
  gV : mg "_law_values_right" = some (.ref fV)
  kV : PySem.W.keepIn K (.ref fV) = true
  bV : Binds K fdV ["value", "number", "paper", "table"] []
  gM : mg "_law_messages_right" = some (.ref fM)
  kM : PySem.W.keepIn K (.ref fM) = true
  bM : Binds K fdM ["text"] []
  len : mg "len" = none
  max : mg "max" = none
  min : mg "min" = none
  range : mg "range" = none
/-! ### what is drawn, as data -/
def odds : List PyData := [.int 0, .int (-1), .int (10 ^ 30), .str "", .str "a", .tuple [], .none, .bool true, .tuple [.int 0, .int 1], .list [.int 3], .dict [(.str "a", .int 1)]]
def nums : List Int := [1, 5, 10, 99, 5000]
def rowsD : PyData := .tuple [.tuple [.tuple [.str "plain", .str "a", .str "start"], .int (-1), .str "given", .tuple []], .tuple [.tuple [.str "plain", .str "start", .str "a"], .int 0, .str "given", .tuple []]]
def papers : List PyData := [.tuple [.int 0], .tuple [.int 1, .int 0], .tuple [.int 2, .int 5, .int 7], .tuple [.str "refuted", rowsD, .tuple [.int 0, .int 1]], .tuple [.str "refuted", rowsD, .tuple [.int 1, .int 0]]]
def tableD : PyData := .tuple [.str "table", .dict [(.tuple [.str "start", .str "start"], .int 0)], .dict [], .dict [(.str "start", .int 0)]]
theorem odds_ok : ∀ d ∈ odds, (d.showable && decide (d.depth ≤ 20) && decide (d.shown.length ≤ 100)) = true := by decide +kernel
theorem papers_ok : ∀ d ∈ papers, (d.showable && decide (d.depth ≤ 20) && decide (d.shown.length ≤ 1000)) = true := by decide +kernel
theorem nums_ok : ∀ n ∈ nums, ((PyData.int n).showable && decide ((PyData.int n).depth ≤ 20) && decide ((PyData.int n).shown.length ≤ 100)) = true := by decide +kernel
theorem table_ok : (tableD.showable && decide (tableD.depth ≤ 20) && decide (tableD.shown.length ≤ 1000)) = true := by decide +kernel
theorem three {d : PyData} {n : Nat} (h : (d.showable && decide (d.depth ≤ 20) && decide (d.shown.length ≤ n)) = true) : d.showable = true ∧ d.depth ≤ 20 ∧ d.shown.length ≤ n := by
  obtain ⟨h1, h3⟩ := Bool.and_eq_true_iff.mp h
  obtain ⟨h1, h2⟩ := Bool.and_eq_true_iff.mp h1
  exact ⟨h1, of_decide_eq_true h2, of_decide_eq_true h3⟩
theorem good_of {dv dp : PyData} {n : Int} (h1 : dv ∈ odds) (h2 : n ∈ nums) (h3 : dp ∈ papers) : goodData (.list [dv, dv, .int n, dp, tableD, .int n]) := by
  obtain ⟨a1, a2, a3⟩ := three (odds_ok dv h1)
  obtain ⟨b1, b2, b3⟩ := three (nums_ok n h2)
  obtain ⟨c1, c2, c3⟩ := three (papers_ok dp h3)
  obtain ⟨d1, d2, d3⟩ := three table_ok
  refine ⟨?_, ?_, ?_⟩
  · simp only [PyData.showable, PyData.showableAll, a1, c1, d1, Bool.and_true, Bool.true_and]
    simpa [PyData.showable] using b1
  · simp only [PyData.depth, PyData.depthAll]
    simp only [PyData.depth] at b2
    omega
  · have q := listText_len_le (PyData.shownAll [dv, dv, .int n, dp, tableD, .int n])
    have e : (PyData.list [dv, dv, .int n, dp, tableD, .int n]).shown = listText (PyData.shownAll [dv, dv, .int n, dp, tableD, .int n]) := by simp only [PyData.shown]
    rw [e]
    simp only [PyData.shownAll, List.map_cons, List.map_nil, List.sum_cons, List.sum_nil, List.length_cons, List.length_nil] at q ⊢
    have z : sizeLine = 16777216 := sizeLine_eq
    omega
/-- the heap without the stream -/
theorem sameD {A B : Hp} {l : Addr} (s : Same A B) : Same (delH A l) (delH B l) := fun b u e => by
  by_cases q : b = l
  · rw [q, delH_same] at e
    cases e
  · rw [delH_ne q] at e ⊢
    exact s b u e
theorem delH_le {A : Hp} {l : Addr} : Same (delH A l) A := fun b u e => by
  by_cases q : b = l
  · rw [q, delH_same] at e
    cases e
  · rw [delH_ne q] at e
    exact e
theorem delH_upd {A : Hp} {l : Addr} {o : HO} : delH (upd A l o) l = delH A l := by
  funext b
  by_cases q : b = l
  · rw [q, delH_same, delH_same]
  · rw [delH_ne q, delH_ne q, upd_ne q]
theorem inD {A : Hp} {l p : Addr} {o u : HO} (h : A p = some o) (hl : A l = some u) (ne : o ≠ u) : delH A l p = some o := by
  have q : p ≠ l := by
    rintro rfl
    rw [h] at hl
    exact ne (Option.some.inj hl)
  rw [delH_ne q]
  exact h
def spLaw (K : PySem.W.Frag) : Sp := fun vs H Q _ => ∃ (a : Addr) (ns : List Int), vs = [.ref a] ∧ SqL K H a (ns.map V.int) ∧ ns.length ≤ 63 ∧ ∀ H', Q (.bl true) H'
theorem sum_le : ∀ ys : List Str, (∀ y ∈ ys, y.length ≤ 4) → (ys.map (·.length)).sum ≤ 4 * ys.length
  | [], _ => Nat.le_refl _
  | y :: r, h => by
    have h1 := h y List.mem_cons_self
    have h2 := sum_le r fun z q => h z (List.mem_cons_of_mem _ q)
    simp only [List.map_cons, List.sum_cons, List.length_cons]
    omega
theorem turns_ok (k : Nat) : 0 ≤ (if (if ((k : Int) < 4) then (k : Int) else 4) > 1 then (if ((k : Int) < 4) then (k : Int) else 4) else 1) ∧ (if (if ((k : Int) < 4) then (k : Int) else 4) > 1 then (if ((k : Int) < 4) then (k : Int) else 4) else 1) ≤ 4 := by
  constructor
  · split <;> split <;> omega
  · split <;> split <;> omega
section
variable {P : Program} {w : World} {K : PySem.W.Frag} {mg : Str → Option Value} {base : Heap} {c : Nat → Addr}
theorem scLaw : FnScope ["script", "at", "stream", "text", "odd", "number", "table", "rows", "paper", "turn"] ["script"] (defScope sLaw) := ⟨rfl, rfl, rfl, by decide +kernel, rfl, by decide +kernel, by decide +kernel⟩
theorem ok_law {f fS fD fP fV fM : Addr} {fd fdS fdD fdP fdV fdM : FuncData} (F : Fun K "law" "law" sLaw f fd) (L : TxtL K mg fS fP fV fM fdS fdP fdV fdM) (D : TxtD K mg fD fdD)
    (GS : FnOk P w K mg base CX0 1 fS fdS ["script", "at"] (spStream K)) (GD : FnOk P w K mg base CX0 1 fD fdD ["stream", "total"] spDraw) (GP : FnOk P w K mg base CX0 2 fP fdP ["stream", "items"] (spPick K))
    (GV : FnG P w K mg base CX0 3 fV fdV ["value", "number", "paper", "table"] (spVal K)) (GM : FnOk P w K mg base CX0 3 fM fdM ["text"] spMsg) : FnG P w K mg base CX0 4 f fd ["script"] (spLaw K) := by
  refine okG F scLaw (fun vs H Q E h => ?_) (fun cdv A outer s H vs Q E hgd hr h => ?_)
  · obtain ⟨a, ns, rfl, _⟩ := h
    rfl
  · obtain ⟨a, ns, rfl, hS, hl, k⟩ := h
    refine ⟨_, (pss_cons (ps_for PassesOwn.never rfl (pi_range1 (by rfl) L.range (pa_cons (pe_callB (call_max2 rfl) (by rfl) L.max (by decide +kernel) (pa_cons pe_int (pa_cons (pe_callB (call_min2 rfl) (by rfl) L.min (by decide +kernel) (pa_cons pe_int (pa_cons (pe_callB call_len_seq (by rfl) L.len (by decide +kernel) (pa_cons (pv 0) pa_nil)) pa_nil))) pa_nil))) pa_nil)) (pg_name (i := 1) scLaw.nd rfl (.inl rfl))
        (pss_cons (ps_set (i := 2) scLaw.nd rfl (.inr rfl) (pe_call GS (hr.mono (by decide)) rfl L.gS L.kS L.bS .nil pass0 (pa_cons (pv 0) (pa_cons (pv 1) pa_nil))))
        (pss_cons (ps_set (i := 3) scLaw.nd rfl (.inl rfl) (pe_join pe_str (pe_lc (own := [("turn", 9)]) (g := gName 9) (tt := tYes) (by rfl) scLaw.nd (pi_range1 (by rfl) L.range (pa_cons (pe_call GD (hr.mono (by decide)) rfl D.gD D.kD D.bD .nil pass0 (pa_cons (pv 2) (pa_cons pe_int pa_nil))) pa_nil)) (blkOk_by (own := [("turn", 9)]) (N := ["script", "at", "stream", "text", "odd", "number", "table", "rows", "paper", "turn"]) (sc := defScope sLaw) (by decide +kernel)) (fun _ _ _ _ _ => (pg_name (i := 9) scLaw.nd rfl (.inl rfl))) (fun _ _ _ _ _ => pts_nil) (fun _ _ _ _ _ => (pe_call GP (hr.mono (by decide)) rfl L.gP L.kP L.bP .nil pass0 (pa_cons (pv 2) (pa_cons (pe_lst (pa_cons pe_str (pa_cons pe_str (pa_cons pe_str (pa_cons pe_str (pa_cons pe_str pa_nil)))))) pa_nil)))))))
        (pss_cons (ps_set (i := 4) scLaw.nd rfl (.inl rfl) (pe_call GP (hr.mono (by decide)) rfl L.gP L.kP L.bP .nil pass0 (pa_cons (pv 2) (pa_cons (pe_lst (pa_cons pe_int (pa_cons (pe_un un_neg pe_int) (pa_cons (pe_op op_pow pe_int pe_int) (pa_cons pe_str (pa_cons pe_str (pa_cons (pe_tup pa_nil) (pa_cons pe_non (pa_cons pe_bl (pa_cons (pe_tup (pa_cons pe_int (pa_cons pe_int pa_nil))) (pa_cons (pe_lstN (pa_cons pe_int pa_nil)) (pa_cons (pe_disp (pps_cons pe_str pe_int pps_nil) (by rfl) (by rfl) (fun z => by cases z) (by decide)) pa_nil)))))))))))) pa_nil))))
        (pss_cons (ps_par (i := 5) (j := 6) rfl scLaw.nd rfl rfl (by decide) rfl rfl (pa_cons (pe_call GP (hr.mono (by decide)) rfl L.gP L.kP L.bP .nil pass0 (pa_cons (pv 2) (pa_cons (pe_lst (pa_cons pe_int (pa_cons pe_int (pa_cons pe_int (pa_cons pe_int (pa_cons pe_int pa_nil)))))) pa_nil))) (pa_cons (pe_dispT hr.units0 (pe_tup (pa_cons pe_str (pa_cons pe_str pa_nil))) pe_int) pa_nil)) (by rfl))
        (pss_cons (ps_set (i := 7) scLaw.nd rfl (.inl rfl) (pe_tup (pa_cons (pe_tup (pa_cons (pe_tup (pa_cons pe_str (pa_cons pe_str (pa_cons pe_str pa_nil)))) (pa_cons (pe_un un_neg pe_int) (pa_cons pe_str (pa_cons (pe_tup pa_nil) pa_nil))))) (pa_cons (pe_tup (pa_cons (pe_tup (pa_cons pe_str (pa_cons pe_str (pa_cons pe_str pa_nil)))) (pa_cons pe_int (pa_cons pe_str (pa_cons (pe_tup pa_nil) pa_nil))))) pa_nil))))
        (pss_cons (ps_set (i := 8) scLaw.nd rfl (.inl rfl) (pe_call GP (hr.mono (by decide)) rfl L.gP L.kP L.bP .nil pass0 (pa_cons (pv 2) (pa_cons (pe_lst (pa_cons (pe_tup (pa_cons pe_int pa_nil)) (pa_cons (pe_tup (pa_cons pe_int (pa_cons pe_int pa_nil))) (pa_cons (pe_tup (pa_cons pe_int (pa_cons pe_int (pa_cons pe_int pa_nil)))) (pa_cons (pe_tup (pa_cons pe_str (pa_cons (pv 7) (pa_cons (pe_tup (pa_cons pe_int (pa_cons pe_int pa_nil))) pa_nil)))) (pa_cons (pe_tup (pa_cons pe_str (pa_cons (pv 7) (pa_cons (pe_tup (pa_cons pe_int (pa_cons pe_int pa_nil))) pa_nil)))) pa_nil)))))) pa_nil))))
        (pss_cons (ps_if (pt_not (pt_val (pe_callG GV hgd (hr.mono (by decide)) rfl L.gV L.kV L.bV .nil pass0 (pa_cons (pv 4) (pa_cons (pv 5) (pa_cons (pv 8) (pa_cons (pe_tup (pa_cons pe_str (pa_cons (pv 6) (pa_cons pe_dnewK (pa_cons (pe_disp (pps_cons pe_str pe_int pps_nil) (by rfl) (by rfl) (fun z => by cases z) (by decide)) pa_nil))))) pa_nil)))))))
          (pss_one (ps_ret pe_bl))
          pss_nil)
        (pss_one (ps_if (pt_not (pt_val (pe_call GM (hr.mono (by decide)) rfl L.gM L.kM L.bM .nil pass0 (pa_cons (pv 3) pa_nil))))
          (pss_one (ps_ret pe_bl))
          pss_nil))))))))))
      (pss_one (ps_ret pe_bl))), ?_⟩
    obtain ⟨b0, b4⟩ := turns_ok (ns.map V.int).length
    refine ⟨_, rfl, a, _, rfl, .inl hS, _, _, rfl, _, _, rfl, _, rfl, by omega, by omega, ?_⟩
    refine for_range (lo := 0) (fun i σ B => ∃ v2 v3 v4 v5 v6 v7 v8 v1, σ = [some (.ref a), v1, v2, v3, v4, v5, v6, v7, v8, none] ∧ Same H B) ⟨_, _, _, _, _, _, _, _, rfl, Same.refl _⟩ ?turn ?rest
    case rest =>
      rintro σ B ⟨v2, v3, v4, v5, v6, v7, v8, v1, rfl, sB⟩
      exact k _
    case turn =>
      rintro i σ B hi ⟨v2, v3, v4, v5, v6, v7, v8, v1, rfl, sB⟩
      -- stream = _law_stream(script, at)
      refine ⟨_, rfl, _, rfl, a, ns, i, (by simp), sB.seq hS, ?_⟩
      intro l x0 y0 z0 nl
      obtain ⟨B1, gB⟩ : ∃ G : Hp, G = upd B l (.lst [.int x0, .int y0, .int z0]) := ⟨_, rfl⟩
      rw [← gB]
      have S1 : Same B B1 := by rw [gB]; exact same_upd nl
      have l1 : B1 l = some (.lst [.int x0, .int y0, .int z0]) := by rw [gB]; exact upd_same
      clear gB
      -- text = ''.join([..])
      refine ⟨⟨_, rfl⟩, _, rfl, l, 6, rfl, ⟨_, _, _, l1⟩, by decide, by decide, ?_⟩
      intro n6 x1 y1 z1 g0 g6
      obtain ⟨B2, gB⟩ : ∃ G : Hp, G = upd B1 l (.lst [.int x1, .int y1, .int z1]) := ⟨_, rfl⟩
      rw [← gB]
      have S2 : Same B B2 := by rw [gB]; exact same_upd2 S1 nl
      have l2 : B2 l = some (.lst [.int x1, .int y1, .int z1]) := by rw [gB]; exact upd_same
      clear gB
      refine ⟨n6, rfl, by omega, by omega, fun D nD => lc_range (lo := 0) (n := n6.toNat) (fun j G => Same B G ∧ Stm G l ∧ ∃ ys : List Str, G D = some (.lst (ys.map V.str)) ∧ ys.length = j ∧ ∀ y ∈ ys, y.length ≤ 4) ?start ?step ?fin⟩
      case start =>
        refine ⟨S2.trans (same_upd nD), ⟨_, _, _, (same_upd nD) _ _ l2⟩, [], upd_same, rfl, fun y z => nomatch z⟩
      case step =>
        rintro j G hj ⟨sG, ⟨xa, ya, za, lG⟩, ys, hD, hlen, hys⟩
        refine ⟨rfl, yes ?_⟩
        refine ⟨_, rfl, (by show 5 ≤ sizeLine; decide), ?_⟩
        intro q nq
        have t1 : Same G (upd G q (.lst [.str "a", .str " ", .str "word", .str "7", .str "-"])) := same_upd nq
        refine ⟨l, q, _, rfl, ⟨_, _, _, t1 _ _ lG⟩, ne_of_none lG nq |> Ne.symm, .inl (SqL.of upd_same), by decide, by decide, ?_⟩
        intro v xb yb zb hv
        have hs : ∃ y : Str, v = .str y ∧ y.length ≤ 4 := by
          simp only [List.mem_cons, List.not_mem_nil, or_false] at hv
          rcases hv with rfl | rfl | rfl | rfl | rfl
          all_goals exact ⟨_, rfl, by decide⟩
        obtain ⟨y, rfl, hy⟩ := hs
        have nDl : D ≠ l := fun z => by
          rw [z, l2] at nD
          cases nD
        have nDl' : l ≠ D := fun z => nDl z.symm
        refine ⟨_, (upd_ne nDl).trans (t1 _ _ hD), ?_, ?_, ⟨xb, yb, zb, (upd_ne nDl').trans upd_same⟩, ys ++ [y], ?_, by simp [hlen], ?_⟩
        · rw [List.length_map, hlen]
          exact Nat.lt_of_lt_of_le (show j < 6 by omega) (by decide)
        · exact same_upd2 (same_upd2 (sG.trans t1) nl) (S2.free nD)
        · rw [upd_same, List.map_append]
          rfl
        · intro u hu
          rcases List.mem_append.mp hu with hu | hu
          · exact hys u hu
          · rw [List.mem_singleton.mp hu]
            exact hy
      case fin =>
        rintro B3 ⟨S3, ⟨x3, y3, z3, l3⟩, ys, hD, hlen, hys⟩
        refine ⟨_, D, ys, rfl, rfl, .inl (SqL.of hD), ?_, ?_⟩
        · have q := sum_le ys hys
          have e0 : (PySem.Str.ofString "").length = 0 := rfl
          rw [e0, hlen] at *
          omega
        generalize Txt.join _ ys = tx
        refine ⟨_, rfl, _, rfl, _, _, rfl, rfl, ⟨by decide, by decide, by decide⟩, ?_⟩
        refine ⟨Nat.zero_le _, ?_⟩
        intro a1 n1 
        obtain ⟨G1, gG⟩ : ∃ G : Hp, G = upd B3 a1 (HO.tup []) := ⟨_, rfl⟩
        rw [← gG]
        have t1 : Same B3 G1 := by rw [gG]; exact same_upd n1
        have z1 : G1 a1 = some (HO.tup []) := by rw [gG]; exact upd_same
        clear gG
        refine ⟨(by show 2 ≤ sizeLine; decide), ?_⟩
        intro a2 n2 
        obtain ⟨G2, gG⟩ : ∃ G : Hp, G = upd G1 a2 (HO.tup [V.int 0, V.int 1]) := ⟨_, rfl⟩
        rw [← gG]
        have t2 : Same G1 G2 := by rw [gG]; exact same_upd n2
        have z2 : G2 a2 = some (HO.tup [V.int 0, V.int 1]) := by rw [gG]; exact upd_same
        clear gG
        refine ⟨(by show 1 ≤ sizeLine; decide), ?_⟩
        intro a3 n3 nsys
        obtain ⟨G3, gG⟩ : ∃ G : Hp, G = upd G2 a3 (HO.lst [V.int 3]) := ⟨_, rfl⟩
        rw [← gG]
        have t3 : Same G2 G3 := by rw [gG]; exact same_upd n3
        have z3 : G3 a3 = some (HO.lst [V.int 3]) := by rw [gG]; exact upd_same
        clear gG
        intro a4 n4
        refine ⟨upd_same, ([(Sum.inr "a", V.int 1)] : List (Key × V)), rfl, by decide, ?_⟩
        obtain ⟨G4, gG⟩ : ∃ G : Hp, G = upd (upd G3 a4 (.dK [])) a4 (.dK [(Sum.inr "a", V.int 1)]) := ⟨_, rfl⟩
        have t4 : Same G3 G4 := by rw [gG]; exact same_upd2 (same_upd n4) n4
        have z4 : G4 a4 = some (HO.dK [(Sum.inr "a", V.int 1)]) := by rw [gG]; exact upd_same
        have eG : upd (upd G3 a4 (.dK [])) a4 (.dK (mergeK [] [(Sum.inr "a", V.int 1)])) = G4 := gG.symm
        rw [eG]
        clear gG eG
        refine ⟨(by show 11 ≤ sizeLine; decide), ?_⟩
        intro a5 n5 
        obtain ⟨G5, gG⟩ : ∃ G : Hp, G = upd G4 a5 (HO.lst [V.int 0, V.int (-1), V.int (10 ^ Int.toNat 30), V.str "", V.str "a", V.ref a1, V.non, V.bl true, V.ref a2, V.ref a3, V.ref a4]) := ⟨_, rfl⟩
        rw [← gG]
        have t5 : Same G4 G5 := by rw [gG]; exact same_upd n5
        have z5 : G5 a5 = some (HO.lst [V.int 0, V.int (-1), V.int (10 ^ Int.toNat 30), V.str "", V.str "a", V.ref a1, V.non, V.bl true, V.ref a2, V.ref a3, V.ref a4]) := by rw [gG]; exact upd_same
        clear gG
        have lN : G5 l = _ := (t5 _ _ (t4 _ _ (t3 _ _ (t2 _ _ (t1 _ _ l3)))))
        refine ⟨l, a5, _, rfl, ⟨_, _, _, lN⟩, (fun z => by rw [z, lN] at z5; exact absurd (show (3 : Nat) = 11 from congrArg List.length (HO.lst.inj (Option.some.inj z5))) (by decide)), .inl (SqL.of z5), (by show 0 < 11; decide), (by show 11 < 1000000; decide), ?_⟩
        intro vO1 xO1 yO1 zO1 hvO1
        obtain ⟨O1, gO1⟩ : ∃ G : Hp, G = upd G5 l (.lst [.int xO1, .int yO1, .int zO1]) := ⟨_, rfl⟩
        rw [← gO1]
        have lO1 : O1 l = some (.lst [.int xO1, .int yO1, .int zO1]) := by rw [gO1]; exact upd_same
        have dO1 : delH O1 l = delH G5 l := by rw [gO1]; exact delH_upd
        have hodd : ∃ dv, dv ∈ odds ∧ DpX K (delH O1 l) vO1 dv := by
          rw [dO1]
          simp only [List.mem_cons, List.not_mem_nil, or_false] at hvO1
          rcases hvO1 with rfl | rfl | rfl | rfl | rfl | rfl | rfl | rfl | rfl | rfl | rfl
          · exact ⟨_, .head _, .int _⟩
          · exact ⟨_, .tail _ (.head _), .int _⟩
          · exact ⟨_, .tail _ (.tail _ (.head _)), .int _⟩
          · exact ⟨_, .tail _ (.tail _ (.tail _ (.head _))), .str _⟩
          · exact ⟨_, .tail _ (.tail _ (.tail _ (.tail _ (.head _)))), .str _⟩
          · exact ⟨_, .tail _ (.tail _ (.tail _ (.tail _ (.tail _ (.head _))))), .tup (SqT.of (inD (t5 _ _ (t4 _ _ (t3 _ _ (t2 _ _ z1)))) lN (by intro q; cases q))) .nil⟩
          · exact ⟨_, .tail _ (.tail _ (.tail _ (.tail _ (.tail _ (.tail _ (.head _)))))), .non⟩
          · exact ⟨_, .tail _ (.tail _ (.tail _ (.tail _ (.tail _ (.tail _ (.tail _ (.head _))))))), .bl _⟩
          · exact ⟨_, .tail _ (.tail _ (.tail _ (.tail _ (.tail _ (.tail _ (.tail _ (.tail _ (.head _)))))))), .tup (SqT.of (inD (t5 _ _ (t4 _ _ (t3 _ _ z2))) lN (by intro q; cases q))) (.cons (.int _) (.cons (.int _) .nil))⟩
          · exact ⟨_, .tail _ (.tail _ (.tail _ (.tail _ (.tail _ (.tail _ (.tail _ (.tail _ (.tail _ (.head _))))))))), .lst nsys (SqL.of (inD (t5 _ _ (t4 _ _ z3)) lN (by intro q; cases q))) (.cons (.int _) .nil)⟩
          · exact ⟨_, .tail _ (.tail _ (.tail _ (.tail _ (.tail _ (.tail _ (.tail _ (.tail _ (.tail _ (.tail _ (.head _)))))))))), .dK (kvs := [(Sum.inr "a", V.int 1)]) (ds := [.int 1]) (inD (t5 _ _ z4) lN (by intro q; cases q)) (.cons (.int _) .nil)⟩
        obtain ⟨dv, mv, hdv⟩ := hodd
        have SO1 : Same B O1 := by rw [gO1]; exact same_upd2 (S3.trans ((((t1.trans t2).trans t3).trans t4).trans t5)) nl
        clear gO1 dO1 lN hvO1
        refine ⟨_, rfl, ?_⟩
        refine ⟨(by show 5 ≤ sizeLine; decide), ?_⟩
        intro a6 n6 
        obtain ⟨G6, gG⟩ : ∃ G : Hp, G = upd O1 a6 (HO.lst [V.int 1, V.int 5, V.int 10, V.int 99, V.int 5000]) := ⟨_, rfl⟩
        rw [← gG]
        have t6 : Same O1 G6 := by rw [gG]; exact same_upd n6
        have z6 : G6 a6 = some (HO.lst [V.int 1, V.int 5, V.int 10, V.int 99, V.int 5000]) := by rw [gG]; exact upd_same
        clear gG
        have lN : G6 l = _ := (t6 _ _ lO1)
        refine ⟨l, a6, _, rfl, ⟨_, _, _, lN⟩, (fun z => by rw [z, lN] at z6; exact absurd (show (3 : Nat) = 5 from congrArg List.length (HO.lst.inj (Option.some.inj z6))) (by decide)), .inl (SqL.of z6), (by show 0 < 5; decide), (by show 5 < 1000000; decide), ?_⟩
        intro vO2 xO2 yO2 zO2 hvO2
        obtain ⟨O2, gO2⟩ : ∃ G : Hp, G = upd G6 l (.lst [.int xO2, .int yO2, .int zO2]) := ⟨_, rfl⟩
        rw [← gO2]
        have lO2 : O2 l = some (.lst [.int xO2, .int yO2, .int zO2]) := by rw [gO2]; exact upd_same
        have dO2 : delH O2 l = delH G6 l := by rw [gO2]; exact delH_upd
        have hnum : ∃ n, n ∈ nums ∧ vO2 = V.int n := by
          simp only [List.mem_cons, List.not_mem_nil, or_false] at hvO2
          rcases hvO2 with rfl | rfl | rfl | rfl | rfl
          · exact ⟨_, .head _, rfl⟩
          · exact ⟨_, .tail _ (.head _), rfl⟩
          · exact ⟨_, .tail _ (.tail _ (.head _)), rfl⟩
          · exact ⟨_, .tail _ (.tail _ (.tail _ (.head _))), rfl⟩
          · exact ⟨_, .tail _ (.tail _ (.tail _ (.tail _ (.head _)))), rfl⟩
        obtain ⟨n, mn, rfl⟩ := hnum
        have hdv2 : DpX K (delH O2 l) vO1 dv := by rw [dO2]; exact DpX.same (sameD t6) hdv
        have SO2 : Same B O2 := by rw [gO2]; exact same_upd2 (SO1.trans t6) nl
        clear gO2 dO2 lN hvO2
        intro pt npt
        refine ⟨(by show 2 ≤ sizeLine; decide), ?_⟩
        intro pk npk
        have nkt : pt ≠ pk := by
          rintro rfl
          rw [upd_same] at npk
          cases npk
        refine ⟨pk, [Sum.inr "start", Sum.inr "start"], _, rfl, upd_same, (upd_ne nkt).trans upd_same, ?_⟩
        obtain ⟨T1, gT⟩ : ∃ G : Hp, G = upd (upd (upd O2 pt (.dT [])) pk (.tup [V.str "start", V.str "start"])) pt (.dT [([Sum.inr "start", Sum.inr "start"], V.int 0)]) := ⟨_, rfl⟩
        rw [← gT]
        have ST : Same O2 T1 := by
          rw [gT]
          exact same_upd2 ((same_upd npt).trans (same_upd npk)) npt
        have zT : T1 pt = some (.dT [([Sum.inr "start", Sum.inr "start"], V.int 0)]) := by rw [gT]; exact upd_same
        clear gT
        refine ⟨_, _, rfl, ?_⟩
        have lT := ST _ _ lO2
        have hdv3 : DpX K (delH T1 l) vO1 dv := DpX.same (sameD ST) hdv2
        have hT3 : DpX K (delH T1 l) (.ref pt) (.dict [(.tuple [.str "start", .str "start"], .int 0)]) := .dT (kvs := [([Sum.inr "start", Sum.inr "start"], V.int 0)]) (ds := [.int 0]) (inD zT lT (by intro q; cases q)) (.cons (.int _) .nil)
        -- rows
        refine ⟨(by show 3 ≤ sizeLine; decide), ?_⟩
        intro a7 n7 
        obtain ⟨G7, gG⟩ : ∃ G : Hp, G = upd T1 a7 (HO.tup [V.str "plain", V.str "a", V.str "start"]) := ⟨_, rfl⟩
        rw [← gG]
        have t7 : Same T1 G7 := by rw [gG]; exact same_upd n7
        have z7 : G7 a7 = some (HO.tup [V.str "plain", V.str "a", V.str "start"]) := by rw [gG]; exact upd_same
        clear gG
        refine ⟨_, rfl, Nat.zero_le _, ?_⟩
        intro a8 n8 
        obtain ⟨G8, gG⟩ : ∃ G : Hp, G = upd G7 a8 (HO.tup []) := ⟨_, rfl⟩
        rw [← gG]
        have t8 : Same G7 G8 := by rw [gG]; exact same_upd n8
        have z8 : G8 a8 = some (HO.tup []) := by rw [gG]; exact upd_same
        clear gG
        refine ⟨(by show 4 ≤ sizeLine; decide), ?_⟩
        intro a9 n9 
        obtain ⟨G9, gG⟩ : ∃ G : Hp, G = upd G8 a9 (HO.tup [V.ref a7, V.int (-1), V.str "given", V.ref a8]) := ⟨_, rfl⟩
        rw [← gG]
        have t9 : Same G8 G9 := by rw [gG]; exact same_upd n9
        have z9 : G9 a9 = some (HO.tup [V.ref a7, V.int (-1), V.str "given", V.ref a8]) := by rw [gG]; exact upd_same
        clear gG
        refine ⟨(by show 3 ≤ sizeLine; decide), ?_⟩
        intro a10 n10 
        obtain ⟨G10, gG⟩ : ∃ G : Hp, G = upd G9 a10 (HO.tup [V.str "plain", V.str "start", V.str "a"]) := ⟨_, rfl⟩
        rw [← gG]
        have t10 : Same G9 G10 := by rw [gG]; exact same_upd n10
        have z10 : G10 a10 = some (HO.tup [V.str "plain", V.str "start", V.str "a"]) := by rw [gG]; exact upd_same
        clear gG
        refine ⟨Nat.zero_le _, ?_⟩
        intro a11 n11 
        obtain ⟨G11, gG⟩ : ∃ G : Hp, G = upd G10 a11 (HO.tup []) := ⟨_, rfl⟩
        rw [← gG]
        have t11 : Same G10 G11 := by rw [gG]; exact same_upd n11
        have z11 : G11 a11 = some (HO.tup []) := by rw [gG]; exact upd_same
        clear gG
        refine ⟨(by show 4 ≤ sizeLine; decide), ?_⟩
        intro a12 n12 
        obtain ⟨G12, gG⟩ : ∃ G : Hp, G = upd G11 a12 (HO.tup [V.ref a10, V.int 0, V.str "given", V.ref a11]) := ⟨_, rfl⟩
        rw [← gG]
        have t12 : Same G11 G12 := by rw [gG]; exact same_upd n12
        have z12 : G12 a12 = some (HO.tup [V.ref a10, V.int 0, V.str "given", V.ref a11]) := by rw [gG]; exact upd_same
        clear gG
        refine ⟨(by show 2 ≤ sizeLine; decide), ?_⟩
        intro a13 n13 
        obtain ⟨G13, gG⟩ : ∃ G : Hp, G = upd G12 a13 (HO.tup [V.ref a9, V.ref a12]) := ⟨_, rfl⟩
        rw [← gG]
        have t13 : Same G12 G13 := by rw [gG]; exact same_upd n13
        have z13 : G13 a13 = some (HO.tup [V.ref a9, V.ref a12]) := by rw [gG]; exact upd_same
        clear gG
        refine ⟨_, rfl, ?_⟩
        refine ⟨(by show 1 ≤ sizeLine; decide), ?_⟩
        intro a14 n14 
        obtain ⟨G14, gG⟩ : ∃ G : Hp, G = upd G13 a14 (HO.tup [V.int 0]) := ⟨_, rfl⟩
        rw [← gG]
        have t14 : Same G13 G14 := by rw [gG]; exact same_upd n14
        have z14 : G14 a14 = some (HO.tup [V.int 0]) := by rw [gG]; exact upd_same
        clear gG
        refine ⟨(by show 2 ≤ sizeLine; decide), ?_⟩
        intro a15 n15 
        obtain ⟨G15, gG⟩ : ∃ G : Hp, G = upd G14 a15 (HO.tup [V.int 1, V.int 0]) := ⟨_, rfl⟩
        rw [← gG]
        have t15 : Same G14 G15 := by rw [gG]; exact same_upd n15
        have z15 : G15 a15 = some (HO.tup [V.int 1, V.int 0]) := by rw [gG]; exact upd_same
        clear gG
        refine ⟨(by show 3 ≤ sizeLine; decide), ?_⟩
        intro a16 n16 
        obtain ⟨G16, gG⟩ : ∃ G : Hp, G = upd G15 a16 (HO.tup [V.int 2, V.int 5, V.int 7]) := ⟨_, rfl⟩
        rw [← gG]
        have t16 : Same G15 G16 := by rw [gG]; exact same_upd n16
        have z16 : G16 a16 = some (HO.tup [V.int 2, V.int 5, V.int 7]) := by rw [gG]; exact upd_same
        clear gG
        refine ⟨_, rfl, ?_⟩
        refine ⟨(by show 2 ≤ sizeLine; decide), ?_⟩
        intro a17 n17 
        obtain ⟨G17, gG⟩ : ∃ G : Hp, G = upd G16 a17 (HO.tup [V.int 0, V.int 1]) := ⟨_, rfl⟩
        rw [← gG]
        have t17 : Same G16 G17 := by rw [gG]; exact same_upd n17
        have z17 : G17 a17 = some (HO.tup [V.int 0, V.int 1]) := by rw [gG]; exact upd_same
        clear gG
        refine ⟨(by show 3 ≤ sizeLine; decide), ?_⟩
        intro a18 n18 
        obtain ⟨G18, gG⟩ : ∃ G : Hp, G = upd G17 a18 (HO.tup [V.str "refuted", V.ref a13, V.ref a17]) := ⟨_, rfl⟩
        rw [← gG]
        have t18 : Same G17 G18 := by rw [gG]; exact same_upd n18
        have z18 : G18 a18 = some (HO.tup [V.str "refuted", V.ref a13, V.ref a17]) := by rw [gG]; exact upd_same
        clear gG
        refine ⟨_, rfl, ?_⟩
        refine ⟨(by show 2 ≤ sizeLine; decide), ?_⟩
        intro a19 n19 
        obtain ⟨G19, gG⟩ : ∃ G : Hp, G = upd G18 a19 (HO.tup [V.int 1, V.int 0]) := ⟨_, rfl⟩
        rw [← gG]
        have t19 : Same G18 G19 := by rw [gG]; exact same_upd n19
        have z19 : G19 a19 = some (HO.tup [V.int 1, V.int 0]) := by rw [gG]; exact upd_same
        clear gG
        refine ⟨(by show 3 ≤ sizeLine; decide), ?_⟩
        intro a20 n20 
        obtain ⟨G20, gG⟩ : ∃ G : Hp, G = upd G19 a20 (HO.tup [V.str "refuted", V.ref a13, V.ref a19]) := ⟨_, rfl⟩
        rw [← gG]
        have t20 : Same G19 G20 := by rw [gG]; exact same_upd n20
        have z20 : G20 a20 = some (HO.tup [V.str "refuted", V.ref a13, V.ref a19]) := by rw [gG]; exact upd_same
        clear gG
        refine ⟨(by show 5 ≤ sizeLine; decide), ?_⟩
        intro a21 n21 
        obtain ⟨G21, gG⟩ : ∃ G : Hp, G = upd G20 a21 (HO.lst [V.ref a14, V.ref a15, V.ref a16, V.ref a18, V.ref a20]) := ⟨_, rfl⟩
        rw [← gG]
        have t21 : Same G20 G21 := by rw [gG]; exact same_upd n21
        have z21 : G21 a21 = some (HO.lst [V.ref a14, V.ref a15, V.ref a16, V.ref a18, V.ref a20]) := by rw [gG]; exact upd_same
        clear gG
        have lN : G21 l = _ := (t21 _ _ (t20 _ _ (t19 _ _ (t18 _ _ (t17 _ _ (t16 _ _ (t15 _ _ (t14 _ _ (t13 _ _ (t12 _ _ (t11 _ _ (t10 _ _ (t9 _ _ (t8 _ _ (t7 _ _ lT)))))))))))))))
        refine ⟨l, a21, _, rfl, ⟨_, _, _, lN⟩, (fun z => by rw [z, lN] at z21; exact absurd (show (3 : Nat) = 5 from congrArg List.length (HO.lst.inj (Option.some.inj z21))) (by decide)), .inl (SqL.of z21), (by show 0 < 5; decide), (by show 5 < 1000000; decide), ?_⟩
        intro vO3 xO3 yO3 zO3 hvO3
        obtain ⟨O3, gO3⟩ : ∃ G : Hp, G = upd G21 l (.lst [.int xO3, .int yO3, .int zO3]) := ⟨_, rfl⟩
        rw [← gO3]
        have lO3 : O3 l = some (.lst [.int xO3, .int yO3, .int zO3]) := by rw [gO3]; exact upd_same
        have dO3 : delH O3 l = delH G21 l := by rw [gO3]; exact delH_upd
        have hrows : DpX K (delH G21 l) (.ref a13) rowsD := .tup (SqT.of (inD (t21 _ _ (t20 _ _ (t19 _ _ (t18 _ _ (t17 _ _ (t16 _ _ (t15 _ _ (t14 _ _ z13)))))))) lN (by intro q; cases q))) (.cons (.tup (SqT.of (inD (t21 _ _ (t20 _ _ (t19 _ _ (t18 _ _ (t17 _ _ (t16 _ _ (t15 _ _ (t14 _ _ (t13 _ _ (t12 _ _ (t11 _ _ (t10 _ _ z9)))))))))))) lN (by intro q; cases q))) (.cons (.tup (SqT.of (inD (t21 _ _ (t20 _ _ (t19 _ _ (t18 _ _ (t17 _ _ (t16 _ _ (t15 _ _ (t14 _ _ (t13 _ _ (t12 _ _ (t11 _ _ (t10 _ _ (t9 _ _ (t8 _ _ z7)))))))))))))) lN (by intro q; cases q))) (.cons (.str _) (.cons (.str _) (.cons (.str _) .nil)))) (.cons (.int _) (.cons (.str _) (.cons (.tup (SqT.of (inD (t21 _ _ (t20 _ _ (t19 _ _ (t18 _ _ (t17 _ _ (t16 _ _ (t15 _ _ (t14 _ _ (t13 _ _ (t12 _ _ (t11 _ _ (t10 _ _ (t9 _ _ z8))))))))))))) lN (by intro q; cases q))) .nil) .nil))))) (.cons (.tup (SqT.of (inD (t21 _ _ (t20 _ _ (t19 _ _ (t18 _ _ (t17 _ _ (t16 _ _ (t15 _ _ (t14 _ _ (t13 _ _ z12))))))))) lN (by intro q; cases q))) (.cons (.tup (SqT.of (inD (t21 _ _ (t20 _ _ (t19 _ _ (t18 _ _ (t17 _ _ (t16 _ _ (t15 _ _ (t14 _ _ (t13 _ _ (t12 _ _ (t11 _ _ z10))))))))))) lN (by intro q; cases q))) (.cons (.str _) (.cons (.str _) (.cons (.str _) .nil)))) (.cons (.int _) (.cons (.str _) (.cons (.tup (SqT.of (inD (t21 _ _ (t20 _ _ (t19 _ _ (t18 _ _ (t17 _ _ (t16 _ _ (t15 _ _ (t14 _ _ (t13 _ _ (t12 _ _ z11)))))))))) lN (by intro q; cases q))) .nil) .nil))))) .nil))
        have hpap : ∃ dp, dp ∈ papers ∧ DpX K (delH O3 l) vO3 dp := by
          rw [dO3]
          simp only [List.mem_cons, List.not_mem_nil, or_false] at hvO3
          rcases hvO3 with rfl | rfl | rfl | rfl | rfl
          · exact ⟨_, .head _, .tup (SqT.of (inD (t21 _ _ (t20 _ _ (t19 _ _ (t18 _ _ (t17 _ _ (t16 _ _ (t15 _ _ z14))))))) lN (by intro q; cases q))) (.cons (.int _) .nil)⟩
          · exact ⟨_, .tail _ (.head _), .tup (SqT.of (inD (t21 _ _ (t20 _ _ (t19 _ _ (t18 _ _ (t17 _ _ (t16 _ _ z15)))))) lN (by intro q; cases q))) (.cons (.int _) (.cons (.int _) .nil))⟩
          · exact ⟨_, .tail _ (.tail _ (.head _)), .tup (SqT.of (inD (t21 _ _ (t20 _ _ (t19 _ _ (t18 _ _ (t17 _ _ z16))))) lN (by intro q; cases q))) (.cons (.int _) (.cons (.int _) (.cons (.int _) .nil)))⟩
          · exact ⟨_, .tail _ (.tail _ (.tail _ (.head _))), .tup (SqT.of (inD (t21 _ _ (t20 _ _ (t19 _ _ z18))) lN (by intro q; cases q))) (.cons (.str _) (.cons (hrows) (.cons (.tup (SqT.of (inD (t21 _ _ (t20 _ _ (t19 _ _ (t18 _ _ z17)))) lN (by intro q; cases q))) (.cons (.int _) (.cons (.int _) .nil))) .nil)))⟩
          · exact ⟨_, .tail _ (.tail _ (.tail _ (.tail _ (.head _)))), .tup (SqT.of (inD (t21 _ _ z20) lN (by intro q; cases q))) (.cons (.str _) (.cons (hrows) (.cons (.tup (SqT.of (inD (t21 _ _ (t20 _ _ z19)) lN (by intro q; cases q))) (.cons (.int _) (.cons (.int _) .nil))) .nil)))⟩
        obtain ⟨dp, mp, hdp⟩ := hpap
        have hdv4 : DpX K (delH O3 l) vO1 dv := by rw [dO3]; exact DpX.same (sameD ((((((((((((((t7.trans t8).trans t9).trans t10).trans t11).trans t12).trans t13).trans t14).trans t15).trans t16).trans t17).trans t18).trans t19).trans t20).trans t21)) hdv3
        have hT4 : DpX K (delH O3 l) (.ref pt) (.dict [(.tuple [.str "start", .str "start"], .int 0)]) := by rw [dO3]; exact DpX.same (sameD ((((((((((((((t7.trans t8).trans t9).trans t10).trans t11).trans t12).trans t13).trans t14).trans t15).trans t16).trans t17).trans t18).trans t19).trans t20).trans t21)) hT3
        have SO3 : Same B O3 := by rw [gO3]; exact same_upd2 ((SO2.trans ST).trans ((((((((((((((t7.trans t8).trans t9).trans t10).trans t11).trans t12).trans t13).trans t14).trans t15).trans t16).trans t17).trans t18).trans t19).trans t20).trans t21)) nl
        clear gO3 dO3 lN hvO3
        refine ⟨_, rfl, _, rfl, _, rfl, _, rfl, ?_⟩
        intro a22 n22 
        obtain ⟨G22, gG⟩ : ∃ G : Hp, G = upd O3 a22 (HO.dK []) := ⟨_, rfl⟩
        rw [← gG]
        have t22 : Same O3 G22 := by rw [gG]; exact same_upd n22
        have z22 : G22 a22 = some (HO.dK []) := by rw [gG]; exact upd_same
        clear gG
        intro a23 n23
        refine ⟨upd_same, ([(Sum.inr "start", V.int 0)] : List (Key × V)), rfl, by decide, ?_⟩
        obtain ⟨G23, gG⟩ : ∃ G : Hp, G = upd (upd G22 a23 (.dK [])) a23 (.dK [(Sum.inr "start", V.int 0)]) := ⟨_, rfl⟩
        have t23 : Same G22 G23 := by rw [gG]; exact same_upd2 (same_upd n23) n23
        have z23 : G23 a23 = some (HO.dK [(Sum.inr "start", V.int 0)]) := by rw [gG]; exact upd_same
        have eG : upd (upd G22 a23 (.dK [])) a23 (.dK (mergeK [] [(Sum.inr "start", V.int 0)])) = G23 := gG.symm
        rw [eG]
        clear gG eG
        refine ⟨(by show 4 ≤ sizeLine; decide), ?_⟩
        intro a24 n24 
        obtain ⟨G24, gG⟩ : ∃ G : Hp, G = upd G23 a24 (HO.tup [V.str "table", V.ref pt, V.ref a22, V.ref a23]) := ⟨_, rfl⟩
        rw [← gG]
        have t24 : Same G23 G24 := by rw [gG]; exact same_upd n24
        have z24 : G24 a24 = some (HO.tup [V.str "table", V.ref pt, V.ref a22, V.ref a23]) := by rw [gG]; exact upd_same
        clear gG
        have up : Same (delH O3 l) G24 := delH_le.trans ((t22.trans t23).trans t24)
        have htab : DpX K G24 (.ref a24) tableD := .tup (SqT.of z24) (.cons (.str _) (.cons (DpX.same up hT4) (.cons (.dK (kvs := []) (ds := []) (t24 _ _ (t23 _ _ z22)) .nil) (.cons (.dK (kvs := [(Sum.inr "start", V.int 0)]) (ds := [.int 0]) (t24 _ _ z23) (.cons (.int _) .nil)) .nil))))
        refine ⟨vO1, vO3, .ref a24, n, dv, dp, tableD, rfl, DpX.same up hdv4, DpX.same up hdp, htab, good_of mv mn mp, fun W1 sW1 => ⟨_, rfl, iteF ?_⟩⟩
        refine ⟨_, rfl, _, rfl, fun W2 sW2 => ⟨_, rfl, iteF ?_⟩⟩
        exact ⟨_, _, _, _, _, _, _, _, rfl, sB.trans (((SO3.trans ((t22.trans t23).trans t24)).trans sW1).trans sW2)⟩
end
end K00

set_option Elab.async false
set_option linter.all false
set_option maxRecDepth 100000
set_option maxHeartbeats 4000000
namespace K00
open PySem PySem.Spec PyProof.Rows L2 LW LX PySem.LXC
open PySem.W (Frag)
/-! ### what the top has written, asked all at once -/
def bnames : List String := ["ValueError", "IndexError", "KeyError", "OverflowError", "ArithmeticError", "RuntimeError", "LookupError"]
def tabB (K : Frag) (cs : List Addr) : Bool := (List.range 19).all fun i => ((List.range 19).all fun j => PySem.W.kitOne K (.ref (cs.getD i 0)) (.ref (cs.getD j 0)) == some (tbl i j)) &&
  (List.range 7).all fun j => PySem.W.kitOne K (.ref (cs.getD i 0)) (.type (bnames.getD j "")) == some (tbl i (19 + j))
def hasB (K : Frag) (C : Addr) : Bool := (PySem.W.clsIn K C).isSome && (decide (PySem.W.findIn K (.ref C) "__getattribute__" = some (some (.builtin "BaseException.__getattribute__"))) && (decide (PySem.W.findIn K (.ref C) "__getattr__" = some none) &&
  (decide (PySem.W.subIn K (.ref C) (.type "BaseException") = some true) && (PySem.W.hasDictIn K C && (decide (PySem.W.findIn K (.ref C) "__class__" = some (some (.builtin "object.__class__"))) && decide (PySem.W.mroIn K C (.type "object") = some true))))))
theorem has_of {K : Frag} {C : Addr} (h : hasB K C = true) : XHas K C := by
  unfold hasB at h
  obtain ⟨h1, h⟩ := Bool.and_eq_true_iff.mp h
  obtain ⟨h2, h⟩ := Bool.and_eq_true_iff.mp h
  obtain ⟨h3, h⟩ := Bool.and_eq_true_iff.mp h
  obtain ⟨h4, h⟩ := Bool.and_eq_true_iff.mp h
  obtain ⟨h5, h⟩ := Bool.and_eq_true_iff.mp h
  obtain ⟨h6, h7⟩ := Bool.and_eq_true_iff.mp h
  exact ⟨h1, of_decide_eq_true h2, of_decide_eq_true h3, of_decide_eq_true h4, h5, of_decide_eq_true h6, of_decide_eq_true h7⟩
def allHas (K : Frag) (cs : List Addr) : Bool := (List.range 19).all fun i => hasB K (cs.getD i 0) && PySem.W.keepIn K (.ref (cs.getD i 0))
def allExc (K : Frag) (cs : List Addr) : Bool := (List.range 13).all fun i => PySem.W.excIn K (cs.getD i 0) veMro "ValueError.__new__"
def iniB (K : Frag) (C fI : Addr) (fld : Str) (bm : List Value) (newId : String) : Bool := PySem.W.excInitIn K C bm newId && (PySem.W.excOver K C bm && (decide (PySem.W.findIn K (.ref C) "__setattr__" = some (some (.builtin "object.__setattr__"))) && (decide (PySem.W.takerIn K C fld = some none) &&
  (PySem.W.hasDictIn K C && (decide (PySem.W.findIn K (.ref C) fld = some none) && (decide (PySem.W.findIn K (.ref C) "__init__" = some (some (.ref fI))) && (decide (PySem.W.typeIn K (.ref fI) = some (.type "function")) && PySem.W.keepIn K (.ref C))))))))
theorem ini_of {K : Frag} {mg : Str → Option Value} {x fld : Str} {C fI : Addr} {bm : List Value} {newId : String} (g : mg x = some (.ref C)) (h : iniB K C fI fld bm newId = true) : XCls K mg x fld C fI bm newId := by
  unfold iniB at h
  obtain ⟨h1, h⟩ := Bool.and_eq_true_iff.mp h
  obtain ⟨h2, h⟩ := Bool.and_eq_true_iff.mp h
  obtain ⟨h3, h⟩ := Bool.and_eq_true_iff.mp h
  obtain ⟨h4, h⟩ := Bool.and_eq_true_iff.mp h
  obtain ⟨h5, h⟩ := Bool.and_eq_true_iff.mp h
  obtain ⟨h6, h⟩ := Bool.and_eq_true_iff.mp h
  obtain ⟨h7, h⟩ := Bool.and_eq_true_iff.mp h
  obtain ⟨h8, h9⟩ := Bool.and_eq_true_iff.mp h
  exact ⟨g, h1, h2, of_decide_eq_true h3, of_decide_eq_true h4, h5, of_decide_eq_true h6, of_decide_eq_true h7, of_decide_eq_true h8, h9⟩
theorem tab_of {K : Frag} {cs : List Addr} (h : tabB K cs = true) (i j : Nat) (hi : i < 19) (hj : j < 19) : PySem.W.kitOne K (.ref (cs.getD i 0)) (.ref (cs.getD j 0)) = some (tbl i j) := by
  have q := List.all_eq_true.mp h i (List.mem_range.mpr hi)
  obtain ⟨q1, _⟩ := Bool.and_eq_true_iff.mp q
  exact beq_iff_eq.mp (List.all_eq_true.mp q1 j (List.mem_range.mpr hj))
theorem tabT_of {K : Frag} {cs : List Addr} (h : tabB K cs = true) (i j : Nat) (hi : i < 19) (hj : j < 7) : PySem.W.kitOne K (.ref (cs.getD i 0)) (.type (bnames.getD j "")) = some (tbl i (19 + j)) := by
  have q := List.all_eq_true.mp h i (List.mem_range.mpr hi)
  obtain ⟨_, q2⟩ := Bool.and_eq_true_iff.mp q
  exact beq_iff_eq.mp (List.all_eq_true.mp q2 j (List.mem_range.mpr hj))
theorem ok_of {K : Frag} {cs : List Addr} (h : allHas K cs = true) (i : Nat) (hi : i < 19) : XHas K (cs.getD i 0) ∧ PySem.W.keepIn K (.ref (cs.getD i 0)) = true := by
  obtain ⟨q1, q2⟩ := Bool.and_eq_true_iff.mp (List.all_eq_true.mp h i (List.mem_range.mpr hi))
  exact ⟨has_of q1, q2⟩
theorem exc_of {K : Frag} {cs : List Addr} (h : allExc K cs = true) (i : Nat) (hi : i < 13) : PySem.W.excIn K (cs.getD i 0) veMro "ValueError.__new__" = true := List.all_eq_true.mp h i (List.mem_range.mpr hi)
abbrev mro13 : List Value := [.type "IndexError", .type "LookupError", .type "Exception", .type "BaseException", .type "object"]
theorem mk13 {P : Program} {w : World} {K : Frag} {mg : Str → Option Value} {x qual : Str} {C fI : Addr} (T : XCls K mg x "value" C fI mro13 "IndexError.__new__") (J : XIni K "value" qual fI) : XMk P w K "value" C :=
  ⟨"IndexError", _, _, _, mro13, fI, PySem.F.excBase_IndexError, ⟨by decide +kernel, by decide +kernel, by decide +kernel⟩, T.made, T.iC, T.tI, fun A R s e t0 v X lim he room hq => ini_value PySem.F.store_IndexError T J X lim he room hq⟩
abbrev mro14 : List Value := keMro
theorem mk14 {P : Program} {w : World} {K : Frag} {mg : Str → Option Value} {x qual : Str} {C fI : Addr} (T : XCls K mg x "name" C fI mro14 "LookupError.__new__") (J : XIni K "name" qual fI) : XMk P w K "name" C :=
  ⟨"LookupError", _, _, _, mro14, fI, PySem.F.excBase_LookupError, ⟨by decide +kernel, by decide +kernel, by decide +kernel⟩, T.made, T.iC, T.tI, fun A R s e t0 v X lim he room hq => ini_name keStore T J X lim he room hq⟩
abbrev mro15 : List Value := [.type "OverflowError", .type "ArithmeticError", .type "Exception", .type "BaseException", .type "object"]
theorem mk15 {P : Program} {w : World} {K : Frag} {mg : Str → Option Value} {x qual : Str} {C fI : Addr} (T : XCls K mg x "limit" C fI mro15 "OverflowError.__new__") (J : XIni K "limit" qual fI) : XMk P w K "limit" C :=
  ⟨"OverflowError", _, _, _, mro15, fI, PySem.F.excBase_OverflowError, ⟨by decide +kernel, by decide +kernel, by decide +kernel⟩, T.made, T.iC, T.tI, fun A R s e t0 v X lim he room hq => ini_limit PySem.F.store_OverflowError T J X lim he room hq⟩
abbrev mro16 : List Value := [.type "ArithmeticError", .type "Exception", .type "BaseException", .type "object"]
theorem mk16 {P : Program} {w : World} {K : Frag} {mg : Str → Option Value} {x qual : Str} {C fI : Addr} (T : XCls K mg x "paper" C fI mro16 "ArithmeticError.__new__") (J : XIni K "paper" qual fI) : XMk P w K "paper" C :=
  ⟨"ArithmeticError", _, _, _, mro16, fI, PySem.F.excBase_ArithmeticError, ⟨by decide +kernel, by decide +kernel, by decide +kernel⟩, T.made, T.iC, T.tI, fun A R s e t0 v X lim he room hq => ini_paper PySem.F.store_ArithmeticError T J X lim he room hq⟩
abbrev mro17 : List Value := [.type "RuntimeError", .type "Exception", .type "BaseException", .type "object"]
theorem mk17 {P : Program} {w : World} {K : Frag} {mg : Str → Option Value} {x qual : Str} {C fI : Addr} (T : XCls K mg x "paper" C fI mro17 "RuntimeError.__new__") (J : XIni K "paper" qual fI) : XMk P w K "paper" C :=
  ⟨"RuntimeError", _, _, _, mro17, fI, PySem.F.excBase_RuntimeError, ⟨by decide +kernel, by decide +kernel, by decide +kernel⟩, T.made, T.iC, T.tI, fun A R s e t0 v X lim he room hq => ini_paper PySem.F.store_RuntimeError T J X lim he room hq⟩
abbrev mro18 : List Value := [.type "LookupError", .type "Exception", .type "BaseException", .type "object"]
theorem mk18 {P : Program} {w : World} {K : Frag} {mg : Str → Option Value} {x qual : Str} {C fI : Addr} (T : XCls K mg x "many" C fI mro18 "LookupError.__new__") (J : XIni K "many" qual fI) : XMk P w K "many" C :=
  ⟨"LookupError", _, _, _, mro18, fI, PySem.F.excBase_LookupError, ⟨by decide +kernel, by decide +kernel, by decide +kernel⟩, T.made, T.iC, T.tI, fun A R s e t0 v X lim he room hq => ini_many PySem.F.store_LookupError T J X lim he room hq⟩
theorem all_mk {P : Program} {w : World} {K : Frag} {h : Heap} {mg : Str → Option Value} {fa : Addr} (X : K.In h) (G : h.Ns mainGlobals mg) (hfa : mg "law" = some (.ref fa))
    {C0 C1 C2 C3 C4 C5 C6 C7 C8 C9 C10 C11 C12 C13 C14 C15 C16 C17 C18 fS fD fP fK fO fB fM fV fL I13 I14 I15 I16 I17 I18 : Addr} {odS anS : Option Addr} {slS : Array (Option Value)} {ocS kvS dcS pmS cdS ctS : Value} {odD anD : Option Addr} {slD : Array (Option Value)} {ocD kvD dcD pmD cdD ctD : Value} {odP anP : Option Addr} {slP : Array (Option Value)} {ocP kvP dcP pmP cdP ctP : Value} {odK anK : Option Addr} {slK : Array (Option Value)} {ocK kvK dcK pmK cdK ctK : Value} {odO anO : Option Addr} {slO : Array (Option Value)} {ocO kvO dcO pmO cdO ctO : Value} {odB anB : Option Addr} {slB : Array (Option Value)} {ocB kvB dcB pmB cdB ctB : Value} {odM anM : Option Addr} {slM : Array (Option Value)} {ocM kvM dcM pmM cdM ctM : Value} {odV anV : Option Addr} {slV : Array (Option Value)} {ocV kvV dcV pmV cdV ctV : Value} {odL anL : Option Addr} {slL : Array (Option Value)} {ocL kvL dcL pmL cdL ctL : Value} {od13 an13 : Option Addr} {sl13 : Array (Option Value)} {oc13 kv13 dc13 pm13 cd13 ct13 : Value} {pa13 pb13 qa13 qb13 qc13 qd13 : Pos} {od14 an14 : Option Addr} {sl14 : Array (Option Value)} {oc14 kv14 dc14 pm14 cd14 ct14 : Value} {pa14 pb14 qa14 qb14 qc14 qd14 : Pos} {od15 an15 : Option Addr} {sl15 : Array (Option Value)} {oc15 kv15 dc15 pm15 cd15 ct15 : Value} {pa15 pb15 qa15 qb15 qc15 qd15 : Pos} {od16 an16 : Option Addr} {sl16 : Array (Option Value)} {oc16 kv16 dc16 pm16 cd16 ct16 : Value} {pa16 pb16 qa16 qb16 qc16 qd16 : Pos} {od17 an17 : Option Addr} {sl17 : Array (Option Value)} {oc17 kv17 dc17 pm17 cd17 ct17 : Value} {pa17 pb17 qa17 qb17 qc17 qd17 : Pos} {od18 an18 : Option Addr} {sl18 : Array (Option Value)} {oc18 kv18 dc18 pm18 cd18 ct18 : Value} {pa18 pb18 qa18 qb18 qc18 qd18 : Pos}
    (aC0 : PySem.W.nsIn K mainGlobals "PlanError" = some (some (.ref C0)))
    (aC1 : PySem.W.nsIn K mainGlobals "InvalidArcs" = some (some (.ref C1)))
    (aC2 : PySem.W.nsIn K mainGlobals "InvalidPlan" = some (some (.ref C2)))
    (aC3 : PySem.W.nsIn K mainGlobals "InvalidDurations" = some (some (.ref C3)))
    (aC4 : PySem.W.nsIn K mainGlobals "InvalidTimes" = some (some (.ref C4)))
    (aC5 : PySem.W.nsIn K mainGlobals "InvalidRun" = some (some (.ref C5)))
    (aC6 : PySem.W.nsIn K mainGlobals "InvalidPolicy" = some (some (.ref C6)))
    (aC7 : PySem.W.nsIn K mainGlobals "InvalidTable" = some (some (.ref C7)))
    (aC8 : PySem.W.nsIn K mainGlobals "InvalidTask" = some (some (.ref C8)))
    (aC9 : PySem.W.nsIn K mainGlobals "InvalidOperation" = some (some (.ref C9)))
    (aC10 : PySem.W.nsIn K mainGlobals "InvalidEdit" = some (some (.ref C10)))
    (aC11 : PySem.W.nsIn K mainGlobals "ParseError" = some (some (.ref C11)))
    (aC12 : PySem.W.nsIn K mainGlobals "InvalidCommand" = some (some (.ref C12)))
    (aC13 : PySem.W.nsIn K mainGlobals "InvalidNumber" = some (some (.ref C13)))
    (aC14 : PySem.W.nsIn K mainGlobals "UnknownName" = some (some (.ref C14)))
    (aC15 : PySem.W.nsIn K mainGlobals "TooMany" = some (some (.ref C15)))
    (aC16 : PySem.W.nsIn K mainGlobals "Refuted" = some (some (.ref C16)))
    (aC17 : PySem.W.nsIn K mainGlobals "Driven" = some (some (.ref C17)))
    (aC18 : PySem.W.nsIn K mainGlobals "NothingToUndo" = some (some (.ref C18)))
    (aS : PySem.W.nsIn K mainGlobals "_law_stream" = some (some (.ref fS)))
    (lS : K.lookup fS = some ⟨ocS, odS, .func (PySem.W.fnOf "_law_stream" "_law_stream" (defArgs sStream) (defBody sStream) (defScope sStream) .none kvS dcS pmS anS cdS ctS), slS⟩)
    (cS : PySem.W.codeIn K cdS "_law_stream" = true)
    (kS : PySem.W.keepIn K (.ref fS) = true)
    (aD : PySem.W.nsIn K mainGlobals "_law_draw" = some (some (.ref fD)))
    (lD : K.lookup fD = some ⟨ocD, odD, .func (PySem.W.fnOf "_law_draw" "_law_draw" (defArgs sDraw) (defBody sDraw) (defScope sDraw) .none kvD dcD pmD anD cdD ctD), slD⟩)
    (cD : PySem.W.codeIn K cdD "_law_draw" = true)
    (kD : PySem.W.keepIn K (.ref fD) = true)
    (aP : PySem.W.nsIn K mainGlobals "_law_pick" = some (some (.ref fP)))
    (lP : K.lookup fP = some ⟨ocP, odP, .func (PySem.W.fnOf "_law_pick" "_law_pick" (defArgs sPick) (defBody sPick) (defScope sPick) .none kvP dcP pmP anP cdP ctP), slP⟩)
    (cP : PySem.W.codeIn K cdP "_law_pick" = true)
    (kP : PySem.W.keepIn K (.ref fP) = true)
    (aK : PySem.W.nsIn K mainGlobals "_law_kinds" = some (some (.ref fK)))
    (lK : K.lookup fK = some ⟨ocK, odK, .func (PySem.W.fnOf "_law_kinds" "_law_kinds" (defArgs sKinds) (defBody sKinds) (defScope sKinds) .none kvK dcK pmK anK cdK ctK), slK⟩)
    (cK : PySem.W.codeIn K cdK "_law_kinds" = true)
    (kK : PySem.W.keepIn K (.ref fK) = true)
    (aO : PySem.W.nsIn K mainGlobals "_law_others" = some (some (.ref fO)))
    (lO : K.lookup fO = some ⟨ocO, odO, .func (PySem.W.fnOf "_law_others" "_law_others" (defArgs sOthers) (defBody sOthers) (defScope sOthers) .none kvO dcO pmO anO cdO ctO), slO⟩)
    (cO : PySem.W.codeIn K cdO "_law_others" = true)
    (kO : PySem.W.keepIn K (.ref fO) = true)
    (aB : PySem.W.nsIn K mainGlobals "_law_bases" = some (some (.ref fB)))
    (lB : K.lookup fB = some ⟨ocB, odB, .func (PySem.W.fnOf "_law_bases" "_law_bases" (defArgs sBases) (defBody sBases) (defScope sBases) .none kvB dcB pmB anB cdB ctB), slB⟩)
    (cB : PySem.W.codeIn K cdB "_law_bases" = true)
    (kB : PySem.W.keepIn K (.ref fB) = true)
    (aM : PySem.W.nsIn K mainGlobals "_law_messages_right" = some (some (.ref fM)))
    (lM : K.lookup fM = some ⟨ocM, odM, .func (PySem.W.fnOf "_law_messages_right" "_law_messages_right" (defArgs sMsg) (defBody sMsg) (defScope sMsg) .none kvM dcM pmM anM cdM ctM), slM⟩)
    (cM : PySem.W.codeIn K cdM "_law_messages_right" = true)
    (kM : PySem.W.keepIn K (.ref fM) = true)
    (aV : PySem.W.nsIn K mainGlobals "_law_values_right" = some (some (.ref fV)))
    (lV : K.lookup fV = some ⟨ocV, odV, .func (PySem.W.fnOf "_law_values_right" "_law_values_right" (defArgs sVal) (defBody sVal) (defScope sVal) .none kvV dcV pmV anV cdV ctV), slV⟩)
    (cV : PySem.W.codeIn K cdV "_law_values_right" = true)
    (kV : PySem.W.keepIn K (.ref fV) = true)
    (aL : PySem.W.nsIn K mainGlobals "law" = some (some (.ref fL)))
    (lL : K.lookup fL = some ⟨ocL, odL, .func (PySem.W.fnOf "law" "law" (defArgs sLaw) (defBody sLaw) (defScope sLaw) .none kvL dcL pmL anL cdL ctL), slL⟩)
    (cL : PySem.W.codeIn K cdL "law" = true)
    (kL : PySem.W.keepIn K (.ref fL) = true)
    (i13 : PySem.W.findIn K (.ref C13) "__init__" = some (some (.ref I13)))
    (l13 : K.lookup I13 = some ⟨oc13, od13, .func (PySem.W.fnOf "__init__" "InvalidNumber.__init__" (iArg "value" pa13 pb13) (iBod "value" qa13 qb13 qc13 qd13) (iScp "value") .none kv13 dc13 pm13 an13 cd13 ct13), sl13⟩)
    (c13 : PySem.W.codeIn K cd13 "InvalidNumber.__init__" = true)
    (j13 : iniB K C13 I13 "value" mro13 "IndexError.__new__" = true)
    (i14 : PySem.W.findIn K (.ref C14) "__init__" = some (some (.ref I14)))
    (l14 : K.lookup I14 = some ⟨oc14, od14, .func (PySem.W.fnOf "__init__" "UnknownName.__init__" (iArg "name" pa14 pb14) (iBod "name" qa14 qb14 qc14 qd14) (iScp "name") .none kv14 dc14 pm14 an14 cd14 ct14), sl14⟩)
    (c14 : PySem.W.codeIn K cd14 "UnknownName.__init__" = true)
    (j14 : iniB K C14 I14 "name" mro14 "LookupError.__new__" = true)
    (i15 : PySem.W.findIn K (.ref C15) "__init__" = some (some (.ref I15)))
    (l15 : K.lookup I15 = some ⟨oc15, od15, .func (PySem.W.fnOf "__init__" "TooMany.__init__" (iArg "limit" pa15 pb15) (iBod "limit" qa15 qb15 qc15 qd15) (iScp "limit") .none kv15 dc15 pm15 an15 cd15 ct15), sl15⟩)
    (c15 : PySem.W.codeIn K cd15 "TooMany.__init__" = true)
    (j15 : iniB K C15 I15 "limit" mro15 "OverflowError.__new__" = true)
    (i16 : PySem.W.findIn K (.ref C16) "__init__" = some (some (.ref I16)))
    (l16 : K.lookup I16 = some ⟨oc16, od16, .func (PySem.W.fnOf "__init__" "Refuted.__init__" (iArg "paper" pa16 pb16) (iBod "paper" qa16 qb16 qc16 qd16) (iScp "paper") .none kv16 dc16 pm16 an16 cd16 ct16), sl16⟩)
    (c16 : PySem.W.codeIn K cd16 "Refuted.__init__" = true)
    (j16 : iniB K C16 I16 "paper" mro16 "ArithmeticError.__new__" = true)
    (i17 : PySem.W.findIn K (.ref C17) "__init__" = some (some (.ref I17)))
    (l17 : K.lookup I17 = some ⟨oc17, od17, .func (PySem.W.fnOf "__init__" "Driven.__init__" (iArg "paper" pa17 pb17) (iBod "paper" qa17 qb17 qc17 qd17) (iScp "paper") .none kv17 dc17 pm17 an17 cd17 ct17), sl17⟩)
    (c17 : PySem.W.codeIn K cd17 "Driven.__init__" = true)
    (j17 : iniB K C17 I17 "paper" mro17 "RuntimeError.__new__" = true)
    (i18 : PySem.W.findIn K (.ref C18) "__init__" = some (some (.ref I18)))
    (l18 : K.lookup I18 = some ⟨oc18, od18, .func (PySem.W.fnOf "__init__" "NothingToUndo.__init__" (iArg "many" pa18 pb18) (iBod "many" qa18 qb18 qc18 qd18) (iScp "many") .none kv18 dc18 pm18 an18 cd18 ct18), sl18⟩)
    (c18 : PySem.W.codeIn K cd18 "NothingToUndo.__init__" = true)
    (j18 : iniB K C18 I18 "many" mro18 "LookupError.__new__" = true)
    (z0 : PySem.W.nsIn K mainGlobals "len" = some none)
    (z1 : PySem.W.nsIn K mainGlobals "int" = some none)
    (z2 : PySem.W.nsIn K mainGlobals "abs" = some none)
    (z3 : PySem.W.nsIn K mainGlobals "max" = some none)
    (z4 : PySem.W.nsIn K mainGlobals "min" = some none)
    (z5 : PySem.W.nsIn K mainGlobals "isinstance" = some none)
    (z6 : PySem.W.nsIn K mainGlobals "enumerate" = some none)
    (z7 : PySem.W.nsIn K mainGlobals "range" = some none)
    (z8 : PySem.W.nsIn K mainGlobals "repr" = some none)
    (z9 : PySem.W.nsIn K mainGlobals "ValueError" = some none)
    (z10 : PySem.W.nsIn K mainGlobals "IndexError" = some none)
    (z11 : PySem.W.nsIn K mainGlobals "KeyError" = some none)
    (z12 : PySem.W.nsIn K mainGlobals "OverflowError" = some none)
    (z13 : PySem.W.nsIn K mainGlobals "ArithmeticError" = some none)
    (z14 : PySem.W.nsIn K mainGlobals "RuntimeError" = some none)
    (z15 : PySem.W.nsIn K mainGlobals "LookupError" = some none)
    (hn : PySem.W.specialIn K (.builtin "object.__class__") "__get__" = some (some (.builtin "getset_descriptor.__get__")))
    (ht : PySem.W.takesIn K (.builtin "object.__class__") = some true)
    (t1 : tabB K [C0, C1, C2, C3, C4, C5, C6, C7, C8, C9, C10, C11, C12, C13, C14, C15, C16, C17, C18] = true)
    (t2 : allHas K [C0, C1, C2, C3, C4, C5, C6, C7, C8, C9, C10, C11, C12, C13, C14, C15, C16, C17, C18] = true)
    (t3 : allExc K [C0, C1, C2, C3, C4, C5, C6, C7, C8, C9, C10, C11, C12, C13, C14, C15, C16, C17, C18] = true)
    : ∃ fd : FuncData, (∀ (s : Shared) (v : Value), BindsTo s fd ⟨[v], []⟩ [("script", v)]) ∧ ∀ base : Heap, K.In base → base.Ns mainGlobals mg → FnG P w K mg base CX0 4 fa fd ["script"] (spLaw K) := by
  have e := hfa.symm.trans (PySem.W.mg_of X G aL)
  cases e
  have T : TxtX K mg (fun i => ([C0, C1, C2, C3, C4, C5, C6, C7, C8, C9, C10, C11, C12, C13, C14, C15, C16, C17, C18] : List Addr).getD i 0) := ⟨PySem.W.mg_of X G aC0, PySem.W.mg_of X G aC1, PySem.W.mg_of X G aC2, PySem.W.mg_of X G aC3, PySem.W.mg_of X G aC4, PySem.W.mg_of X G aC5, PySem.W.mg_of X G aC6, PySem.W.mg_of X G aC7, PySem.W.mg_of X G aC8, PySem.W.mg_of X G aC9, PySem.W.mg_of X G aC10, PySem.W.mg_of X G aC11, PySem.W.mg_of X G aC12, PySem.W.mg_of X G aC13, PySem.W.mg_of X G aC14, PySem.W.mg_of X G aC15, PySem.W.mg_of X G aC16, PySem.W.mg_of X G aC17, PySem.W.mg_of X G aC18, PySem.W.mg_none_of X G z9, PySem.W.mg_none_of X G z10, PySem.W.mg_none_of X G z11, PySem.W.mg_none_of X G z12, PySem.W.mg_none_of X G z13, PySem.W.mg_none_of X G z14, PySem.W.mg_none_of X G z15, PySem.W.mg_none_of X G z5, PySem.W.mg_none_of X G z6, PySem.W.mg_none_of X G z7, PySem.W.mg_none_of X G z8, ⟨hn, ht⟩, fun i j => tab_of t1 i j, fun i hi => tabT_of t1 i 0 hi (by decide), fun i hi => tabT_of t1 i 1 hi (by decide), fun i hi => tabT_of t1 i 2 hi (by decide), fun i hi => tabT_of t1 i 3 hi (by decide), fun i hi => tabT_of t1 i 4 hi (by decide), fun i hi => tabT_of t1 i 5 hi (by decide), fun i hi => tabT_of t1 i 6 hi (by decide), fun i hi => (ok_of t2 i hi).1, fun i hi => exc_of t3 i hi, fun i hi => (ok_of t2 i hi).2⟩
  have M : XMks P w K (fun i => ([C0, C1, C2, C3, C4, C5, C6, C7, C8, C9, C10, C11, C12, C13, C14, C15, C16, C17, C18] : List Addr).getD i 0) := ⟨mk13 (ini_of (PySem.W.mg_of X G aC13) j13) ⟨_, _, _, _, _, _, _, _, _, _, _, _, _, _, _, l13, c13⟩, (ini_of (mg := mg) (x := "InvalidNumber") (PySem.W.mg_of X G aC13) j13).no, mk14 (ini_of (PySem.W.mg_of X G aC14) j14) ⟨_, _, _, _, _, _, _, _, _, _, _, _, _, _, _, l14, c14⟩, (ini_of (mg := mg) (x := "UnknownName") (PySem.W.mg_of X G aC14) j14).no, mk15 (ini_of (PySem.W.mg_of X G aC15) j15) ⟨_, _, _, _, _, _, _, _, _, _, _, _, _, _, _, l15, c15⟩, (ini_of (mg := mg) (x := "TooMany") (PySem.W.mg_of X G aC15) j15).no, mk16 (ini_of (PySem.W.mg_of X G aC16) j16) ⟨_, _, _, _, _, _, _, _, _, _, _, _, _, _, _, l16, c16⟩, (ini_of (mg := mg) (x := "Refuted") (PySem.W.mg_of X G aC16) j16).no, mk17 (ini_of (PySem.W.mg_of X G aC17) j17) ⟨_, _, _, _, _, _, _, _, _, _, _, _, _, _, _, l17, c17⟩, (ini_of (mg := mg) (x := "Driven") (PySem.W.mg_of X G aC17) j17).no, mk18 (ini_of (PySem.W.mg_of X G aC18) j18) ⟨_, _, _, _, _, _, _, _, _, _, _, _, _, _, _, l18, c18⟩, (ini_of (mg := mg) (x := "NothingToUndo") (PySem.W.mg_of X G aC18) j18).no⟩
  have B : TxtB mg := ⟨PySem.W.mg_none_of X G z0, PySem.W.mg_none_of X G z1, PySem.W.mg_none_of X G z2, PySem.W.mg_none_of X G z3⟩
  have FS := fun_mk (st := sStream) lS cS kS
  have bS := FS.binds (ps := ["script", "at"]) fun _ _ _ _ _ _ us hl => match us, hl with | [_, _], _ => rfl
  have FD := fun_mk (st := sDraw) lD cD kD
  have bD := FD.binds (ps := ["stream", "total"]) fun _ _ _ _ _ _ us hl => match us, hl with | [_, _], _ => rfl
  have FP := fun_mk (st := sPick) lP cP kP
  have bP := FP.binds (ps := ["stream", "items"]) fun _ _ _ _ _ _ us hl => match us, hl with | [_, _], _ => rfl
  have FK := fun_mk (st := sKinds) lK cK kK
  have bK := FK.binds (ps := ["error"]) fun _ _ _ _ _ _ us hl => match us, hl with | [_], _ => rfl
  have FO := fun_mk (st := sOthers) lO cO kO
  have bO := FO.binds (ps := ["error"]) fun _ _ _ _ _ _ us hl => match us, hl with | [_], _ => rfl
  have FB := fun_mk (st := sBases) lB cB kB
  have bB := FB.binds (ps := ["error"]) fun _ _ _ _ _ _ us hl => match us, hl with | [_], _ => rfl
  have FM := fun_mk (st := sMsg) lM cM kM
  have bM := FM.binds (ps := ["text"]) fun _ _ _ _ _ _ us hl => match us, hl with | [_], _ => rfl
  have FV := fun_mk (st := sVal) lV cV kV
  have bV := FV.binds (ps := ["value", "number", "paper", "table"]) fun _ _ _ _ _ _ us hl => match us, hl with | [_, _, _, _], _ => rfl
  have FL := fun_mk (st := sLaw) lL cL kL
  refine ⟨PySem.W.fnOf "law" "law" (defArgs sLaw) (defBody sLaw) (defScope sLaw) .none kvL dcL pmL anL cdL ctL, fun s v => .of_eq rfl, fun base _ _ => ?_⟩
  have D : TxtD K mg fD _ := ⟨PySem.W.mg_of X G aD, kD, bD⟩
  have R : TxtR K mg fK fO fB _ _ _ := ⟨PySem.W.mg_of X G aK, kK, bK, PySem.W.mg_of X G aO, kO, bO, PySem.W.mg_of X G aB, kB, bB⟩
  have L : TxtL K mg fS fP fV fM _ _ _ _ := ⟨PySem.W.mg_of X G aS, kS, bS, PySem.W.mg_of X G aP, kP, bP, PySem.W.mg_of X G aV, kV, bV, PySem.W.mg_of X G aM, kM, bM, PySem.W.mg_none_of X G z0, PySem.W.mg_none_of X G z3, PySem.W.mg_none_of X G z4, PySem.W.mg_none_of X G z7⟩
  have GS := ok_stream (P := P) (w := w) (base := base) FS B
  have GD := ok_draw (P := P) (w := w) (base := base) FD B
  have GP := ok_pick FP B GD D
  have GK := ok_law_kinds (P := P) (w := w) (base := base) FK T
  have GO := ok_law_others (P := P) (w := w) (base := base) FO T
  have GB := ok_law_bases (P := P) (w := w) (base := base) FB T
  exact ok_law FL L D GS GD GP (ok_val FV T M R GK GO GB) (ok_msg FM T R GK GO GB)
end K00

set_option Elab.async false
open PySem PySem.W PyProof.Rows in
set_option maxRecDepth 100000 in
set_option maxHeartbeats 0 in
theorem PySem.Challenge.cw_heardlate_k00_errors_holds : PySem.Challenge.rw_heardlate_k00_errors.Holds := by
  w_on; o_law; k_head; (case hw => w_witness2)
  k_fill
  refine LW.walk_ofG (l := PySem.Challenge.rw_heardlate_k00_errors) (n := 63) (k := 4) (x := "script") (sp := K00.spLaw) rfl (by decide) rfl ⟨rfl, by decide, by decide⟩ (fun w h Y => PySem.W.kIn_of Y) ?F ?S
  case F =>
    intro w mg fa h KX G hmg
    refine' K00.all_mk KX G hmg ?aC0 ?aC1 ?aC2 ?aC3 ?aC4 ?aC5 ?aC6 ?aC7 ?aC8 ?aC9 ?aC10 ?aC11 ?aC12 ?aC13 ?aC14 ?aC15 ?aC16 ?aC17 ?aC18 ?aS ?lS ?cS ?kS ?aD ?lD ?cD ?kD ?aP ?lP ?cP ?kP ?aK ?lK ?cK ?kK ?aO ?lO ?cO ?kO ?aB ?lB ?cB ?kB ?aM ?lM ?cM ?kM ?aV ?lV ?cV ?kV ?aL ?lL ?cL ?kL ?i13 ?l13 ?c13 ?j13 ?i14 ?l14 ?c14 ?j14 ?i15 ?l15 ?c15 ?j15 ?i16 ?l16 ?c16 ?j16 ?i17 ?l17 ?c17 ?j17 ?i18 ?l18 ?c18 ?j18 ?z0 ?z1 ?z2 ?z3 ?z4 ?z5 ?z6 ?z7 ?z8 ?z9 ?z10 ?z11 ?z12 ?z13 ?z14 ?z15 ?hn ?ht ?t1 ?t2 ?t3
    (case aC0 => k_is)
    (case aC1 => k_is)
    (case aC2 => k_is)
    (case aC3 => k_is)
    (case aC4 => k_is)
    (case aC5 => k_is)
    (case aC6 => k_is)
    (case aC7 => k_is)
    (case aC8 => k_is)
    (case aC9 => k_is)
    (case aC10 => k_is)
    (case aC11 => k_is)
    (case aC12 => k_is)
    (case aC13 => k_is)
    (case aC14 => k_is)
    (case aC15 => k_is)
    (case aC16 => k_is)
    (case aC17 => k_is)
    (case aC18 => k_is)
    (case aS => k_is)
    (case lS => k_is)
    (case cS => k_is)
    (case kS => k_is)
    (case aD => k_is)
    (case lD => k_is)
    (case cD => k_is)
    (case kD => k_is)
    (case aP => k_is)
    (case lP => k_is)
    (case cP => k_is)
    (case kP => k_is)
    (case aK => k_is)
    (case lK => k_is)
    (case cK => k_is)
    (case kK => k_is)
    (case aO => k_is)
    (case lO => k_is)
    (case cO => k_is)
    (case kO => k_is)
    (case aB => k_is)
    (case lB => k_is)
    (case cB => k_is)
    (case kB => k_is)
    (case aM => k_is)
    (case lM => k_is)
    (case cM => k_is)
    (case kM => k_is)
    (case aV => k_is)
    (case lV => k_is)
    (case cV => k_is)
    (case kV => k_is)
    (case aL => k_is)
    (case lL => k_is)
    (case cL => k_is)
    (case kL => k_is)
    (case i13 => k_is)
    (case l13 => k_is)
    (case c13 => k_is)
    (case j13 => kernel_rfl)
    (case i14 => k_is)
    (case l14 => k_is)
    (case c14 => k_is)
    (case j14 => kernel_rfl)
    (case i15 => k_is)
    (case l15 => k_is)
    (case c15 => k_is)
    (case j15 => kernel_rfl)
    (case i16 => k_is)
    (case l16 => k_is)
    (case c16 => k_is)
    (case j16 => kernel_rfl)
    (case i17 => k_is)
    (case l17 => k_is)
    (case c17 => k_is)
    (case j17 => kernel_rfl)
    (case i18 => k_is)
    (case l18 => k_is)
    (case c18 => k_is)
    (case j18 => kernel_rfl)
    (case z0 => k_is)
    (case z1 => k_is)
    (case z2 => k_is)
    (case z3 => k_is)
    (case z4 => k_is)
    (case z5 => k_is)
    (case z6 => k_is)
    (case z7 => k_is)
    (case z8 => k_is)
    (case z9 => k_is)
    (case z10 => k_is)
    (case z11 => k_is)
    (case z12 => k_is)
    (case z13 => k_is)
    (case z14 => k_is)
    (case z15 => k_is)
    (case hn => k_is)
    (case ht => k_is)
    (case t1 => kernel_rfl)
    (case t2 => kernel_rfl)
    (case t3 => kernel_rfl)
  case S =>
    intro K H a ns hl hO hS
    exact ⟨a, ns, rfl, hS, hl, fun _ => rfl⟩

