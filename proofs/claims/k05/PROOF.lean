import PyProof.Rows.All
import Wide.All
import OpenK.AllK
import Wide.FinOn
import HandS.ForMost
import HandS.IsInst
import HandS.ExcValue
import HandS.ExcIs
import HandS.Small
import HandS.Dict
import KE.KDictDisplayH
import HandS.Walk
import HandS.TupAny
import HandS.Words
import HandS.Zip
import HandS.WordsExc
import HandS.Style
import PyProof.StrLawsRepr
import PyProof.ReprLen
import PyProof.FitsInt
import PyProof.Draws
import PyProof.EnumMake
import KE.GoesMore
import HandS.Base
import HandS.Call
import HandS.List
import HandS.Iter
import HandS.Text
import HandS.NoneIn
import PyProof.P3In
import HandS.Property
import HandS.MakeKwOnly
import HandS.ClsMeth
import OpenK.KOps
import KE.KCallOwn
import PyProof.InstEq
import PyProof.EqAt
import PyProof.EqKinds
import PyProof.TupleCall
import KE.SortData
import HandS.Comp
import HandS.Set
import HandS.SetBool
import HandS.Strs
import HandS.SetFor
import PyProof.Rows.SetFrom
import HandS.Nested
import KE.DatumOrd
import HandS.DictComp
import HandS.TupSets
import HandS.FStr
import HandS.RaiseMore
import KE.KDictPairs
import HandS.OwnEq
import KE.DataCmp
import PySem.Challenge.RW_heardlate_k05_plans_made
set_option Elab.async false
set_option linter.all false
set_option maxRecDepth 100000
set_option maxHeartbeats 2000000
namespace LW
open PySem PySem.Spec PyProof.Rows L2
/-! ### powers of great ints -/
theorem op_powW {X : Cx} : OpR X (binaryOp .Pow) (rI (fun i j => 0 ≤ j ∧ (Builtin.Int.intBits i : Int) * j ≤ 2 ^ 27) fun i j => .int (i ^ j.toNat)) :=
  opI fun _ _ _ _ _ _ _ hc q => pow_int hc.1 hc.2 q
/-! ### repr of data without dicts -/
def rReprD (K : PySem.W.Frag) : List V → Hp → VK → Prop := fun xs H Q => ∃ a d, xs = [.ref a] ∧ Dp K H (.ref a) d ∧ d.showable = true ∧ d.hasDict = false ∧ d.depth ≤ 60 ∧ d.shown.length ≤ sizeLine ∧ Q (.str d.shown) H
theorem call_reprD {X : Cx} (hg : X.A.guards = some []) (hu : X.A.units + 64 < cLine) : CallR X (.builtin "repr") (rReprD X.K) := by
  intro pins s σ H xs us Q I r h
  obtain ⟨a, d, rfl, hd, hs, hn, hz, hl, q⟩ := h
  obtain rfl := Vals.ref1 r
  obtain ⟨as, rd⟩ := Dp.reads I d _ _ hd (show RelV (.ref a) (.ref a) from rfl)
  exact repr_of_reads' rd hs (PyData.noDict_hsm hn) hg (by omega) (fun _ _ e => e) (fun h' u tk hk => ⟨.str d.shown, H, I.kept (t' := tk) hk, ⟨_, rfl⟩, q⟩) hl
/-! ### defs that may be called where no repr is under way -/
structure FnG (P : Program) (w : World) (K : PySem.W.Frag) (mg : Str → Option Value) (base : Heap) (CX : CXT) (k : Nat) (f : Addr) (fd : FuncData) (ps : List Str) (sp : Sp) : Prop where
  len : ∀ vs H Q E, sp vs H Q E → vs.length = ps.length
  run : ∀ (A : Around) (outer : List Env) (s : Shared) (H : Hp) (args : Args) (us : List Value) (vs : List V) (Q : VK) (E : XK), A.guards = some [] → Room k A → Env0 P w K mg base A outer s H → BindsTo s fd args (ps.zip us) → Vals vs us → sp vs H Q E →
    codeAny (model P w) A (.call (.ref f) args) (CR CX outer P w H s Q E) s
theorem FnG.of {P : Program} {w : World} {K : PySem.W.Frag} {mg : Str → Option Value} {base : Heap} {CX : CXT} {k : Nat} {f : Addr} {fd : FuncData} {ps : List Str} {sp : Sp} (F : FnOk P w K mg base CX k f fd ps sp) :
    FnG P w K mg base CX k f fd ps sp := ⟨F.len, fun A outer s H args us vs Q E _ => F.run A outer s H args us vs Q E⟩
section
variable {X : Cx} {CX : CXT} {k : Nat} {f C : Addr} {fd : FuncData} {ps : List Str} {sp : Sp} {dvs : List V} {ds : List Value} {E : XK} {x m : Str} {p pos apos : Pos} {e o : Expr} {es : List Expr} {ta : TE} {t : TA}
theorem run_fnG {pins : List (Addr × Obj)} {σ : L2.St} {H : Hp} {s : Shared} {Q : VK} {us : List Value} {vs : List V} (F : FnG X.prog X.w X.K X.mg X.base CX k f fd ps sp) (hgd : X.A.guards = some []) (hr : Room k X.A) (hb : Binds X.K fd ps ds) (hd : Vals dvs ds) (hx : Passes CX X E)
    (I : Inv X pins σ H s) (r : Vals vs us) (h : sp (vs ++ dvs) H Q E) : wpAny (model X.prog X.w) X.A (call (.ref f) us) (EP X pins σ Q) X.xe s := by
  have r2 : Vals (vs ++ dvs) (us ++ ds) := r.append hd
  have hl : (us ++ ds).length = ps.length := by rw [← r2.length]; exact F.len _ _ _ _ h
  refine wpAny_call (codeAny_mono (F.run X.A X.stack s H ⟨us, []⟩ (us ++ ds) (vs ++ dvs) Q E hgd hr I.env0 (hb s us I.kIn hl) r2 h) fun r s' hq => ?_)
  cases r with
  | error e => exact hx pins σ H s e s' I hq
  | ok fl =>
    cases fl with
    | ret u => exact I.after hq
    | next => exact False.elim hq
    | brk => exact False.elim hq
    | cont => exact False.elim hq
theorem pe_callG (F : FnG X.prog X.w X.K X.mg X.base CX k f fd ps sp) (hgd : X.A.guards = some []) (hr : Room k X.A) (hg : Gl X x) (hm : X.mg x = some (.ref f)) (hk : PySem.W.keepIn X.K (.ref f) = true) (hb : Binds X.K fd ps ds) (hd : Vals dvs ds) (hx : Passes CX X E)
    (ha : PA X (e :: es) t) (hdb : (x == ("__debug__" : Str)) = false := by decide) (he : starEach (e :: es) X.env = (false, eval e X.env) :: starEach es X.env := by rfl) (hpl : (backTo pos (starEach es X.env)).any (·.1) = false := by rfl) :
    PE X (.Call (.Name x p) (e :: es) [] pos) (tCall sp dvs E t) := by
  refine ⟨fun pins s σ H Q I h => ?_⟩
  refine wpAny_Call_Name_kw (ld_glob I hg hm ?_ hdb)
  refine PySem.W.callWith_K (h₀ := X.base) I.ok.mod.kin hk (thn (ha.run pos pins s σ H _ I h) fun us s1 ⟨vs, H1, I1, r, q⟩ => ⟨I1.kIn, ?_⟩) he hpl
  exact run_fnG F hgd hr hb hd hx I1 r q
end
/-- THE RULE for a def that shows things: as Fun.ok, with the word that no repr is under way -/
theorem okG {P : Program} {w : World} {K : PySem.W.Frag} {mg : Str → Option Value} {base : Heap} {x qual : Str} {st : Stmt} {f : Addr} {fd : FuncData} {N ps : List Str} {k : Nat} {sp : Sp}
    (F : Fun K x qual st f fd) (S : FnScope N ps (defScope st)) (len : ∀ vs H Q E, sp vs H Q E → vs.length = ps.length)
    (hbody : ∀ (cdv : Value) (A : Around) (outer : List Env) (s : Shared) (H : Hp) (vs : List V) (Q : VK) (E : XK),
      (A.deeper (envOfC qual (defScope st) s.heap.objs.size f cdv)).guards = some [] → Room k (A.deeper (envOfC qual (defScope st) s.heap.objs.size f cdv)) → sp vs H Q E →
        ∃ t, PSs (cxOf CX0 P w K mg base N qual (defScope st) f cdv A outer s H E).nox (defBody st) t ∧ t { nx := fun _ H' => Q .non H', rt := Q } (start N vs) H) :
    FnG P w K mg base CX0 (k + 1) f fd ps sp := by
  obtain ⟨oc, od, kV, doc, pm, an, cdv, ct, osl, rfl, lk, hcd⟩ := F.ex
  constructor
  · exact len
  · intro A outer s H args us vs Q E gd room env0 bnd rel prom
    have inK : K.In s.heap := env0.mod.kin.keeps fun a u q => (env0.bs a u q).1
    have noLim : s.heap.NoLimit := env0.mod.nolimit.keeps fun a u q => (env0.bs a u q).1
    have count := len vs H Q E prom
    have kinds : ∀ y ∈ ps.zip us, (defScope st).names.lookup y.1 = some .local ∨ ((defScope st).names.lookup y.1 = some .cell ∧
        ((cellsFrom (s.heap.objs.size + 1) (defScope st).names []).lookup y.1).isSome = true) := by
      rintro ⟨y, u⟩ mem
      cases S.par y (List.of_mem_zip mem).1 with
      | inl q => exact Or.inl q
      | inr q => exact Or.inr ⟨q, PySem.W.cellsFrom_some _ _ _ (Or.inl q)⟩
    apply codeAny_call_function room.depth (inK _ _ lk) rfl S.co S.gen rfl (PySem.W.codeRec_of inK hcd)
    apply bnd
    apply wpAny_newFunctionEnv_cells S.kind kinds
    intro env henv s1 ic
    subst henv
    refine And.intro (noLim.keeps ic.toInCall.keep) (codeAny_func ?_)
    obtain ⟨t, body, goal⟩ := hbody cdv A outer s H vs Q E gd (room.deeper _) prom
    have inv := inv_start (CX := CX0) (P := P) (w := w) (K := K) (mg := mg) (base := base) (f := f) (E := E) S room.hd env0 count rel ic
    apply wpAny_mono (body.nox.run [] s1 (start N vs) H _ inv goal)
    · intro fl s2 said
      cases fl with
      | ret u =>
        obtain ⟨v, σ2, H2, J, rv, q⟩ := said
        exact ⟨v, H2, J.os, J.bare, J.base, J.hok, rv, q⟩
      | next =>
        obtain ⟨σ2, H2, J, q⟩ := said
        exact ⟨V.non, H2, J.os, J.bare, J.base, J.hok, rfl, q⟩
      | brk =>
        obtain ⟨_, _, _, q⟩ := said
        exact q.elim
      | cont =>
        obtain ⟨_, _, _, q⟩ := said
        exact q.elim
    · intro e s2 said
      exact said
/-! ### the law's own call, where no repr is under way -/
theorem caller_clear (env : Env) : (callerA.deeper env).guards = some [] := rfl
/-- the law's call from the abstract heap H of the script -/
theorem law_goes {P : Program} {w : World} {K : PySem.W.Frag} {mg mb : Str → Option Value} {k : Nat} {fa a : Addr} {fd : FuncData} {x : Str} {sp : Sp} {s₁ : Shared} {ns : List Int}
    (KX : K.In s₁.heap) (gns : s₁.heap.Ns mainGlobals mg) (bns : s₁.heap.Ns builtinsNs mb) (boot : ∀ y : Str, y ≠ "__name__" → mb y = bootBuiltins y) (lim : s₁.heap.NoLimit) (gens : s₁.gens = #[]) (room : Room k callerA)
    (F : ∀ base : Heap, K.In base → base.Ns mainGlobals mg → FnG P w K mg base CX0 k fa fd [x] sp) (bnd : ∀ (s : Shared) (u : Value), BindsTo s fd ⟨[u], []⟩ [(x, u)])
    (H : Hp) (hOnly : Only H) (hS : SqL K H a (ns.map V.int)) (hok : HOk P w H s₁.heap) (noK : ∀ b, H b ≠ none → K.lookup b = none) (noD : ∀ b o es ep, s₁.heap.get? b = some o → o.data = .dict es ep → H b = none)
    (prom : sp [.ref a] H (fun v _ => v = .bl true) fun _ _ _ => False) :
    codeAny (model P w) callerA (.call (.ref fa) ⟨[.ref a], []⟩) (fun r s' => r = .ok (.ret (.bool true)) ∧ OldK s₁.heap s'.heap ∧ s'.os = s₁.os ∧ AllBare s'.gens) s₁ := by
  have shown : ∀ {b : Addr} {m : Str → Option Value}, s₁.heap.Ns b m → (hidT s₁.heap H).Ns b m := by
    rintro b m ⟨o, es, ep, e, d, r⟩
    exact ⟨o, es, ep, hidT_get e (noD b o es ep e d), d, r⟩
  have inB : K.In (hidT s₁.heap H) := by
    intro b o e
    refine hidT_get (KX b o e) ?_
    by_cases q : H b = none
    · exact q
    · rw [noK b q] at e
      cases e
  have gB := shown gns
  have modB : Mod K mg (hidT s₁.heap H) := ⟨inB, gB, ⟨mb, shown bns, boot⟩, by
    obtain ⟨mc, c1, c2⟩ := lim
    exact ⟨mc, shown c1, c2⟩⟩
  have start0 : Env0 P w K mg (hidT s₁.heap H) callerA [] s₁ H := by
    refine ⟨rfl, modB, fun b o e => of_hidT e, Nat.le_of_eq (hidT_size _ _), trivial, fun b z => ?_, hok, .of_eq gens⟩
    exact absurd (show b ∈ ([] : List Addr) from z) List.not_mem_nil
  have ran := (F _ inB gB).run callerA [] s₁ H ⟨[.ref a], []⟩ [.ref a] [.ref a] _ _ rfl room start0 (bnd s₁ (.ref a)) (.cons rfl .nil) prom
  apply codeAny_mono ran
  intro r s' said
  match r, said with
  | .error e, said => exact False.elim said
  | .ok .next, said => exact False.elim said
  | .ok .brk, said => exact False.elim said
  | .ok .cont, said => exact False.elim said
  | .ok (.ret u), said =>
    obtain ⟨v, H', os, bare, un, hok', rel, fin⟩ := said
    have fin' : v = .bl true := fin
    subst fin'
    have eu : u = Value.bool true := rel
    subst eu
    refine ⟨rfl, OldK.of_keep ?_, os, bare⟩
    intro b o e
    rcases hOnly b with z | ⟨ob, xs, z⟩
    · exact un.keep b o e z (fun q => absurd (show b ∈ ([] : List Addr) from q) List.not_mem_nil) List.not_mem_nil
    · obtain ⟨e1, _⟩ := hok b _ z
      obtain ⟨e2, _⟩ := hok' b _ (un.frzs b ob _ z)
      rw [e1] at e
      cases e
      exact e2
/-- the same, from the script as it lies -/
theorem law_callG {P : Program} {w : World} {K : PySem.W.Frag} {mg mb : Str → Option Value} {k : Nat} {fa a : Addr} {fd : FuncData} {x : Str} {sp : Sp} {s₁ : Shared} {vs : List Value} {ns : List Int}
    (KX : K.In s₁.heap) (gns : s₁.heap.Ns mainGlobals mg) (bns : s₁.heap.Ns builtinsNs mb) (boot : ∀ y : Str, y ≠ "__name__" → mb y = bootBuiltins y) (lim : s₁.heap.NoLimit) (gens : s₁.gens = #[]) (room : Room k callerA)
    (F : ∀ base : Heap, K.In base → base.Ns mainGlobals mg → FnG P w K mg base CX0 k fa fd [x] sp) (bnd : ∀ (s : Shared) (u : Value), BindsTo s fd ⟨[u], []⟩ [(x, u)])
    (lies : s₁.heap.get? a = some { cls := .type "list", data := .seq vs.toArray }) (whole : IntsAre vs ns) (short : ns.length ≤ sizeLine)
    (prom : ∀ H : Hp, Only H → SqL K H a (ns.map V.int) → sp [.ref a] H (fun v _ => v = .bl true) fun _ _ _ => False) :
    codeAny (model P w) callerA (.call (.ref fa) ⟨[.ref a], []⟩) (fun r s' => r = .ok (.ret (.bool true)) ∧ OldK s₁.heap s'.heap ∧ s'.os = s₁.os ∧ AllBare s'.gens) s₁ := by
  have rel := vals_ints whole
  have size := whole.length
  cases kept : K.lookup a with
  | some o =>
    have e := KX a o kept
    rw [lies] at e
    cases e
    have hS : SqL K (fun _ => none) a (ns.map V.int) := .inr ⟨_, vs.toArray, _, kept, rfl, rfl, rfl, by rw [List.size_toArray, size]; exact short, by simpa using rel⟩
    exact law_goes KX gns bns boot lim gens room F bnd (fun _ => none) (fun _ => .inl rfl) hS (fun b u z => nomatch z) (fun b z => absurd rfl z) (fun _ _ _ _ _ _ => rfl) (prom _ (fun _ => .inl rfl) hS)
  | none =>
    let o0 : Obj := { cls := .type "list", data := .seq vs.toArray }
    let H : Hp := fun b => if b = a then some (.frz o0 (.lst (ns.map V.int))) else none
    have Ha : H a = some (.frz o0 (.lst (ns.map V.int))) := if_pos rfl
    have Hn : ∀ b, b ≠ a → H b = none := fun b q => if_neg q
    have hS : SqL K H a (ns.map V.int) := .inl (.inr ⟨o0, Ha⟩)
    have hOnly : Only H := fun b => by
      by_cases q : b = a
      · exact .inr ⟨o0, _, by rw [q]; exact Ha⟩
      · exact .inl (Hn b q)
    refine law_goes KX gns bns boot lim gens room F bnd H hOnly hS ?_ ?_ ?_ (prom H hOnly hS)
    · intro b u z
      by_cases q : b = a
      · subst q
        rw [Ha] at z
        cases z
        exact ⟨lies, by rw [List.length_map]; exact short, vs, _, rel, lies⟩
      · rw [Hn b q] at z
        cases z
    · intro b z
      by_cases q : b = a
      · rw [q]
        exact kept
      · exact absurd (Hn b q) z
    · intro b o es ep e d
      by_cases q : b = a
      · rw [q, lies] at e
        cases e
        cases d
      · exact Hn b q
/-- the goal that k_head leaves, from the law's promise -/
theorem walk_ofG {l : PySem.W.OpenLaw} {n k : Nat} {q : Program} {loose : List Str} {XP : (Str → Option Value) → Heap → Prop} {YP : World → Heap → Prop} {d : DefRec} {K : Params → PySem.W.Frag} {sp : PySem.W.Frag → Sp} {x : Str}
    (most : l.most = some n) (fits : n ≤ sizeLine) (plain : d.params.defaults = []) (room : Room k callerA)
    (hY : ∀ (w : World) (h : Heap), YP w h → (K w.params).In h)
    (F : ∀ (w : World) (mg : Str → Option Value) (fa : Addr) (h : Heap), (K w.params).In h → h.Ns mainGlobals mg → mg d.name = some (.ref fa) →
      ∃ fd : FuncData, (∀ (s : Shared) (u : Value), BindsTo s fd ⟨[u], []⟩ [(x, u)]) ∧
        ∀ base : Heap, (K w.params).In base → base.Ns mainGlobals mg → FnG l.prog w (K w.params) mg base CX0 k fa fd [x] (sp (K w.params)))
    (prom : ∀ (K : PySem.W.Frag) (H : Hp) (a : Addr) (ns : List Int), ns.length ≤ n → Only H → SqL K H a (ns.map V.int) → sp K [.ref a] H (fun v _ => v = .bl true) fun _ _ _ => False) :
    PySem.W.WalkO q loose XP YP l.row.toRowW d [] (fun f vs => PySem.call f vs) := by
  apply Att.attach_call most plain
  intro w s₀ s₁ mg mb fa o pm cd doc a vs ns G Y ho hd hcd hmg hobj hints hlen hgens
  have KX := hY w _ Y
  obtain ⟨fd, bnd, all⟩ := F w mg fa _ KX G.T.g hmg
  exact law_callG KX G.T.g G.T.b G.T.builtins G.T.nolimit hgens room all bnd hobj hints (Nat.le_trans hlen fits) fun H only lies => prom _ H a ns hlen only lies
end LW

set_option Elab.async false
set_option linter.all false
set_option maxRecDepth 100000
set_option maxHeartbeats 4000000
namespace LW
open PySem PySem.Spec PyProof.Rows L2
/-- a key as data -/
def keyD : Key → PyData
  | .inl i => .int i
  | .inr x => .str x
mutual
/-- data at any depth, dicts too -/
inductive DpX (K : PySem.W.Frag) (H : Hp) : V → PyData → Prop
  | non : DpX K H .non .none
  | bl (b : Bool) : DpX K H (.bl b) (.bool b)
  | int (i : Int) : DpX K H (.int i) (.int i)
  | str (x : Str) : DpX K H (.str x) (.str x)
  | lst {a : Addr} {xs : List V} {ds : List PyData} : a ≠ sysModules → SqL K H a xs → DpXAll K H xs ds → DpX K H (.ref a) (.list ds)
  | tup {a : Addr} {xs : List V} {ds : List PyData} : SqT K H a xs → DpXAll K H xs ds → DpX K H (.ref a) (.tuple ds)
  | dK {a : Addr} {kvs : List (Key × V)} {ds : List PyData} : H a = some (.dK kvs) → DpXAll K H (kvs.map (·.2)) ds → DpX K H (.ref a) (.dict ((kvs.map fun p => keyD p.1).zip ds))
  | dT {a : Addr} {kvs : List (List Key × V)} {ds : List PyData} : H a = some (.dT kvs) → DpXAll K H (kvs.map (·.2)) ds → DpX K H (.ref a) (.dict ((kvs.map fun p => PyData.tuple (p.1.map keyD)).zip ds))
inductive DpXAll (K : PySem.W.Frag) (H : Hp) : List V → List PyData → Prop
  | nil : DpXAll K H [] []
  | cons {v : V} {vs : List V} {d : PyData} {ds : List PyData} : DpX K H v d → DpXAll K H vs ds → DpXAll K H (v :: vs) (d :: ds)
end
theorem DpXAll.len {K : PySem.W.Frag} {H : Hp} : ∀ {vs : List V} {ds : List PyData}, DpXAll K H vs ds → vs.length = ds.length
  | _, _, .nil => rfl
  | _, _, .cons _ t => by simp [DpXAll.len t]
theorem zip_fst {α β : Type} : ∀ {xs : List α} {ys : List β}, xs.length = ys.length → (xs.zip ys).map (·.1) = xs
  | [], [], _ => rfl
  | x :: xs, y :: ys, h => by
    have h' : xs.length = ys.length := by simpa using h
    simp [zip_fst h']
theorem zip_snd {α β : Type} : ∀ {xs : List α} {ys : List β}, xs.length = ys.length → (xs.zip ys).map (·.2) = ys
  | [], [], _ => rfl
  | x :: xs, y :: ys, h => by
    have h' : xs.length = ys.length := by simpa using h
    simp [zip_snd h']
section
variable {X : Cx} {pins : List (Addr × Obj)} {σ : L2.St} {H : Hp} {s : Shared}
theorem keyReads {h : Heap} {k : Key} {v : Value} (q : keyIs k v = true) : Reads h v (keyD k) [] := by
  rcases keyIs_shape q with ⟨i, t, rfl, rfl⟩ | ⟨x, t, rfl, rfl⟩
  · exact Reads.int i t
  · exact Reads.str x t
theorem keysRead {h : Heap} {P : Program} {w : World} : ∀ {es : List DictEntry} {vs : List (Key × Value)}, PySem.Pairs (mixKind P w) es vs → ReadsAll h (es.map (·.key)) (vs.map fun p => keyD p.1) []
  | _, _, .nil => ReadsAll.nil
  | _, _, .cons q _ t => ReadsAll.cons (as := []) (keyReads q) (keysRead t)
theorem pairsVals {P : Program} {w : World} : ∀ {es : List DictEntry} {vs : List (Key × Value)}, PySem.Pairs (mixKind P w) es vs → es.map (·.val) = vs.map (·.2)
  | _, _, .nil => rfl
  | _, _, .cons _ q t => by simp [q, pairsVals t]
theorem kvFst {κ : Type} : ∀ {kvs : List (κ × V)} {vs : List (κ × Value)}, KV kvs vs → kvs.map (·.1) = vs.map (·.1)
  | _, _, .nil => rfl
  | _, _, .cons q t => by simp [q.1, kvFst t]
theorem kvSnd {κ : Type} : ∀ {kvs : List (κ × V)} {vs : List (κ × Value)}, KV kvs vs → Vals (kvs.map (·.2)) (vs.map (·.2))
  | _, _, .nil => .nil
  | _, _, .cons q t => .cons q.2 (kvSnd t)
theorem keysV {h : Heap} : ∀ (k : List Key) (its : List Value), Vals (k.map kV) its → ReadsAll h its (k.map keyD) []
  | [], _, .nil => ReadsAll.nil
  | .inl i :: r, _, .cons q t => by
    obtain ⟨tk, rfl⟩ := q
    exact ReadsAll.cons (as := []) (Reads.int i tk) (keysV r _ t)
  | .inr x :: r, _, .cons q t => by
    obtain ⟨tk, rfl⟩ := q
    exact ReadsAll.cons (as := []) (Reads.str x tk) (keysV r _ t)
theorem tupKeys (I : Inv X pins σ H s) : ∀ {kvs : List (List Key × V)} {xs : List (List Key × Addr × Value)},
    Paired (fun (p : List Key × V) (q : List Key × Addr × Value) => p.1 = q.1 ∧ H q.2.1 = some (.tup (p.1.map kV)) ∧ RelV p.2 q.2.2) kvs xs →
    ReadsAll s.heap (xs.map fun q => Value.ref q.2.1) (kvs.map fun p => PyData.tuple (p.1.map keyD)) [] ∧ Vals (kvs.map (·.2)) (xs.map fun q => q.2.2)
  | _, _, .nil => ⟨ReadsAll.nil, .nil⟩
  | _, _, .cons q t => by
    obtain ⟨h1, h2⟩ := tupKeys I t
    obtain ⟨q1, q2, q3⟩ := q
    obtain ⟨its, rv, ⟨o, ho, hc, n, hd⟩, _⟩ := I.tuple (SqT.of q2)
    exact ⟨ReadsAll.cons (as := []) (Reads.tuple ho hc hd (keysV _ _ rv)) h1, .cons q3 h2⟩
mutual
theorem DpX.reads (I : Inv X pins σ H s) : ∀ {v : V} {d : PyData}, DpX X.K H v d → ∀ u, RelV v u → ∃ as, Reads s.heap u d as ∧ sysModules ∉ as
  | _, _, .non, u, r => by
    cases r
    exact ⟨[], Reads.none, List.not_mem_nil⟩
  | _, _, .bl b, u, r => by
    cases r
    exact ⟨[], Reads.bool b, List.not_mem_nil⟩
  | _, _, .int i, u, r => by
    obtain ⟨t, rfl⟩ := r
    exact ⟨[], Reads.int i t, List.not_mem_nil⟩
  | _, _, .str x, u, r => by
    obtain ⟨t, rfl⟩ := r
    exact ⟨[], Reads.str x t, List.not_mem_nil⟩
  | _, _, .lst ns hs ha, u, r => by
    cases r
    obtain ⟨its, rv, ⟨o, n, ho, hc, _, hd⟩, _⟩ := I.list hs
    obtain ⟨as, hr, hn⟩ := DpXAll.reads I ha its rv
    exact ⟨_, Reads.list ho hc hd hr, fun q => (List.mem_cons.mp q).elim (fun e => ns e.symm) hn⟩
  | _, _, .tup hs ha, u, r => by
    cases r
    obtain ⟨its, rv, ⟨o, ho, hc, n, hd⟩, _⟩ := I.tuple hs
    obtain ⟨as, hr, hn⟩ := DpXAll.reads I ha its rv
    exact ⟨_, Reads.tuple ho hc hd hr, hn⟩
  | _, _, .dK (a := a) (kvs := kvs) (ds := ds) h ha, u, r => by
    cases r
    have ok := I.hok a _ h
    obtain ⟨hz, hS, vs, rkv, o, es, ep, h1, hex, hd, _, pairs, _⟩ := (show kvs.length ≤ sizeLine ∧ (a == sysModules) = false ∧ ∃ vs, KV kvs vs ∧ s.heap.DictOf (mixKind X.prog X.w) a vs from ok)
    have lens := ha.len
    obtain ⟨as, hr, hn⟩ := DpXAll.reads I ha (vs.map (·.2)) (kvSnd rkv)
    have e1 : (kvs.map fun p => keyD p.1) = vs.map fun p => keyD p.1 := by
      have q := congrArg (List.map keyD) (kvFst rkv)
      simpa [List.map_map, Function.comp_def] using q
    refine ⟨a :: [] ++ as, Reads.dict h1 hex.1 hd ?_ ?_, ?_⟩
    · rw [zip_fst (by simpa using lens), e1]
      exact keysRead pairs
    · rw [zip_snd (by simpa using lens), pairsVals pairs]
      exact hr
    · intro q
      rcases List.mem_cons.mp q with e | q
      · exact beq_eq_false_iff_ne.mp hS e.symm
      · exact hn (by simpa using q)
  | _, _, .dT (a := a) (kvs := kvs) (ds := ds) h ha, u, r => by
    cases r
    have ok := I.hok a _ h
    obtain ⟨hz, hS, xs, prd, o, es, ep, h1, hex, hd, hes, _⟩ := (show kvs.length ≤ sizeLine ∧ (a == sysModules) = false ∧ ∃ xs : List (List Key × Addr × Value),
      Paired (fun (p : List Key × V) (q : List Key × Addr × Value) => p.1 = q.1 ∧ H q.2.1 = some (.tup (p.1.map kV)) ∧ RelV p.2 q.2.2) kvs xs ∧
      ∃ o es ep, s.heap.get? a = some o ∧ o.ExactDict ∧ o.data = .dict es ep ∧ es.toList = xs.map (entryOfKey (tupleKind (mixKind X.prog X.w))) ∧ (xs.map (·.1)).Nodup from ok)
    have lens := ha.len
    obtain ⟨k1, k2⟩ := tupKeys I prd
    obtain ⟨as, hr, hn⟩ := DpXAll.reads I ha _ k2
    refine ⟨a :: [] ++ as, Reads.dict h1 hex.1 hd ?_ ?_, ?_⟩
    · rw [zip_fst (by simpa using lens), hes]
      simpa [List.map_map, Function.comp_def, entryOfKey] using k1
    · rw [zip_snd (by simpa using lens), hes]
      simpa [List.map_map, Function.comp_def, entryOfKey] using hr
    · intro q
      rcases List.mem_cons.mp q with e | q
      · exact beq_eq_false_iff_ne.mp hS e.symm
      · exact hn (by simpa using q)
theorem DpXAll.reads (I : Inv X pins σ H s) : ∀ {vs : List V} {ds : List PyData}, DpXAll X.K H vs ds → ∀ us, Vals vs us → ∃ as, ReadsAll s.heap us ds as ∧ sysModules ∉ as
  | _, _, .nil, us, r => by
    cases r
    exact ⟨[], ReadsAll.nil, List.not_mem_nil⟩
  | _, _, .cons h1 h2, us, r => by
    cases r with
    | cons r1 r2 =>
      obtain ⟨as, q1, n1⟩ := DpX.reads I h1 _ r1
      obtain ⟨bs, q2, n2⟩ := DpXAll.reads I h2 _ r2
      exact ⟨_, ReadsAll.cons q1 q2, fun q => (List.mem_append.mp q).elim n1 n2⟩
end
end
/-! ### repr of any such data -/
def rReprX (K : PySem.W.Frag) : List V → Hp → VK → Prop := fun xs H Q => ∃ a d, xs = [.ref a] ∧ DpX K H (.ref a) d ∧ d.showable = true ∧ d.depth ≤ 60 ∧ d.shown.length ≤ sizeLine ∧ Q (.str d.shown) H
theorem call_reprX {X : Cx} (hg : X.A.guards = some []) (hu : X.A.units + 64 < cLine) : CallR X (.builtin "repr") (rReprX X.K) := by
  intro pins s σ H xs us Q I r h
  obtain ⟨a, d, rfl, hd, hs, hz, hl, q⟩ := h
  obtain rfl := Vals.ref1 r
  obtain ⟨as, rd, hn⟩ := DpX.reads I hd (.ref a) (show RelV (.ref a) (.ref a) from rfl)
  exact repr_of_reads' rd hs (fun _ => hn) hg (by omega) (fun _ _ e => e) (fun h' u tk hk => ⟨.str d.shown, H, I.kept (t' := tk) hk, ⟨_, rfl⟩, q⟩) hl
/-! ### a list by a display, with the word that it is not sys.modules -/
def tLstN (t : TA) : TE := fun σ H Q => t σ H fun xs H1 => xs.length ≤ sizeLine ∧ ∀ p, H1 p = none → p ≠ sysModules → Q (.ref p) (upd H1 p (.lst xs))
theorem pe_lstN {X : Cx} {es : List Expr} {t : TA} {pos : Pos} (h : PA X es t) : PE X (.List es pos) (tLstN t) := by
  constructor
  intro pins s σ H Q I hq
  refine wpAny_List_spliced (thn (h.run pos pins s σ H _ I hq) fun us s1 said => ?_)
  obtain ⟨xs, H1, I1, r, z, q⟩ := said
  have free := I1.hok.fresh (Nat.le_refl s1.heap.objs.size)
  refine ⟨by rw [← r.length]; exact z, .ref s1.heap.objs.size, upd H1 s1.heap.objs.size (.lst xs), ?_, rfl, q _ free (Nat.ne_of_gt I1.big)⟩
  exact I1.laid (t' := s1.toks) (fun b u e => Heap.get?_push_of_some _ e) (Nat.le_refl _) ⟨z, us, 0, r, Heap.get?_push_size _ rfl⟩
end LW

set_option Elab.async false
set_option linter.all false
set_option maxRecDepth 100000
set_option maxHeartbeats 2000000
/-! Data as values: their classes, isinstance; comprehensions whose items change nothing that is known. -/
namespace LW
open PySem PySem.Spec PyProof.Rows L2 RZ
/-- the name of a datum's class -/
def tyD : PyData → String
  | .none => "NoneType"
  | .bool _ => "bool"
  | .int _ => "int"
  | .str _ => "str"
  | .list _ => "list"
  | .tuple _ => "tuple"
  | .dict _ => "dict"
theorem sqt_ty {K : PySem.W.Frag} {H : Hp} {a : Addr} {xs : List V} (h : SqT K H a xs) : TyX K H (.ref a) (.type "tuple") := by
  rcases h with (h | ⟨o, h⟩) | ⟨o, its, n, h, c, _⟩
  · exact .base (.tup h)
  · exact .fTuple h
  · exact .kTuple h c
theorem sql_ty {K : PySem.W.Frag} {H : Hp} {a : Addr} {xs : List V} (h : SqL K H a xs) : TyX K H (.ref a) (.type "list") := by
  rcases h with (h | ⟨o, h⟩) | ⟨o, its, n, h, c, _⟩
  · exact .base (.lst h)
  · exact .base (.frz h)
  · exact .kList h c
theorem DpX.ty {K : PySem.W.Frag} {H : Hp} {v : V} {d : PyData} (h : DpX K H v d) : TyX K H v (.type (tyD d)) := by
  cases h with
  | non => exact .base .non
  | bl b => exact .base (.bl b)
  | int i => exact .base (.int i)
  | str x => exact .base (.str x)
  | lst _ s _ => exact sql_ty s
  | tup s _ => exact sqt_ty s
  | dK e _ => exact .base (.dK e)
  | dT e _ => exact .base (.dT e)
/-- isinstance(x, C) of a datum, C a built-in class -/
theorem isi_D {K : PySem.W.Frag} {H : Hp} {Q : VK} {v : V} {d : PyData} {n : String} {b : Bool} (h : DpX K H v d) (e : kitB (tyD d) n = some b) (q : Q (.bl b) H) : rIsi K [v, .ty n] H Q := ⟨v, .ty n, _, _, b, rfl, .ty n, h.ty, kit_ty e, q⟩
def isInt : PyData → Bool
  | .int _ => true
  | _ => false
def isBl : PyData → Bool
  | .bool _ => true
  | _ => false
def isStr : PyData → Bool
  | .str _ => true
  | _ => false
def isTup : PyData → Bool
  | .tuple _ => true
  | _ => false
def isDct : PyData → Bool
  | .dict _ => true
  | _ => false
theorem kit_int : ∀ d : PyData, kitB (tyD d) "int" = some (isInt d || isBl d)
  | .none => (by decide +kernel : kitB "NoneType" "int" = some false)
  | .bool _ => (by decide +kernel : kitB "bool" "int" = some true)
  | .int _ => (by decide +kernel : kitB "int" "int" = some true)
  | .str _ => (by decide +kernel : kitB "str" "int" = some false)
  | .list _ => (by decide +kernel : kitB "list" "int" = some false)
  | .tuple _ => (by decide +kernel : kitB "tuple" "int" = some false)
  | .dict _ => (by decide +kernel : kitB "dict" "int" = some false)
theorem kit_bool : ∀ d : PyData, kitB (tyD d) "bool" = some (isBl d)
  | .none => (by decide +kernel : kitB "NoneType" "bool" = some false)
  | .bool _ => (by decide +kernel : kitB "bool" "bool" = some true)
  | .int _ => (by decide +kernel : kitB "int" "bool" = some false)
  | .str _ => (by decide +kernel : kitB "str" "bool" = some false)
  | .list _ => (by decide +kernel : kitB "list" "bool" = some false)
  | .tuple _ => (by decide +kernel : kitB "tuple" "bool" = some false)
  | .dict _ => (by decide +kernel : kitB "dict" "bool" = some false)
theorem kit_str : ∀ d : PyData, kitB (tyD d) "str" = some (isStr d)
  | .none => (by decide +kernel : kitB "NoneType" "str" = some false)
  | .bool _ => (by decide +kernel : kitB "bool" "str" = some false)
  | .int _ => (by decide +kernel : kitB "int" "str" = some false)
  | .str _ => (by decide +kernel : kitB "str" "str" = some true)
  | .list _ => (by decide +kernel : kitB "list" "str" = some false)
  | .tuple _ => (by decide +kernel : kitB "tuple" "str" = some false)
  | .dict _ => (by decide +kernel : kitB "dict" "str" = some false)
theorem kit_tuple : ∀ d : PyData, kitB (tyD d) "tuple" = some (isTup d)
  | .none => (by decide +kernel : kitB "NoneType" "tuple" = some false)
  | .bool _ => (by decide +kernel : kitB "bool" "tuple" = some false)
  | .int _ => (by decide +kernel : kitB "int" "tuple" = some false)
  | .str _ => (by decide +kernel : kitB "str" "tuple" = some false)
  | .list _ => (by decide +kernel : kitB "list" "tuple" = some false)
  | .tuple _ => (by decide +kernel : kitB "tuple" "tuple" = some true)
  | .dict _ => (by decide +kernel : kitB "dict" "tuple" = some false)
theorem kit_dict : ∀ d : PyData, kitB (tyD d) "dict" = some (isDct d)
  | .none => (by decide +kernel : kitB "NoneType" "dict" = some false)
  | .bool _ => (by decide +kernel : kitB "bool" "dict" = some false)
  | .int _ => (by decide +kernel : kitB "int" "dict" = some false)
  | .str _ => (by decide +kernel : kitB "str" "dict" = some false)
  | .list _ => (by decide +kernel : kitB "list" "dict" = some false)
  | .tuple _ => (by decide +kernel : kitB "tuple" "dict" = some false)
  | .dict _ => (by decide +kernel : kitB "dict" "dict" = some true)
theorem ifF {b : Bool} {p q : Prop} (h : b = false) (x : q) : if b = true then p else q := by rw [h]; exact x
theorem ifT {b : Bool} {p q : Prop} (h : b = true) (x : p) : if b = true then p else q := by rw [if_pos h]; exact x
/-! ### heaps -/
theorem sameT {K : PySem.W.Frag} {H H' : Hp} (s : Same H H') {a : Addr} {xs : List V} (h : SqT K H a xs) : SqT K H' a xs := by
  rcases h with (h | ⟨o, h⟩) | h
  · exact .inl (.inl (s _ _ h))
  · exact .inl (.inr ⟨o, s _ _ h⟩)
  · exact .inr h
theorem sameL {K : PySem.W.Frag} {H H' : Hp} (s : Same H H') {a : Addr} {xs : List V} (h : SqL K H a xs) : SqL K H' a xs := by
  rcases h with (h | ⟨o, h⟩) | h
  · exact .inl (.inl (s _ _ h))
  · exact .inl (.inr ⟨o, s _ _ h⟩)
  · exact .inr h
mutual
theorem DpX.same {K : PySem.W.Frag} {H H' : Hp} (s : Same H H') : ∀ {v : V} {d : PyData}, DpX K H v d → DpX K H' v d
  | _, _, .non => .non
  | _, _, .bl b => .bl b
  | _, _, .int i => .int i
  | _, _, .str x => .str x
  | _, _, .lst n h t => .lst n (sameL s h) (DpXAll.same s t)
  | _, _, .tup h t => .tup (sameT s h) (DpXAll.same s t)
  | _, _, .dK h t => .dK (s _ _ h) (DpXAll.same s t)
  | _, _, .dT h t => .dT (s _ _ h) (DpXAll.same s t)
theorem DpXAll.same {K : PySem.W.Frag} {H H' : Hp} (s : Same H H') : ∀ {vs : List V} {ds : List PyData}, DpXAll K H vs ds → DpXAll K H' vs ds
  | _, _, .nil => .nil
  | _, _, .cons h t => .cons (DpX.same s h) (DpXAll.same s t)
end
theorem same_one {H A : Hp} {p : Addr} {o : HO} (s : Same H A) (n : H p = none) : Same H (upd A p o) := fun b u e => by
  have ne : b ≠ p := by
    rintro rfl
    rw [n] at e
    cases e
  exact (upd_ne ne).trans (s b u e)
/-! ### comprehensions of items that change nothing that is known -/
section
variable {J : It} {n : Nat} {G : Hp → Prop} {Y : Nat → Hp → V → Hp → Prop}
/-- [e for .. in ..] over a walk, the i-th item's value f i -/
theorem lc_pure (w : Walk J n G Y) {g : TG} {te : TE} {vs : List Nat} {σ : L2.St} {H1 : Hp} {D : Addr} {Qd : Hp → Prop} (f : Nat → V) (hn : n ≤ sizeLine) (hD : H1 D = none) (hG : ∀ H, Same H1 H → G H)
    (hs : ∀ i x H H' (C : V → Hp → Prop), i < n → Same H1 H → Y i H x H' → (∀ H2, Same H H2 → C (f i) H2) → g x (wipe σ vs) H' fun σ2 H2 => wipe σ2 vs = wipe σ vs ∧ te σ2 H2 C)
    (hd : ∀ H, Same H1 H → H D = some (.lst ((List.range n).map f)) → Qd H) :
    ∃ W : Nat → Nat → Hp → Prop, (∃ m, W 0 m (upd H1 D (.lst []))) ∧ ∀ i m H, W i m H →
      (J.stop i H ∧ Qd H) ∨ (J.go i H ∧ ∃ Nx : Hp → Prop, (∀ H', Nx H' → ∃ m', m' < m ∧ W (i + 1) m' H') ∧ ∀ x H', J.yld i H x H' → g x (wipe σ vs) H' fun σ2 H2 => wipe σ2 vs = wipe σ vs ∧ tYes σ2 H2 fun b H3 =>
        if b = true then te σ2 H3 fun y H4 => ∃ acc, H4 D = some (.lst acc) ∧ acc.length < sizeLine ∧ Nx (upd H4 D (.lst (acc ++ [y]))) else Nx H3) := by
  refine lc_it w (fun i H => Same H1 H ∧ H D = some (.lst ((List.range i).map f))) ⟨same_one (Same.refl _) hD, upd_same⟩ (fun i H _ h => hG H h.1) (fun i x H H' hi ⟨s, e⟩ y => ?_) fun H h => hd H h.1 h.2
  have q := hs i x H H' (fun y H4 => ∃ acc, H4 D = some (.lst acc) ∧ acc.length < sizeLine ∧ Same H1 (upd H4 D (.lst (acc ++ [y]))) ∧ (upd H4 D (.lst (acc ++ [y]))) D = some (.lst ((List.range (i + 1)).map f))) hi s y fun H2 s2 => by
    refine ⟨_, s2 _ _ e, ?_, same_one (s.trans s2) hD, ?_⟩
    · rw [List.length_map, List.length_range]
      omega
    · rw [upd_same, List.range_succ, List.map_append]
      rfl
  exact q
end
/-! ### a stream: a list of three ints at l that draws change -/
theorem sameD {A B : Hp} {l : Addr} (s : Same A B) : Same (delH A l) (delH B l) := fun b u e => by
  by_cases q : b = l
  · rw [q, delH_same] at e
    cases e
  · rw [delH_ne q] at e ⊢
    exact s b u e
theorem delH_le {A : Hp} {l : Addr} : Same (delH A l) A := fun b u e => by
  by_cases q : b = l
  · rw [q, delH_same] at e
    cases e
  · rwa [delH_ne q] at e
/-- three ints at l -/
def St3 (H : Hp) (l : Addr) : Prop := ∃ x y z : Int, H l = some (.lst [.int x, .int y, .int z])
/-- what holds of H, the stream aside, holds of H', and the stream is one -/
structure Aft (l : Addr) (H H' : Hp) : Prop where
  same : Same (delH H l) (delH H' l)
  st : St3 H' l
theorem Aft.refl {l : Addr} {H : Hp} (h : St3 H l) : Aft l H H := ⟨Same.refl _, h⟩
theorem Aft.trans {l : Addr} {A B C : Hp} (h : Aft l A B) (g : Aft l B C) : Aft l A C := ⟨h.same.trans g.same, g.st⟩
theorem Aft.of {l : Addr} {A B C : Hp} (h : Aft l A B) (s : Same B C) : Aft l A C := ⟨h.same.trans (sameD s), by
  obtain ⟨x, y, z, e⟩ := h.st
  exact ⟨x, y, z, s _ _ e⟩⟩
theorem Aft.draw {l : Addr} {A B : Hp} {x y z : Int} (h : Aft l A B) : Aft l A (upd B l (.lst [.int x, .int y, .int z])) := ⟨fun b o e => by
  have q := h.same b o e
  have n : b ≠ l := by
    rintro rfl
    rw [delH_same] at q
    cases q
  rw [delH_ne n] at q ⊢
  exact (upd_ne n).trans q, ⟨x, y, z, upd_same⟩⟩
theorem Aft.ne {l : Addr} {A B : Hp} (h : Aft l A B) {p : Addr} (n : B p = none) : p ≠ l := by
  rintro rfl
  obtain ⟨x, y, z, e⟩ := h.st
  rw [e] at n
  cases n
theorem Aft.free {l : Addr} {A B : Hp} (h : Aft l A B) {p : Addr} (n : B p = none) : A p = none := by
  have ne := h.ne n
  cases q : A p with
  | none => rfl
  | some o =>
    have z := h.same p o (by rw [delH_ne ne]; exact q)
    rw [delH_ne ne, n] at z
    cases z
/-- an object put where A has none -/
theorem Aft.put {l : Addr} {A B : Hp} (h : Aft l A B) {p : Addr} {o : HO} (n : A p = none) (ne : p ≠ l) : Aft l A (upd B p o) := ⟨fun b u e => by
  have q := h.same b u e
  have nl : b ≠ l := by
    rintro rfl
    rw [delH_same] at e
    cases e
  have np : b ≠ p := by
    rintro rfl
    rw [delH_ne nl, n] at e
    cases e
  rw [delH_ne nl] at q ⊢
  exact (upd_ne np).trans q, by
  obtain ⟨x, y, z, e⟩ := h.st
  exact ⟨x, y, z, (upd_ne ne.symm).trans e⟩⟩
theorem Aft.at {l : Addr} {A B : Hp} (h : Aft l A B) {b : Addr} {o : HO} (e : A b = some o) (n : b ≠ l) : B b = some o := by
  have q := h.same b o (by rw [delH_ne n]; exact e)
  rwa [delH_ne n] at q
theorem Aft.lst {l : Addr} {A B : Hp} (h : Aft l A B) {K : PySem.W.Frag} {b : Addr} {xs : List V} (e : SqL K A b xs) (n : b ≠ l) : SqL K B b xs := by
  rcases e with (e | ⟨o, e⟩) | e
  · exact .inl (.inl (h.at e n))
  · exact .inl (.inr ⟨o, h.at e n⟩)
  · exact .inr e
/-- any loop over a walk: Body is what the turn does with its item, Pv the turn's word -/
theorem loop_it {J : It} {n : Nat} {G : Hp → Prop} {Y : Nat → Hp → V → Hp → Prop} (w : Walk J n G Y) {Body : (Hp → Prop) → V → Hp → Prop} {H0 : Hp} {Qd : Hp → Prop} (Pv : Nat → Hp → Prop) (h0 : Pv 0 H0) (hG : ∀ i H, i ≤ n → Pv i H → G H)
    (hs : ∀ i x H H', i < n → Pv i H → Y i H x H' → Body (Pv (i + 1)) x H') (hd : ∀ H, Pv n H → Qd H) :
    ∃ W : Nat → Nat → Hp → Prop, (∃ m, W 0 m H0) ∧ ∀ i m H, W i m H → (J.stop i H ∧ Qd H) ∨ (J.go i H ∧ ∃ Nx : Hp → Prop, (∀ H', Nx H' → ∃ m', m' < m ∧ W (i + 1) m' H') ∧ ∀ x H', J.yld i H x H' → Body Nx x H') := by
  refine ⟨fun i m H => m = n - i ∧ i ≤ n ∧ Pv i H, ⟨n, (Nat.sub_zero n).symm, Nat.zero_le _, h0⟩, ?_⟩
  rintro i m H ⟨rfl, hi, p⟩
  rcases Nat.lt_or_ge i n with lt | ge
  · exact .inr ⟨w.goes i H lt (hG i H hi p), Pv (i + 1), fun H' p' => ⟨n - (i + 1), by omega, rfl, lt, p'⟩, fun x H' y => hs i x H H' lt p (w.yields i H x H' lt (hG i H hi p) y)⟩
  · obtain rfl : i = n := Nat.le_antisymm hi ge
    exact .inl ⟨w.stops H (hG i H hi p), hd H p⟩
/-! ### rules that ask K, said of a K that is given: within a comprehension the block's own K is not seen to be the def's -/
section
variable {X : Cx}
theorem ix_tupK (K : PySem.W.Frag) (h : X.K = K := by rfl) : IxR X (rIxT K) := by subst h; exact ix_tup
theorem ix_listK (K : PySem.W.Frag) (h : X.K = K := by rfl) : IxR X (rIxL K) := by subst h; exact ix_list
def rLen (K : PySem.W.Frag) : List V → Hp → VK → Prop := fun xs H Q => ∃ p ys, xs = [.ref p] ∧ (SqL K H p ys ∨ SqT K H p ys) ∧ Q (.int ys.length) H
theorem call_lenK (K : PySem.W.Frag) (h : X.K = K := by rfl) : CallR X (.builtin "len") (rLen K) := by subst h; exact call_len_seq
theorem pg_tupK (K : PySem.W.Frag) {es : List Expr} {k : Nat} {t : TGs} {n : Nat} {pos : Pos} (hc : X.calm = true) (h : PGs X es t) (hn : (assignEach es X.env).length = n := by rfl) (hst : (assignEach es X.env).findIdx? (·.1) = none := by rfl) (hK : X.K = K := by rfl) :
    PG X (.Tuple es k pos) (gTup K n t) := by subst hK; exact pg_tup hc h hn hst
theorem op_eqDK (K : PySem.W.Frag) (hu : X.A.units + 64 < cLine) (h : X.K = K := by rfl) : OpR X (compareOp .Eq) (rEqD K) := by subst h; exact op_eqD hu
theorem pe_bmK (K : PySem.W.Frag) {T name id : String} {o e : Expr} {es : List Expr} {to : TE} {t : TA} {r : V → List V → Hp → VK → Prop} {apos cpos : Pos} (pa : PlainAttrs T) (slot : Slot T name id) (hty : typeOf (.builtin id) = pure (.type "method_descriptor")) (hm : MtR X id r) (ho : PE X o to) (ha : PA X (e :: es) t)
    (hbase : attributeBase o name X.env (eval o X.env) = eval o X.env := by rfl)
    (hfew : ((backTo cpos (starEach (e :: es) X.env)).all (fun x => !x.1) && (backToKw cpos (keywordEach [] X.env)).all (fun x => x.1.isSome)
      && decide ((e :: es).length + ([] : List Keyword).length + (if ([] : List Keyword).isEmpty then 0 else 1) < 30)) = true := by rfl)
    (hline : (apos.endLine == cpos.line) = true := by rfl) (hs : starEach (e :: es) X.env = (false, eval e X.env) :: starEach es X.env := by rfl) (hplain : (backTo cpos (starEach es X.env)).any (·.1) = false := by rfl) (hK : X.K = K := by rfl) :
    PE X (.Call (.Attribute o name apos) (e :: es) [] cpos) (tBM K T r to t) := by subst hK; exact pe_bm pa slot hty hm ho ha hbase hfew hline hs hplain
end
theorem walk_zipT {K : PySem.W.Frag} {a b : Addr} {xs ys : List V} {n : Nat} (hn : n = min xs.length ys.length) : Walk (ItzT K a b) n (fun H => SqT K H a xs ∧ SqT K H b ys) (YPair (fun i => xs[i]?) (fun i => ys[i]?)) := by
  subst hn
  refine ⟨fun i H hi q => ⟨xs, ys, xs[i]'(by omega), ys[i]'(by omega), q.1, q.2, List.getElem?_eq_getElem _, List.getElem?_eq_getElem _⟩, fun H q => ⟨xs, ys, q.1, q.2, by omega⟩, fun i H v H' _ q y => ?_⟩
  obtain ⟨T, x, z, h1, h2, h3, h4, h5⟩ := y
  exact ⟨T, x, z, h1, h2, h3, h4 xs q.1, h5 ys q.2⟩
end LW

set_option Elab.async false
set_option linter.all false
set_option maxRecDepth 100000
set_option maxHeartbeats 2000000
/-! Data as values of whole objects; worlds of shared objects; what a call leaves alone. -/
namespace DL
open PySem PySem.Spec PyProof.Rows L2 LW
/-- data: what a value is worth, however it lies in the heap (n: the list is known not to be sys.modules; t: the dict's keys are tuples) -/
inductive D where
  | non | bl (b : Bool) | int (i : Int) | str (x : Str)
  | lst (n : Bool) (xs : List D) | tup (xs : List D) | dct (t : Bool) (kvs : List (D × D))
  | obj (C : Addr) (fs : List (Str × D))
  | stm
  | scr (ns : List Int)
/-- the shared objects, and the streams -/
structure Wd where
  S : Hp
  T : Addr → Prop
def Strm (H : Hp) (l : Addr) : Prop := ∃ x y z : Int, H l = some (.lst [.int x, .int y, .int z])
structure Ok (W : Wd) (H : Hp) : Prop where
  le : Same W.S H
  st : ∀ l, W.T l → W.S l = none ∧ Strm H l
  own : ∀ a x, W.S a = some (.own x) → ∃ C dx fs, W.S x = some (.ins C dx fs)
  dic : ∀ b a, H b = some (.own a) → ∃ C dx fs, H a = some (.ins C dx fs)
structure Ext (W W' : Wd) : Prop where
  s : Same W.S W'.S
  t : ∀ l, W.T l → W'.T l
theorem Ext.refl (W : Wd) : Ext W W := ⟨Same.refl _, fun _ h => h⟩
theorem Ext.trans {W W' W'' : Wd} (a : Ext W W') (b : Ext W' W'') : Ext W W'' := ⟨a.s.trans b.s, fun l h => b.t l (a.t l h)⟩
/-- kinds of objects that may be owned -/
def mutk : HO → Bool
  | .lst _ => true
  | .dK _ => true
  | .dT _ => true
  | .set _ _ => true
  | .ins _ _ _ => true
  | .ext _ => true
  | _ => false
/-- owned: not shared, no stream; and the dicts of owned instances -/
inductive Owned (W : Wd) (H : Hp) : Addr → Prop
  | here {a : Addr} {o : HO} : W.S a = none → ¬ W.T a → H a = some o → mutk o = true → Owned W H a
  | dict {a b : Addr} : Owned W H a → H b = some (.own a) → Owned W H b
/-- a step that leaves alone what is owned -/
structure Go (W : Wd) (H : Hp) (W' : Wd) (H' : Hp) : Prop where
  ext : Ext W W'
  ok : Ok W' H'
  own : ∀ a o, Owned W H a → H a = some o → W'.S a = none ∧ ¬ W'.T a ∧ H' a = some o
theorem Owned.noS {W : Wd} {H : Hp} (ok : Ok W H) {a : Addr} (o : Owned W H a) : W.S a = none := by
  induction o with
  | here s t e m => exact s
  | dict o e ih =>
    rename_i a b
    cases q : W.S b with
    | none => rfl
    | some u =>
      have z := ok.le b u q
      rw [e] at z
      cases z
      obtain ⟨C, dx, fs, q'⟩ := ok.own b a q
      rw [ih] at q'
      cases q'
theorem Owned.noT {W : Wd} {H : Hp} (ok : Ok W H) {a : Addr} (o : Owned W H a) : ¬ W.T a := by
  cases o with
  | here s t e m => exact t
  | dict o e =>
    intro t
    obtain ⟨_, x, y, z, q⟩ := ok.st a t
    rw [e] at q
    cases q
theorem Go.refl {W : Wd} {H : Hp} (h : Ok W H) : Go W H W H := ⟨Ext.refl W, h, fun _ _ o e => ⟨o.noS h, o.noT h, e⟩⟩
theorem Go.owned {W W' : Wd} {H H' : Hp} (g : Go W H W' H') {a : Addr} (o : Owned W H a) : Owned W' H' a := by
  induction o with
  | here s t e m =>
    obtain ⟨s', t', e'⟩ := g.own _ _ (.here s t e m) e
    exact .here s' t' e' m
  | dict o e ih => exact .dict ih (g.own _ _ (.dict o e) e).2.2
theorem Go.trans {W W' W'' : Wd} {H H' H'' : Hp} (a : Go W H W' H') (b : Go W' H' W'' H'') : Go W H W'' H'' :=
  ⟨a.ext.trans b.ext, b.ok, fun x o ow e => b.own x o (a.owned ow) (a.own x o ow e).2.2⟩
/-- a new object that is not shared -/
theorem Go.newO {W : Wd} {H : Hp} (ok : Ok W H) {p : Addr} {o : HO} (n : H p = none) (no : ∀ x, o ≠ .own x) : Go W H W (upd H p o) := by
  have ne : ∀ b u, H b = some u → b ≠ p := fun b u e z => by rw [z, n] at e; cases e
  refine ⟨Ext.refl W, ⟨fun b u e => (upd_ne (ne b u (ok.le b u e))).trans (ok.le b u e), fun l t => ?_, ok.own, fun b a e => ?_⟩, fun a u ow e => ⟨ow.noS ok, ow.noT ok, (upd_ne (ne a u e)).trans e⟩⟩
  · obtain ⟨s, x, y, z, q⟩ := ok.st l t
    exact ⟨s, x, y, z, (upd_ne (ne l _ q)).trans q⟩
  · by_cases z : b = p
    · rw [z, upd_same] at e
      exact absurd (Option.some.inj e) (no a)
    · rw [upd_ne z] at e
      obtain ⟨C, dx, fs, q⟩ := ok.dic b a e
      exact ⟨C, dx, fs, (upd_ne (ne a _ q)).trans q⟩
/-- a new object that is shared from now on -/
theorem Go.new {W : Wd} {H : Hp} (ok : Ok W H) {p : Addr} {o : HO} (n : H p = none) (no : ∀ x, o ≠ .own x) : Go W H ⟨upd W.S p o, W.T⟩ (upd H p o) := by
  have nS : W.S p = none := by
    cases q : W.S p with
    | none => rfl
    | some u => rw [ok.le p u q] at n; cases n
  have ne : ∀ b u, H b = some u → b ≠ p := fun b u e z => by rw [z, n] at e; cases e
  refine ⟨⟨fun b u e => (upd_ne (ne b u (ok.le b u e))).trans e, fun _ h => h⟩, ⟨fun b u e => ?_, fun l t => ?_, fun a x e => ?_, fun b a e => ?_⟩, fun a u ow e => ⟨?_, ow.noT ok, (upd_ne (ne a u e)).trans e⟩⟩
  · by_cases z : b = p
    · rw [z] at e ⊢
      have e' : upd W.S p o p = some u := e
      rw [upd_same] at e' ⊢
      exact e'
    · have e' : upd W.S p o b = some u := e
      rw [upd_ne z] at e' ⊢
      exact ok.le b u e'
  · obtain ⟨s, x, y, z, q⟩ := ok.st l t
    exact ⟨(upd_ne (ne l _ q)).trans s, x, y, z, (upd_ne (ne l _ q)).trans q⟩
  · have e' : upd W.S p o a = some (.own x) := e
    by_cases z : a = p
    · rw [z, upd_same] at e'
      exact absurd (Option.some.inj e') (no x)
    · rw [upd_ne z] at e'
      obtain ⟨C, dx, fs, q⟩ := ok.own a x e'
      exact ⟨C, dx, fs, (upd_ne (ne x _ (ok.le x _ q))).trans q⟩
  · by_cases z : b = p
    · rw [z, upd_same] at e
      exact absurd (Option.some.inj e) (no a)
    · rw [upd_ne z] at e
      obtain ⟨C, dx, fs, q⟩ := ok.dic b a e
      exact ⟨C, dx, fs, (upd_ne (ne a _ q)).trans q⟩
  · exact (upd_ne (ne a u e)).trans (ow.noS ok)
/-! ### data as they lie -/
/-- what is known of a class of our own: its fields are plain, isinstance looks at nothing else -/
structure ClsOk (K : PySem.W.Frag) (C : Addr) : Prop where
  cl : Cls K C
  ha : PySem.W.findIn K (Value.ref C) (Str.ofString "__class__") = some (some (Value.builtin "object.__class__"))
  hn : PySem.W.specialIn K (Value.builtin "object.__class__") (Str.ofString "__get__") = some (some (Value.builtin "getset_descriptor.__get__"))
  htk : PySem.W.takesIn K (Value.builtin "object.__class__") = some true
  hm : PySem.W.mroIn K C (Value.type "object") = some true
  kit : ∀ n ∈ ["int", "bool", "str", "tuple", "dict", "list"], PySem.W.kitOne K (.ref C) (.type n) = some false
  kitT : ∀ n ∈ ["NoneType", "int", "bool", "str", "tuple", "dict", "list"], PySem.W.kitOne K (.type n) (.ref C) = some false
  kitS : PySem.W.kitOne K (.ref C) (.ref C) = some true
/-- a tuple: tracked, or an empty one that stands anywhere -/
def SqU (K : PySem.W.Frag) (S : Hp) (a : Addr) (xs : List V) : Prop := S a = some (.tup xs) ∨ (xs = [] ∧ SqT K S a xs)
theorem SqU.mono {K : PySem.W.Frag} {S S' : Hp} {a : Addr} {xs : List V} (s : Same S S') (h : SqU K S a xs) : SqU K S' a xs := h.imp (fun e => s _ _ e) fun h => ⟨h.1, sameT s h.2⟩
theorem SqU.sq {K : PySem.W.Frag} {S H : Hp} {a : Addr} {xs : List V} (s : Same S H) (h : SqU K S a xs) : SqT K H a xs := by
  rcases h with h | ⟨_, h⟩
  · exact SqT.of (s _ _ h)
  · exact sameT s h
/-- the script: locked, or of the written part -/
def SqZ (K : PySem.W.Frag) (S : Hp) (a : Addr) (xs : List V) : Prop := (∃ o, S a = some (.frz o (.lst xs))) ∨ SqL K (fun _ => none) a xs
theorem SqZ.mono {K : PySem.W.Frag} {S S' : Hp} {a : Addr} {xs : List V} (s : Same S S') (h : SqZ K S a xs) : SqZ K S' a xs := h.imp (fun ⟨o, e⟩ => ⟨o, s _ _ e⟩) id
theorem SqZ.list {K : PySem.W.Frag} {S : Hp} {a : Addr} {xs : List V} (h : SqZ K S a xs) : SqL K S a xs := by
  rcases h with ⟨o, e⟩ | h
  · exact .inl (.inr ⟨o, e⟩)
  · rcases h with (h | ⟨o, h⟩) | h
    · cases h
    · cases h
    · exact .inr h
mutual
inductive Rep (K : PySem.W.Frag) (W : Wd) : V → D → Prop
  | non : Rep K W .non .non
  | bl (b : Bool) : Rep K W (.bl b) (.bl b)
  | int (i : Int) : Rep K W (.int i) (.int i)
  | str (x : Str) : Rep K W (.str x) (.str x)
  | lst {n : Bool} {a : Addr} {xs : List V} {ds : List D} : (n = true → a ≠ sysModules) → xs.length ≤ sizeLine → W.S a = some (.lst xs) → RepL K W xs ds → Rep K W (.ref a) (.lst n ds)
  | tup {a : Addr} {xs : List V} {ds : List D} : xs.length ≤ sizeLine → SqU K W.S a xs → RepL K W xs ds → Rep K W (.ref a) (.tup ds)
  | dK {a : Addr} {kvs : List (Key × V)} {es : List (D × D)} : kvs.length ≤ sizeLine → Rd W.S a (.dK kvs) → RepK K W kvs es → Rep K W (.ref a) (.dct false es)
  | dT {a : Addr} {kvs : List (List Key × V)} {es : List (D × D)} : kvs.length ≤ sizeLine → Rd W.S a (.dT kvs) → RepT K W kvs es → Rep K W (.ref a) (.dct true es)
  | obj {a C dx : Addr} {fs : List (Str × V)} {es : List (Str × D)} : ClsOk K C → W.S a = some (.ins C dx fs) → RepF K W fs es → Rep K W (.ref a) (.obj C es)
  | stm {a : Addr} : W.T a → Rep K W (.ref a) .stm
  | scr {a : Addr} {ns : List Int} : ns.length ≤ 63 → SqZ K W.S a (ns.map V.int) → Rep K W (.ref a) (.scr ns)
inductive RepL (K : PySem.W.Frag) (W : Wd) : List V → List D → Prop
  | nil : RepL K W [] []
  | cons {v : V} {vs : List V} {d : D} {ds : List D} : Rep K W v d → RepL K W vs ds → RepL K W (v :: vs) (d :: ds)
inductive RepK (K : PySem.W.Frag) (W : Wd) : List (Key × V) → List (D × D) → Prop
  | nil : RepK K W [] []
  | int {i : Int} {v : V} {d : D} {kvs : List (Key × V)} {es : List (D × D)} : Rep K W v d → RepK K W kvs es → RepK K W ((.inl i, v) :: kvs) ((.int i, d) :: es)
  | str {x : Str} {v : V} {d : D} {kvs : List (Key × V)} {es : List (D × D)} : Rep K W v d → RepK K W kvs es → RepK K W ((.inr x, v) :: kvs) ((.str x, d) :: es)
inductive RepT (K : PySem.W.Frag) (W : Wd) : List (List Key × V) → List (D × D) → Prop
  | nil : RepT K W [] []
  | cons {k : List Key} {ks : List D} {v : V} {d : D} {kvs : List (List Key × V)} {es : List (D × D)} : RepL K W (k.map kV) ks → Rep K W v d → RepT K W kvs es → RepT K W ((k, v) :: kvs) ((.tup ks, d) :: es)
inductive RepF (K : PySem.W.Frag) (W : Wd) : List (Str × V) → List (Str × D) → Prop
  | nil : RepF K W [] []
  | cons {x : Str} {v : V} {d : D} {fs : List (Str × V)} {es : List (Str × D)} : Rep K W v d → RepF K W fs es → RepF K W ((x, v) :: fs) ((x, d) :: es)
end
section
variable {K : PySem.W.Frag} {W W' : Wd}
theorem rdS {H H' : Hp} (s : Same H H') {a : Addr} {u : HO} (h : Rd H a u) : Rd H' a u := by
  rcases h with h | ⟨o, h⟩
  · exact .inl (s _ _ h)
  · exact .inr ⟨o, s _ _ h⟩
mutual
theorem Rep.mono (s : Ext W W') : ∀ {v : V} {d : D}, Rep K W v d → Rep K W' v d
  | _, _, .non => .non
  | _, _, .bl b => .bl b
  | _, _, .int i => .int i
  | _, _, .str x => .str x
  | _, _, .lst n z h t => .lst n z (s.s _ _ h) (RepL.mono s t)
  | _, _, .tup z h t => .tup z (h.mono s.s) (RepL.mono s t)
  | _, _, .dK z h t => .dK z (rdS s.s h) (RepK.mono s t)
  | _, _, .dT z h t => .dT z (rdS s.s h) (RepT.mono s t)
  | _, _, .obj c h t => .obj c (s.s _ _ h) (RepF.mono s t)
  | _, _, .stm h => .stm (s.t _ h)
  | _, _, .scr z h => .scr z (h.mono s.s)
theorem RepL.mono (s : Ext W W') : ∀ {v : List V} {d : List D}, RepL K W v d → RepL K W' v d
  | _, _, .nil => .nil
  | _, _, .cons h t => .cons (Rep.mono s h) (RepL.mono s t)
theorem RepK.mono (s : Ext W W') : ∀ {v : List (Key × V)} {d : List (D × D)}, RepK K W v d → RepK K W' v d
  | _, _, .nil => .nil
  | _, _, .int h t => .int (Rep.mono s h) (RepK.mono s t)
  | _, _, .str h t => .str (Rep.mono s h) (RepK.mono s t)
theorem RepT.mono (s : Ext W W') : ∀ {v : List (List Key × V)} {d : List (D × D)}, RepT K W v d → RepT K W' v d
  | _, _, .nil => .nil
  | _, _, .cons k h t => .cons (RepL.mono s k) (Rep.mono s h) (RepT.mono s t)
theorem RepF.mono (s : Ext W W') : ∀ {v : List (Str × V)} {d : List (Str × D)}, RepF K W v d → RepF K W' v d
  | _, _, .nil => .nil
  | _, _, .cons h t => .cons (Rep.mono s h) (RepF.mono s t)
end
theorem RepL.len : ∀ {vs : List V} {ds : List D}, RepL K W vs ds → vs.length = ds.length
  | _, _, .nil => rfl
  | _, _, .cons _ t => by simp [RepL.len t]
theorem RepL.get : ∀ {xs : List V} {ds : List D}, RepL K W xs ds → ∀ {i : Nat} {d : D}, ds[i]? = some d → ∃ v, xs[i]? = some v ∧ Rep K W v d
  | _, _, .nil, i, d, e => by cases e
  | _, _, .cons h t, 0, d, e => ⟨_, rfl, by rw [← Option.some.inj e]; exact h⟩
  | _, _, .cons h t, i + 1, d, e => RepL.get t e
theorem RepL.app : ∀ {xs ys : List V} {ds es : List D}, RepL K W xs ds → RepL K W ys es → RepL K W (xs ++ ys) (ds ++ es)
  | _, _, _, _, .nil, q => q
  | _, _, _, _, .cons h t, q => .cons h (RepL.app t q)
end
/-! ### what is owned stays where it is, whatever is called -/
section
variable {P : Program} {w : World} {H H' : Hp} {h h' : Heap}
open Classical in
noncomputable def lessH (H : Hp) (O : Addr → Prop) : Hp := fun a => if O a then none else H a
open Classical in
noncomputable def joinH (O : Addr → Prop) (H H' : Hp) : Hp := fun a => if O a then H a else H' a
theorem less_in {O : Addr → Prop} {a : Addr} (o : O a) : lessH H O a = none := if_pos o
theorem less_out {O : Addr → Prop} {a : Addr} (o : ¬ O a) : lessH H O a = H a := if_neg o
theorem less_some {O : Addr → Prop} {a : Addr} {u : HO} (e : lessH H O a = some u) : ¬ O a ∧ H a = some u := by
  by_cases o : O a
  · rw [less_in o] at e; cases e
  · rw [less_out o] at e; exact ⟨o, e⟩
theorem less_none {O : Addr → Prop} {a : Addr} (e : H a = none) : lessH H O a = none := by
  by_cases o : O a
  · exact less_in o
  · rw [less_out o]; exact e
theorem join_in {O : Addr → Prop} {a : Addr} (o : O a) : joinH O H H' a = H a := if_pos o
theorem join_out {O : Addr → Prop} {a : Addr} (o : ¬ O a) : joinH O H H' a = H' a := if_neg o
/-- what may be set aside: owned objects, instances with their dicts -/
structure Frm (H : Hp) (O : Addr → Prop) : Prop where
  mu : ∀ a, O a → ∃ o, H a = some o ∧ (mutk o = true ∨ ∃ x, o = .own x ∧ O x)
  own : ∀ a b, O a → H b = some (.own a) → O b
theorem Frm.tup {O : Addr → Prop} (F : Frm H O) {a : Addr} {xs : List V} (e : H a = some (.tup xs)) : ¬ O a := fun o => by
  obtain ⟨u, e', m⟩ := F.mu a o
  rw [e] at e'
  cases e'
  rcases m with m | ⟨x, m, _⟩
  · cases m
  · cases m
theorem Frm.frz {O : Addr → Prop} (F : Frm H O) {a : Addr} {ob : Obj} {u : HO} (e : H a = some (.frz ob u)) : ¬ O a := fun o => by
  obtain ⟨u, e', m⟩ := F.mu a o
  rw [e] at e'
  cases e'
  rcases m with m | ⟨x, m, _⟩
  · cases m
  · cases m
theorem Frm.tbl {O : Addr → Prop} (F : Frm H O) {a : Addr} {ps : Array Value} (e : H a = some (.tbl ps)) : ¬ O a := fun o => by
  obtain ⟨u, e', m⟩ := F.mu a o
  rw [e] at e'
  cases e'
  rcases m with m | ⟨x, m, _⟩
  · cases m
  · cases m
theorem Frm.owned {O : Addr → Prop} (F : Frm H O) {a x : Addr} (e : H a = some (.own x)) (o : O a) : O x := by
  obtain ⟨u, e', m⟩ := F.mu a o
  rw [e] at e'
  cases e'
  rcases m with m | ⟨y, m, q⟩
  · cases m
  · cases m; exact q
theorem ObjOk.there {a : Addr} {o : HO} (x : ObjOk P w H h a o) : ∃ u, h.get? a = some u := by
  cases o with
  | lst xs => obtain ⟨_, _, _, _, e⟩ := x; exact ⟨_, e⟩
  | tup xs => obtain ⟨_, _, _, ⟨_, e, _⟩⟩ := x; exact ⟨_, e⟩
  | dK kvs => obtain ⟨_, _, _, _, o, _, _, e, _⟩ := x; exact ⟨_, e⟩
  | dT kvs => obtain ⟨_, _, _, _, o, _, _, e, _⟩ := x; exact ⟨_, e⟩
  | set S n => obtain ⟨o, _, _, _, e, _⟩ := x; exact ⟨_, e⟩
  | ins C dx fs => obtain ⟨_, _, _, e, _⟩ := x; exact ⟨_, e⟩
  | own y => obtain ⟨_, e⟩ := x; exact ⟨_, e⟩
  | xd fs => obtain ⟨_, ⟨_, _, _, e, _⟩, _⟩ := x; exact ⟨_, e⟩
  | rng lo hi => obtain ⟨_, _, _, e⟩ := x; exact ⟨_, e⟩
  | frz ob u => obtain ⟨e, _⟩ := x; exact ⟨_, e⟩
  | tbl ps => exact ⟨_, (show h.get? a = some _ from x)⟩
  | met f y => exact ⟨_, (show h.get? a = some _ from x)⟩
  | ext φ => obtain ⟨_, ⟨_, e⟩, _⟩ := x; exact ⟨_, e⟩
theorem HOk.less {O : Addr → Prop} (F : Frm H O) (x : HOk P w H h) : HOk P w (lessH H O) h := fun a o e => by
  obtain ⟨n, e⟩ := less_some e
  refine (x a o e).stay (fun _ _ _ q => q) (fun b q => ?_) fun b xs q => ?_
  · rw [less_out fun ob => n (F.owned q ob)]; exact q
  · rw [less_out (F.tup q)]; exact q
theorem Env0.less {K : PySem.W.Frag} {mg : Str → Option Value} {base : Heap} {A : Around} {outer : List Env} {s : Shared} {O : Addr → Prop} (F : Frm H O) (e : Env0 P w K mg base A outer s H) : Env0 P w K mg base A outer s (lessH H O) :=
  ⟨e.frames, e.mod, fun b o q => ⟨(e.bs b o q).1, less_none (e.bs b o q).2⟩, e.bsz, e.funs, fun b hb => less_none (e.frf b hb), HOk.less F e.hok, e.bare⟩
section
variable {outer : List Env} {O : Addr → Prop}
theorem join_hok (F : Frm H O) (x : HOk P w H h) (y : HOk P w H' h') (k : ∀ b o, h.get? b = some o → O b → h'.get? b = some o) (n : ∀ b, O b → H' b = none) (t : ∀ b xs, H b = some (.tup xs) → H' b = some (.tup xs)) :
    HOk P w (joinH O H H') h' := fun a o e => by
  by_cases oa : O a
  · rw [join_in oa] at e
    refine (x a o e).stay (fun b u hb q => k b u q ?_) (fun b q => ?_) fun b xs q => ?_
    · rcases hb with hb | hb
      · rw [hb]; exact oa
      · exact F.own a b oa hb
    · rw [join_in (F.own a b oa q)]; exact q
    · rw [join_out (F.tup q)]; exact t b xs q
  · rw [join_out oa] at e
    refine (y a o e).stay (fun _ _ _ q => q) (fun b q => ?_) fun b xs q => ?_
    · rw [join_out fun ob => by rw [n b ob] at q; cases q]; exact q
    · rw [join_out fun ob => by rw [n b ob] at q; cases q]; exact q
theorem cr_join {Q : VK} {E : XK} {s : Shared} {r : Result} {s' : Shared} (F : Frm H O) (hok : HOk P w H s.heap) (frf : ∀ b ∈ frs outer, H b = none)
    (c : CR (L2.CX P w) outer P w (lessH H O) s (fun v H' => (∀ b, O b → H' b = none) → Q v (joinH O H H')) (fun C d H' => (∀ b, O b → H' b = none) → E C d (joinH O H H')) r s') : CR (L2.CX P w) outer P w H s Q E r s' := by
  have nfr : ∀ b, O b → b ∉ frs outer := fun b ob hb => by
    obtain ⟨o, e, _⟩ := F.mu b ob
    rw [frf b hb] at e
    cases e
  have there : ∀ b, O b → ∃ o, s.heap.get? b = some o := fun b ob => by
    obtain ⟨o, e, _⟩ := F.mu b ob
    exact ObjOk.there (hok b o e)
  have noO : ∀ b, H b = none → ¬ O b := fun b e ob => by
    obtain ⟨o, e', _⟩ := F.mu b ob
    rw [e] at e'
    cases e'
  match r, c with
  | .ok .next, c => exact c.elim
  | .ok .brk, c => exact c.elim
  | .ok .cont, c => exact c.elim
  | .ok (.ret u), c =>
    obtain ⟨v, H', os, bare, un, hok', rel, q⟩ := c
    have gone : ∀ b, O b → H' b = none := fun b ob => by
      obtain ⟨o, e⟩ := there b ob
      exact un.free b o e (less_in ob) List.not_mem_nil
    have keep : ∀ b o, s.heap.get? b = some o → O b → s'.heap.get? b = some o := fun b o e ob => un.keep b o e (less_in ob) (nfr b ob) List.not_mem_nil
    refine ⟨v, joinH O H H', os, bare, ⟨fun b o e n hb hx => un.keep b o e (less_none n) hb hx, fun b o e n hb hx => un.slot b o e (less_none n) hb hx, fun b o e n hx => ?_, un.there, fun b xs e => ?_, fun b o u e => ?_, fun b ps e => ?_⟩,
      join_hok F hok hok' keep gone (fun b xs e => un.tups b xs (by rw [less_out (F.tup e)]; exact e)), rel, q gone⟩
    · rw [join_out (noO b n)]; exact un.free b o e (less_none n) hx
    · rw [join_out (F.tup e)]; exact un.tups b xs (by rw [less_out (F.tup e)]; exact e)
    · rw [join_out (F.frz e)]; exact un.frzs b o u (by rw [less_out (F.frz e)]; exact e)
    · obtain ⟨more, q⟩ := un.tbls b ps (by rw [less_out (F.tbl e)]; exact e)
      exact ⟨more, by rw [join_out (F.tbl e)]; exact q⟩
  | .error e, c =>
    obtain ⟨a, B, H', cls, d, ea, fl, hok', ub, na, os, bare, q⟩ := c
    have gone : ∀ b, O b → H' b = none := fun b ob => by
      obtain ⟨o, e⟩ := there b ob
      exact ub.free b o e (less_in ob)
    have keep : ∀ b o, s.heap.get? b = some o → O b → B.get? b = some o := fun b o e ob => ub.keep b o e (less_in ob) (nfr b ob)
    refine ⟨a, B, joinH O H H', cls, d, ea, fl, join_hok F hok hok' keep gone (fun b xs e => ub.tups b xs (by rw [less_out (F.tup e)]; exact e)), ⟨fun b o e n hb => ub.keep b o e (less_none n) hb, ub.slot, fun b o e n => ?_, ub.there, fun b xs e => ?_, fun b o u e => ?_, fun b ps e => ?_⟩, ?_, os, bare, q gone⟩
    · rw [join_out (noO b n)]; exact ub.free b o e (less_none n)
    · rw [join_out (F.tup e)]; exact ub.tups b xs (by rw [less_out (F.tup e)]; exact e)
    · rw [join_out (F.frz e)]; exact ub.frzs b o u (by rw [less_out (F.frz e)]; exact e)
    · obtain ⟨more, q⟩ := ub.tbls b ps (by rw [less_out (F.tbl e)]; exact e)
      exact ⟨more, by rw [join_out (F.tbl e)]; exact q⟩
    · by_cases oa : O a
      · obtain ⟨o, e⟩ := there a oa
        have z := keep a o e oa
        rw [fl.2.1] at z
        cases z
      · rw [join_out oa]; exact na
end
end
/-! ### exceptions, promises -/
structure Xn where
  C : Addr
  fs : List (Str × D)
def RepX (K : PySem.W.Frag) (W : Wd) (C : Value) (dx : Option Addr) (x : Xn) : Prop := C = .ref x.C ∧ ((dx = none ∧ x.fs = []) ∨ ∃ a fs, dx = some a ∧ W.S a = some (.xd fs) ∧ RepF K W fs x.fs)
/-- what a def gives for data, and what it raises -/
abbrev SpD := List D → (D → Prop) → (Xn → Prop) → Prop
/-- as a caller sees it -/
def spD (K : PySem.W.Frag) (g : SpD) : Sp := fun vs H Q E => ∃ W ds Dq De, Ok W H ∧ RepL K W vs ds ∧ g ds Dq De ∧ (∀ v d W' H', Go W H W' H' → Rep K W' v d → Dq d → Q v H') ∧
  ∀ C dx x W' H', Go W H W' H' → RepX K W' C dx x → De x → E C dx H'
/-- as its body shows it -/
def spB (K : PySem.W.Frag) (g : SpD) : Sp := fun vs H Q E => ∃ W ds Dq De, Ok W H ∧ RepL K W vs ds ∧ g ds Dq De ∧ (∀ v d W' H', Ext W W' → Ok W' H' → Rep K W' v d → Dq d → Q v H') ∧
  ∀ C dx x W' H', Ext W W' → Ok W' H' → RepX K W' C dx x → De x → E C dx H'
theorem Owned.frm {W : Wd} : Frm H (Owned W H) := by
  refine ⟨fun a o => ?_, fun a b o e => .dict o e⟩
  cases o with
  | here s t e m => exact ⟨_, e, .inl m⟩
  | dict o e => exact ⟨_, e, .inr ⟨_, rfl, o⟩⟩
theorem ok_less {W : Wd} (ok : Ok W H) : Ok W (lessH H (Owned W H)) :=
  ⟨fun a o e => by rw [less_out fun q => by rw [Owned.noS ok q] at e; cases e]; exact ok.le a o e,
   fun l t => ⟨(ok.st l t).1, by
    obtain ⟨_, x, y, z, q⟩ := ok.st l t
    exact ⟨x, y, z, by rw [less_out fun o => Owned.noT ok o t]; exact q⟩⟩, ok.own, fun b a e => by
    obtain ⟨n, e⟩ := less_some e
    obtain ⟨C, dx, fs, q⟩ := ok.dic b a e
    exact ⟨C, dx, fs, by rw [less_out fun o => n (.dict o e)]; exact q⟩⟩
theorem go_join {W W' : Wd} (ok : Ok W H) (ext : Ext W W') (ok' : Ok W' H') (gone : ∀ b, Owned W H b → H' b = none) : Go W H W' (joinH (Owned W H) H H') := by
  refine ⟨ext, ⟨fun a o e => ?_, fun l t => ⟨(ok'.st l t).1, ?_⟩, ok'.own, fun b a e => ?_⟩, fun a o ow e => ?_⟩
  · have q := ok'.le a o e
    rw [join_out fun z => by rw [gone a z] at q; cases q]
    exact q
  · obtain ⟨_, x, y, z, q⟩ := ok'.st l t
    refine ⟨x, y, z, ?_⟩
    rw [join_out fun z => by rw [gone l z] at q; cases q]
    exact q
  · by_cases ob : Owned W H b
    · rw [join_in ob] at e
      obtain ⟨C, dx, fs, q⟩ := ok.dic b a e
      refine ⟨C, dx, fs, ?_⟩
      rw [join_in]
      · exact q
      · cases ob with
        | here s t e' m =>
          rw [e] at e'
          cases e'
          cases m
        | dict o e' =>
          rw [e] at e'
          cases e'
          exact o
    · rw [join_out ob] at e
      obtain ⟨C, dx, fs, q⟩ := ok'.dic b a e
      exact ⟨C, dx, fs, by rw [join_out fun o => by rw [gone a o] at q; cases q]; exact q⟩
  · have g := gone a ow
    refine ⟨?_, fun t' => ?_, by rw [join_in ow]; exact e⟩
    · cases q : W'.S a with
      | none => rfl
      | some u =>
        have z := ok'.le a u q
        rw [g] at z
        cases z
    · obtain ⟨_, x, y, z, q⟩ := ok'.st a t'
      rw [g] at q
      cases q
theorem spD_less {K : PySem.W.Frag} {g : SpD} {vs : List V} {Q : VK} {E : XK} (h : spD K g vs H Q E) :
    ∃ W, Ok W H ∧ spB K g vs (lessH H (Owned W H)) (fun v H' => (∀ b, Owned W H b → H' b = none) → Q v (joinH (Owned W H) H H')) (fun C d H' => (∀ b, Owned W H b → H' b = none) → E C d (joinH (Owned W H) H H')) := by
  obtain ⟨W, ds, Dq, De, ok, rl, hg, hQ, hE⟩ := h
  exact ⟨W, ok, W, ds, Dq, De, ok_less ok, rl, hg, fun v d W' H' ext ok' r q gone => hQ v d W' _ (go_join ok ext ok' gone) r q, fun C dx x W' H' ext ok' r q gone => hE C dx x W' _ (go_join ok ext ok' gone) r q⟩
/-- a def of data: whatever is owned when it is called stays -/
abbrev FnD (P : Program) (w : World) (K : PySem.W.Frag) (mg : Str → Option Value) (base : Heap) (k : Nat) (f : Addr) (fd : FuncData) (ps : List Str) (g : SpD) : Prop := FnG P w K mg base (L2.CX P w) k f fd ps (spD K g)
theorem fnD_of {K : PySem.W.Frag} {mg : Str → Option Value} {base : Heap} {k : Nat} {f : Addr} {fd : FuncData} {ps : List Str} {g : SpD} (F : FnG P w K mg base (L2.CX P w) k f fd ps (spB K g)) : FnD P w K mg base k f fd ps g := by
  refine ⟨fun vs H Q E h => ?_, fun A outer s H args us vs Q E gd hr e0 hb hv h => ?_⟩
  · obtain ⟨W, ok, q⟩ := spD_less h
    exact F.len _ _ _ _ q
  · obtain ⟨W, ok, q⟩ := spD_less h
    refine codeAny_mono (F.run A outer s _ args us vs _ _ gd hr (Env0.less Owned.frm e0) hb hv q) fun r s' c => ?_
    exact cr_join Owned.frm e0.hok e0.frf c
end DL

set_option Elab.async false
set_option linter.all false
set_option maxRecDepth 100000
set_option maxHeartbeats 2000000
/-! Slots with what they are worth; the judgements over data. -/
namespace DL
open PySem PySem.Spec PyProof.Rows L2 LW
theorem Ok.gone {W : Wd} {H : Hp} (ok : Ok W H) {a : Addr} (n : H a = none) : W.S a = none ∧ ¬ W.T a := by
  refine ⟨?_, fun t => ?_⟩
  · cases z : W.S a with
    | none => rfl
    | some u => rw [ok.le a u z] at n; cases n
  · obtain ⟨_, x, y, z, q⟩ := ok.st a t
    rw [q] at n; cases n
theorem Go.notOwned {W W' : Wd} {H H' : Hp} (g : Go W H W' H') {a : Addr} (n : H' a = none) : ¬ Owned W H a := fun ow => by
  have q : ∃ o, H a = some o := by
    cases ow with
    | here s t e m => exact ⟨_, e⟩
    | dict o e => exact ⟨_, e⟩
  obtain ⟨o, e⟩ := q
  rw [(g.own a o ow e).2.2] at n
  cases n
/-- what is ours alone is written -/
theorem Go.touch {W W' : Wd} {H H' : Hp} (g : Go W H W' H') {A : Addr} {o : HO} (nA : ¬ Owned W H A) (s : W'.S A = none) (t : ¬ W'.T A) (no : ∀ x, o ≠ .own x) (ni : ∀ C dx fs, H' A ≠ some (.ins C dx fs)) : Go W H W' (upd H' A o) := by
  refine ⟨g.ext, ⟨fun b u e => ?_, fun l tl => ?_, g.ok.own, fun b a e => ?_⟩, fun x u ow e => ?_⟩
  · rw [upd_ne fun z => by rw [z, s] at e; cases e]
    exact g.ok.le b u e
  · obtain ⟨h1, h2⟩ := g.ok.st l tl
    refine ⟨h1, ?_⟩
    obtain ⟨x, y, z, q⟩ := h2
    exact ⟨x, y, z, by rw [upd_ne fun z => t (by rw [← z]; exact tl)]; exact q⟩
  · by_cases z : b = A
    · rw [z, upd_same] at e
      exact absurd (Option.some.inj e) (no a)
    · rw [upd_ne z] at e
      obtain ⟨C, dx, fs, q⟩ := g.ok.dic b a e
      exact ⟨C, dx, fs, by rw [upd_ne fun z => ni C dx fs (by rw [← z]; exact q)]; exact q⟩
  · obtain ⟨h1, h2, h3⟩ := g.own x u ow e
    exact ⟨h1, h2, by rw [upd_ne fun z => nA (by rw [← z]; exact ow)]; exact h3⟩
/-- a slot: nothing, a shared datum, a list or dict or instance that this frame alone holds -/
inductive Ent where
  | un
  | dat (d : D)
  | ol (n : Bool) (ds : List D)
  | od (t : Bool) (es : List (D × D))
  | oi (a C : Addr) (fs : List (Str × D))
  | ld (t : Bool) (es : List (D × D))
  | cls (C : Addr)
def Ent.own : Ent → Bool
  | .ol _ _ => true
  | .od _ _ => true
  | .oi _ _ _ => true
  | _ => false
abbrev Env' : Type := List Ent
def SlotOk (K : PySem.W.Frag) (W : Wd) (H : Hp) (s : Option (Option V)) : Ent → Prop
  | .un => True
  | .dat d => ∃ v, s = some (some v) ∧ Rep K W v d
  | .cls C => s = some (some (.ref C))
  | .ld t es => ∃ a o, s = some (some (.ref a)) ∧ ((t = false ∧ ∃ kvs, W.S a = some (.frz o (.dK kvs)) ∧ kvs.length ≤ sizeLine ∧ RepK K W kvs es) ∨ (t = true ∧ ∃ kvs, W.S a = some (.frz o (.dT kvs)) ∧ kvs.length ≤ sizeLine ∧ RepT K W kvs es))
  | .ol n ds => ∃ a xs, s = some (some (.ref a)) ∧ W.S a = none ∧ ¬ W.T a ∧ ((n = true → a ≠ sysModules) ∧ xs.length ≤ sizeLine) ∧ H a = some (.lst xs) ∧ RepL K W xs ds
  | .od t es => ∃ a, s = some (some (.ref a)) ∧ W.S a = none ∧ ¬ W.T a ∧ ((t = false ∧ ∃ kvs, H a = some (.dK kvs) ∧ kvs.length ≤ sizeLine ∧ RepK K W kvs es) ∨ (t = true ∧ ∃ kvs, H a = some (.dT kvs) ∧ kvs.length ≤ sizeLine ∧ RepT K W kvs es))
  | .oi a C fs => ClsOk K C ∧ ∃ dx vs, s = some (some (.ref a)) ∧ W.S a = none ∧ ¬ W.T a ∧ H a = some (.ins C dx vs) ∧ H dx = some (.own a) ∧ RepF K W vs fs
/-- slot i is the only one that holds the object at a -/
def HasOwn (σ : L2.St) (ρ : Env') (i : Nat) (a : Addr) : Prop := σ[i]? = some (some (.ref a)) ∧ ∃ e, ρ[i]? = some e ∧ e.own = true
structure EnvOk (K : PySem.W.Frag) (W0 W : Wd) (H : Hp) (σ : L2.St) (ρ : Env') : Prop where
  ext : Ext W0 W
  ok : Ok W H
  len : σ.length = ρ.length
  slot : ∀ (i : Nat) (e : Ent), ρ[i]? = some e → SlotOk K W H σ[i]? e
  apart : ∀ (i j : Nat) (a : Addr), HasOwn σ ρ i a → HasOwn σ ρ j a → i = j
section
variable {K : PySem.W.Frag} {W0 W W' : Wd} {H H' : Hp} {σ : L2.St} {ρ : Env'}
theorem SlotOk.go {s : Option (Option V)} {e : Ent} (g : Go W H W' H') (h : SlotOk K W H s e) : SlotOk K W' H' s e := by
  cases e with
  | un => trivial
  | cls C => exact h
  | ld t es =>
    obtain ⟨a, o, e, h⟩ := h
    exact ⟨a, o, e, h.imp (fun ⟨q, kvs, h1, z, r⟩ => ⟨q, kvs, g.ext.s _ _ h1, z, r.mono g.ext⟩) fun ⟨q, kvs, h1, z, r⟩ => ⟨q, kvs, g.ext.s _ _ h1, z, r.mono g.ext⟩⟩
  | dat d =>
    obtain ⟨v, e, r⟩ := h
    exact ⟨v, e, r.mono g.ext⟩
  | ol n ds =>
    obtain ⟨a, xs, e, s1, t1, n1, h1, r⟩ := h
    obtain ⟨s2, t2, h2⟩ := g.own a _ (.here s1 t1 h1 rfl) h1
    exact ⟨a, xs, e, s2, t2, n1, h2, r.mono g.ext⟩
  | od t es =>
    obtain ⟨a, e, s1, t1, h1⟩ := h
    rcases h1 with ⟨rfl, kvs, h1, z, r⟩ | ⟨rfl, kvs, h1, z, r⟩
    · obtain ⟨s2, t2, h2⟩ := g.own a _ (.here s1 t1 h1 rfl) h1
      exact ⟨a, e, s2, t2, .inl ⟨rfl, kvs, h2, z, r.mono g.ext⟩⟩
    · obtain ⟨s2, t2, h2⟩ := g.own a _ (.here s1 t1 h1 rfl) h1
      exact ⟨a, e, s2, t2, .inr ⟨rfl, kvs, h2, z, r.mono g.ext⟩⟩
  | oi a C fs =>
    obtain ⟨co, dx, vs, e, s1, t1, h1, n1, r⟩ := h
    obtain ⟨s2, t2, h2⟩ := g.own a _ (.here s1 t1 h1 rfl) h1
    exact ⟨co, dx, vs, e, s2, t2, h2, (g.own dx _ (.dict (.here s1 t1 h1 rfl) n1) n1).2.2, r.mono g.ext⟩
theorem EnvOk.go (h : EnvOk K W0 W H σ ρ) (g : Go W H W' H') : EnvOk K W0 W' H' σ ρ :=
  ⟨h.ext.trans g.ext, g.ok, h.len, fun i e q => (h.slot i e q).go g, h.apart⟩
theorem EnvOk.base (h : EnvOk K W0 W H σ ρ) : EnvOk K W W H σ ρ := ⟨Ext.refl W, h.ok, h.len, h.slot, h.apart⟩
theorem EnvOk.rebase {W1 : Wd} (h : EnvOk K W1 W H σ ρ) (e : Ext W0 W1) : EnvOk K W0 W H σ ρ := ⟨e.trans h.ext, h.ok, h.len, h.slot, h.apart⟩
theorem SlotOk.there {s : Option (Option V)} {e : Ent} (h : SlotOk K W H s e) (o : e.own = true) : ∃ a u, s = some (some (.ref a)) ∧ H a = some u ∧ W.S a = none ∧ ¬ W.T a ∧ mutk u = true := by
  cases e with
  | un => cases o
  | cls C => cases o
  | ld t es => cases o
  | dat d => cases o
  | ol n ds =>
    obtain ⟨a, xs, e, s1, t1, n1, h1, r⟩ := h
    exact ⟨a, _, e, h1, s1, t1, rfl⟩
  | od t es =>
    obtain ⟨a, e, s1, t1, h1⟩ := h
    rcases h1 with ⟨rfl, kvs, h1, z, r⟩ | ⟨rfl, kvs, h1, z, r⟩
    · exact ⟨a, _, e, h1, s1, t1, rfl⟩
    · exact ⟨a, _, e, h1, s1, t1, rfl⟩
  | oi a C fs =>
    obtain ⟨_, dx, vs, e, s1, t1, h1, n1, r⟩ := h
    exact ⟨a, _, e, h1, s1, t1, rfl⟩
theorem getSet {α : Type} {l : List α} {i j : Nat} {x y : α} (h : (l.set i x)[j]? = some y) : (j = i ∧ y = x ∧ i < l.length) ∨ (j ≠ i ∧ l[j]? = some y) := by
  by_cases e : i = j
  · subst e
    by_cases lt : i < l.length
    · rw [List.getElem?_set_self lt] at h
      exact .inl ⟨rfl, (Option.some.inj h).symm, lt⟩
    · rw [List.getElem?_eq_none (by simpa using lt)] at h
      cases h
  · rw [List.getElem?_set_ne e] at h
    exact .inr ⟨fun z => e z.symm, h⟩
/-- a slot is set: to a datum, or to what no other slot holds -/
theorem EnvOk.put (h : EnvOk K W0 W H σ ρ) {i : Nat} {v : V} {e : Ent} (s : SlotOk K W H (some (some v)) e) (n : e.own = true → ∀ j a, v = .ref a → HasOwn σ ρ j a → j = i) : EnvOk K W0 W H (σ.set i (some v)) (ρ.set i e) := by
  refine ⟨h.ext, h.ok, by rw [List.length_set, List.length_set]; exact h.len, fun j u q => ?_, fun j k a hj hk => ?_⟩
  · rcases getSet q with ⟨rfl, rfl, lt⟩ | ⟨ne, q⟩
    · rw [List.getElem?_set_self (by rw [h.len]; exact lt)]
      exact s
    · rw [List.getElem?_set_ne (Ne.symm ne)]
      exact h.slot j u q
  · have tell : ∀ {m : Nat}, HasOwn (σ.set i (some v)) (ρ.set i e) m a → (m = i ∧ v = .ref a ∧ e.own = true) ∨ (m ≠ i ∧ HasOwn σ ρ m a) := fun {m} hm => by
      obtain ⟨h1, u, h2, h3⟩ := hm
      rcases getSet h2 with ⟨rfl, rfl, lt⟩ | ⟨ne, h2⟩
      · rw [List.getElem?_set_self (by rw [h.len]; exact lt)] at h1
        exact .inl ⟨rfl, Option.some.inj (Option.some.inj h1), h3⟩
      · rw [List.getElem?_set_ne (Ne.symm ne)] at h1
        exact .inr ⟨ne, h1, u, h2, h3⟩
    rcases tell hj with ⟨ej, vj, oj⟩ | ⟨nj, hj⟩
    · rcases tell hk with ⟨ek, _, _⟩ | ⟨nk, hk⟩
      · rw [ej, ek]
      · exact absurd (n oj k a vj hk) nk
    · rcases tell hk with ⟨ek, vk, ok⟩ | ⟨nk, hk⟩
      · exact absurd (n ok j a vk hj) nj
      · exact h.apart j k a hj hk
theorem EnvOk.setD (h : EnvOk K W0 W H σ ρ) {i : Nat} {v : V} {d : D} (r : Rep K W v d) : EnvOk K W0 W H (σ.set i (some v)) (ρ.set i (.dat d)) := h.put ⟨v, rfl, r⟩ fun o => by cases o
/-- what a slot holds by itself is held -/
theorem EnvOk.holds (h : EnvOk K W0 W H σ ρ) {i : Nat} {a : Addr} (x : HasOwn σ ρ i a) : ∃ u, H a = some u ∧ W.S a = none ∧ ¬ W.T a ∧ mutk u = true := by
  obtain ⟨h1, e, h2, h3⟩ := x
  obtain ⟨b, u, q, r⟩ := (h.slot i e h2).there h3
  rw [h1] at q
  cases q
  exact ⟨u, r⟩
/-- a new object, which this slot alone holds -/
theorem EnvOk.setO (h : EnvOk K W0 W H σ ρ) {i : Nat} {a : Addr} {e : Ent} {G : Hp} (n : ∀ j, ¬ HasOwn σ ρ j a) (s : SlotOk K W H (some (some (.ref a))) e) : EnvOk K W0 W H (σ.set i (some (.ref a))) (ρ.set i e) :=
  h.put s fun _ j b eb hb => by cases eb; exact absurd hb (n j)
end
/-! ### the judgements -/
/-- what a def's body is proved in: what is raised, by data and by the layer -/
structure Cn where
  K : PySem.W.Frag
  E : XK
  De : Xn → Prop
def Cn.Eok (c : Cn) (W0 : Wd) : Prop := ∀ C dx x W' H', Ext W0 W' → Ok W' H' → RepX c.K W' C dx x → c.De x → c.E C dx H'
theorem Cn.Eok.mono {c : Cn} {W0 W1 : Wd} (h : c.Eok W0) (e : Ext W0 W1) : c.Eok W1 := fun C dx x W' H' ext => h C dx x W' H' (e.trans ext)
abbrev DTE := Env' → (D → Prop) → Prop
abbrev DTT := Env' → (Bool → Prop) → Prop
abbrev DTA := Env' → (List D → Prop) → Prop
structure DEnds where
  nx : Env' → Prop
  rt : D → Prop
  bk : Env' → Prop := fun _ => False
  ct : Env' → Prop := fun _ => False
abbrev DTS := DEnds → Env' → Prop
structure EndsOk (c : Cn) (W0 : Wd) (Dd : DEnds) (D : Ends) : Prop where
  nx : ∀ σ ρ W H, EnvOk c.K W0 W H σ ρ → Dd.nx ρ → D.nx σ H
  rt : ∀ v d W H, Ext W0 W → Ok W H → Rep c.K W v d → Dd.rt d → D.rt v H
  bk : ∀ σ ρ W H, EnvOk c.K W0 W H σ ρ → Dd.bk ρ → D.bk σ H
  ct : ∀ σ ρ W H, EnvOk c.K W0 W H σ ρ → Dd.ct ρ → D.ct σ H
structure Ev (c : Cn) (te : TE) (f : DTE) : Prop where
  run : ∀ {W0 W : Wd} {H : Hp} {σ : L2.St} {ρ : Env'} {Q : VK} {Dq : D → Prop}, c.Eok W0 → EnvOk c.K W0 W H σ ρ → f ρ Dq → (∀ v d W' H', Go W H W' H' → Rep c.K W' v d → Dq d → Q v H') → te σ H Q
/-- a new object that nobody else holds -/
structure Ef (c : Cn) (te : TE) (f : Env' → (Ent → Prop) → Prop) : Prop where
  run : ∀ {W0 W : Wd} {H : Hp} {σ : L2.St} {ρ : Env'} {Q : VK} {Dq : Ent → Prop}, c.Eok W0 → EnvOk c.K W0 W H σ ρ → f ρ Dq → (∀ a e W' H', ¬ Owned W H a → Go W H W' H' → e.own = true → SlotOk c.K W' H' (some (some (.ref a))) e → Dq e → Q (.ref a) H') → te σ H Q
structure Tv (c : Cn) (tt : TT) (f : DTT) : Prop where
  run : ∀ {W0 W : Wd} {H : Hp} {σ : L2.St} {ρ : Env'} {Q : Bool → Hp → Prop} {Dq : Bool → Prop}, c.Eok W0 → EnvOk c.K W0 W H σ ρ → f ρ Dq → (∀ b W' H', Go W H W' H' → Dq b → Q b H') → tt σ H Q
structure Av (c : Cn) (ta : TA) (f : DTA) : Prop where
  run : ∀ {W0 W : Wd} {H : Hp} {σ : L2.St} {ρ : Env'} {Q : List V → Hp → Prop} {Dq : List D → Prop}, c.Eok W0 → EnvOk c.K W0 W H σ ρ → f ρ Dq → (∀ vs ds W' H', Go W H W' H' → RepL c.K W' vs ds → Dq ds → Q vs H') → ta σ H Q
structure Sv (c : Cn) (ts : TS) (g : DTS) : Prop where
  run : ∀ {W0 W : Wd} {H : Hp} {σ : L2.St} {ρ : Env'} {D : Ends} {Dd : DEnds}, c.Eok W0 → EnvOk c.K W0 W H σ ρ → g Dd ρ → EndsOk c W0 Dd D → ts D σ H
def DE (X : Cx) (c : Cn) (e : Expr) (f : DTE) : Prop := ∃ te, PE X e te ∧ Ev c te f
def DF (X : Cx) (c : Cn) (e : Expr) (f : Env' → (Ent → Prop) → Prop) : Prop := ∃ te, PE X e te ∧ Ef c te f
def DT (X : Cx) (c : Cn) (e : Expr) (f : DTT) : Prop := ∃ tt, PT X e tt ∧ Tv c tt f
def DW (X : Cx) (c : Cn) (e : Expr) (f : DTT) : Prop := ∃ tt, PW X e tt ∧ Tv c tt f
def DA (X : Cx) (c : Cn) (es : List Expr) (f : DTA) : Prop := ∃ ta, PA X es ta ∧ Av c ta f
def DS (X : Cx) (c : Cn) (s : Stmt) (g : DTS) : Prop := ∃ ts, PS X s ts ∧ Sv c ts g
def DSs (X : Cx) (c : Cn) (s : List Stmt) (g : DTS) : Prop := ∃ ts, PSs X s ts ∧ Sv c ts g
section
variable {X : Cx} {c : Cn} {a b e : Expr} {es : List Expr} {fa fb f : DTE} {pos : Pos}
/-! ### names and constants -/
def dVar (i : Nat) : DTE := fun ρ Q => match ρ[i]? with
  | some (.dat d) => Q d
  | some (.ld t es) => Q (.dct t es)
  | _ => False
def dC (d : D) : DTE := fun _ Q => Q d
theorem dv (i : Nat) {x : Str} (hN : X.N[i]? = some x := by rfl) (hv : Vis X.env.scope x := by first | exact Or.inl rfl | exact Or.inr (Or.inl rfl) | exact Or.inr (Or.inr rfl)) (hd : (x == ("__debug__" : Str)) = false := by decide)
    (hcd : (x == ("__classdict__" : Str)) = false := by decide) : DE X c (.Name x pos) (dVar i) := by
  refine ⟨_, pe_var hN hv hd hcd, ⟨fun {W0 W H σ ρ Q Dq} _ en h k => ?_⟩⟩
  unfold dVar at h
  cases q : ρ[i]? with
  | none => rw [q] at h; exact h.elim
  | some u =>
    rw [q] at h
    cases u with
    | dat d =>
      obtain ⟨v, e, r⟩ := en.slot i _ q
      exact ⟨v, e, k v d W H (Go.refl en.ok) r h⟩
    | ld t es =>
      obtain ⟨a, o, e, r⟩ := en.slot i _ q
      refine ⟨.ref a, e, k _ _ W H (Go.refl en.ok) ?_ h⟩
      rcases r with ⟨rfl, kvs, h1, z, r⟩ | ⟨rfl, kvs, h1, z, r⟩
      · exact .dK z (.inr ⟨o, h1⟩) r
      · exact .dT z (.inr ⟨o, h1⟩) r
    | _ => exact h.elim
theorem Ev.const {v : V} {d : D} (r : ∀ W, Rep c.K W v d) : Ev c (tC v) (dC d) := ⟨fun _ en h k => k _ _ _ _ (Go.refl en.ok) (r _) h⟩
theorem de_int {i : Int} {j} : DE X c (.Constant (.int i) j pos) (dC (.int i)) := ⟨_, pe_int, Ev.const fun _ => .int i⟩
theorem de_bl {b : Bool} {j} : DE X c (.Constant (.bool b) j pos) (dC (.bl b)) := ⟨_, pe_bl, Ev.const fun _ => .bl b⟩
theorem de_non {j} : DE X c (.Constant .none j pos) (dC .non) := ⟨_, pe_non, Ev.const fun _ => .non⟩
theorem de_str {x : Str} {j} : DE X c (.Constant (.str x) j pos) (dC (.str x)) := ⟨_, pe_str, Ev.const fun _ => .str x⟩
/-- a module's constant -/
theorem de_globI {x : Str} {i : Int} {t : Tok} (hg : Gl X x) (hm : X.mg x = some (.int i t)) (hd : (x == ("__debug__" : Str)) = false := by decide) : DE X c (.Name x pos) (dC (.int i)) := ⟨_, pe_glob (v := .int i) hg hm ⟨t, rfl⟩ hd, Ev.const fun _ => .int i⟩
/-! ### operators -/
def DOp2 (K : PySem.W.Frag) (r : R2) (g : D → D → (D → Prop) → Prop) : Prop := ∀ {W : Wd} {H : Hp} {x y : V} {dx dy : D} {Q : VK} {Dq : D → Prop}, Ok W H → Rep K W x dx → Rep K W y dy → g dx dy Dq → (∀ v d W' H', Go W H W' H' → Rep K W' v d → Dq d → Q v H') → r x y H Q
def dOp (g : D → D → (D → Prop) → Prop) (fa fb : DTE) : DTE := fun ρ Q => fa ρ fun x => fb ρ fun y => g x y Q
theorem Ev.op {ta tb : TE} {r : R2} {g : D → D → (D → Prop) → Prop} (l : DOp2 c.K r g) (ha : Ev c ta fa) (hb : Ev c tb fb) : Ev c (tOp r ta tb) (dOp g fa fb) :=
  ⟨fun eo en h k => ha.run eo en h fun x dx W1 H1 g1 r1 h1 => hb.run eo (en.go g1) h1 fun y dy W2 H2 g2 r2 h2 => l g2.ok (r1.mono g2.ext) r2 h2 fun v d W3 H3 g3 r3 h3 => k v d W3 H3 ((g1.trans g2).trans g3) r3 h3⟩
theorem de_op {op : Operator} {r : R2} {g : D → D → (D → Prop) → Prop} (ho : OpR X (binaryOp op) r) (l : DOp2 c.K r g) (ha : DE X c a fa) (hb : DE X c b fb) : DE X c (.BinOp a op b pos) (dOp g fa fb) := by
  obtain ⟨ta, pa, ea⟩ := ha
  obtain ⟨tb, pb, eb⟩ := hb
  exact ⟨_, pe_op ho pa pb, Ev.op l ea eb⟩
theorem de_cmp {op : CmpOp} {r : R2} {g : D → D → (D → Prop) → Prop} (ho : OpR X (compareOp op) r) (l : DOp2 c.K r g) (ha : DE X c a fa) (hb : DE X c b fb) (hm : behindInMarks op b = false) : DE X c (.Compare a [op] [b] pos) (dOp g fa fb) := by
  obtain ⟨ta, pa, ea⟩ := ha
  obtain ⟨tb, pb, eb⟩ := hb
  exact ⟨_, pe_cmpR ho pa pb hm, Ev.op l ea eb⟩
def dB (f : DTE) : DTT := fun ρ Q => f ρ fun d => match d with
  | .bl b => Q b
  | _ => False
theorem Tv.of {te : TE} (h : Ev c te f) : Tv c (tTest te) (dB f) := ⟨fun eo en q k => h.run eo en q fun v d W' H' g r q' => by
    cases r with
    | bl b => exact ⟨b, rfl, k b W' H' g q'⟩
    | _ => exact False.elim q'⟩
theorem Tv.of' {te : TE} (h : Ev c te f) : Tv c (tB te) (dB f) := ⟨fun eo en q k => h.run eo en q fun v d W' H' g r q' => by
    cases r with
    | bl b => exact ⟨b, rfl, k b W' H' g q'⟩
    | _ => exact False.elim q'⟩
theorem dt_cmp {op : CmpOp} {r : R2} {g : D → D → (D → Prop) → Prop} (ho : OpR X (compareOp op) r) (l : DOp2 c.K r g) (ha : DE X c a fa) (hb : DE X c b fb) (hm : behindInMarks op b = false) : DT X c (.Compare a [op] [b] pos) (dB (dOp g fa fb)) := by
  obtain ⟨ta, pa, ea⟩ := ha
  obtain ⟨tb, pb, eb⟩ := hb
  exact ⟨_, pt_cmpR ho pa pb hm, Tv.of (Ev.op l ea eb)⟩
theorem dt_val (h : DE X c e f) (he : ∀ whole, isTrue e X.env whole = (do let v ← whole; standAt e.pos; holding [v] (truthy v)) := by intro _; rfl) : DT X c e (dB f) := by
  obtain ⟨te, pe, ev⟩ := h
  exact ⟨_, pt_val pe he, Tv.of' ev⟩
/-! ### and, or, not -/
variable {tA tB : DTT} {rest : List Expr}
def dNot (t : DTT) : DTT := fun ρ Q => t ρ fun b => Q (!b)
def dAnd (t u : DTT) : DTT := fun ρ Q => t ρ fun b => if b = true then u ρ Q else Q false
def dOr (t u : DTT) : DTT := fun ρ Q => t ρ fun b => if b = true then Q true else u ρ Q
theorem dt_not (h : DT X c a tA) : DT X c (.UnaryOp .Not a pos) (dNot tA) := by
  obtain ⟨t, p, v⟩ := h
  exact ⟨_, pt_not p, ⟨fun eo en q k => v.run eo en q fun b W' H' g q' => k (!b) W' H' g q'⟩⟩
theorem DW.dt {e : Expr} {t : DTT} (h : DW X c e t) : DT X c e t := by
  obtain ⟨t, p, v⟩ := h
  exact ⟨_, p.pt, v⟩
theorem dw_and1 (h : DT X c a tA) : DW X c (.BoolOp .And [a] pos) tA := by
  obtain ⟨t, p, v⟩ := h
  exact ⟨_, pw_and1 p, v⟩
theorem dw_or1 (h : DT X c a tA) : DW X c (.BoolOp .Or [a] pos) tA := by
  obtain ⟨t, p, v⟩ := h
  exact ⟨_, pw_or1 p, v⟩
theorem dw_and (ha : DT X c a tA) (hb : DW X c (.BoolOp .And (b :: rest) pos) tB) : DW X c (.BoolOp .And (a :: b :: rest) pos) (dAnd tA tB) := by
  obtain ⟨t, p, v⟩ := ha
  obtain ⟨t', p', v'⟩ := hb
  refine ⟨_, pw_and p p', ⟨fun eo en q k => v.run eo en q fun x W' H' g q' => ?_⟩⟩
  cases x with
  | true => exact v'.run eo (en.go g) q' fun y W2 H2 g2 q2 => k y W2 H2 (g.trans g2) q2
  | false => exact k false W' H' g q'
theorem dw_or (ha : DT X c a tA) (hb : DW X c (.BoolOp .Or (b :: rest) pos) tB) : DW X c (.BoolOp .Or (a :: b :: rest) pos) (dOr tA tB) := by
  obtain ⟨t, p, v⟩ := ha
  obtain ⟨t', p', v'⟩ := hb
  refine ⟨_, pw_or p p', ⟨fun eo en q k => v.run eo en q fun x W' H' g q' => ?_⟩⟩
  cases x with
  | false => exact v'.run eo (en.go g) q' fun y W2 H2 g2 q2 => k y W2 H2 (g.trans g2) q2
  | true => exact k true W' H' g q'
def dAndV (f g : DTE) : DTE := fun ρ Q => f ρ fun d => match d with
  | .bl b => if b = true then g ρ Q else Q (.bl false)
  | _ => False
def dOrV (f g : DTE) : DTE := fun ρ Q => f ρ fun d => match d with
  | .bl b => if b = true then Q (.bl true) else g ρ Q
  | _ => False
def dNotV (f : DTE) : DTE := fun ρ Q => f ρ fun d => match d with
  | .bl b => Q (.bl (!b))
  | _ => False
theorem de_one {op} (h : DE X c a f) : DE X c (.BoolOp op [a] pos) f := by
  obtain ⟨t, p, v⟩ := h
  exact ⟨_, pe_one p, v⟩
theorem de_and (ha : DE X c a fa) (hb : DE X c (.BoolOp .And (b :: rest) pos) fb) : DE X c (.BoolOp .And (a :: b :: rest) pos) (dAndV fa fb) := by
  obtain ⟨t, p, v⟩ := ha
  obtain ⟨t', p', v'⟩ := hb
  refine ⟨_, pe_and p p', ⟨fun eo en q k => v.run eo en q fun x d W' H' g r q' => ?_⟩⟩
  cases r with
  | bl b =>
    refine ⟨b, rfl, ?_⟩
    cases b with
    | true => exact v'.run eo (en.go g) q' fun y d W2 H2 g2 r2 q2 => k y d W2 H2 (g.trans g2) r2 q2
    | false => exact k _ _ W' H' g (.bl false) q'
  | _ => exact False.elim q'
theorem de_or (ha : DE X c a fa) (hb : DE X c (.BoolOp .Or (b :: rest) pos) fb) : DE X c (.BoolOp .Or (a :: b :: rest) pos) (dOrV fa fb) := by
  obtain ⟨t, p, v⟩ := ha
  obtain ⟨t', p', v'⟩ := hb
  refine ⟨_, pe_or p p', ⟨fun eo en q k => v.run eo en q fun x d W' H' g r q' => ?_⟩⟩
  cases r with
  | bl b =>
    refine ⟨b, rfl, ?_⟩
    cases b with
    | false => exact v'.run eo (en.go g) q' fun y d W2 H2 g2 r2 q2 => k y d W2 H2 (g.trans g2) r2 q2
    | true => exact k _ _ W' H' g (.bl true) q'
  | _ => exact False.elim q'
theorem de_not (ha : DE X c a fa) : DE X c (.UnaryOp .Not a pos) (dNotV fa) := by
  obtain ⟨t, p, v⟩ := ha
  refine ⟨_, pe_not p, ⟨fun eo en q k => v.run eo en q fun x d W' H' g r q' => ?_⟩⟩
  cases r with
  | bl b => exact ⟨b, rfl, k _ _ W' H' g (.bl _) q'⟩
  | _ => exact False.elim q'
def dIfE (t : DTT) (fa fb : DTE) : DTE := fun ρ Q => t ρ fun b => if b = true then fa ρ Q else fb ρ Q
theorem de_ifExp {e : Expr} (ht : DT X c e tA) (ha : DE X c a fa) (hb : DE X c b fb) : DE X c (.IfExp e a b pos) (dIfE tA fa fb) := by
  obtain ⟨t, p, v⟩ := ht
  obtain ⟨t1, p1, v1⟩ := ha
  obtain ⟨t2, p2, v2⟩ := hb
  refine ⟨_, pe_ifExp p p1 p2, ⟨fun eo en q k => v.run eo en q fun x W' H' g q' => ?_⟩⟩
  cases x with
  | true => exact v1.run eo (en.go g) q' fun y d W2 H2 g2 r2 q2 => k y d W2 H2 (g.trans g2) r2 q2
  | false => exact v2.run eo (en.go g) q' fun y d W2 H2 g2 r2 q2 => k y d W2 H2 (g.trans g2) r2 q2
/-! ### arguments -/
def dNil : DTA := fun _ Q => Q []
def dCons (f : DTE) (g : DTA) : DTA := fun ρ Q => f ρ fun d => g ρ fun ds => Q (d :: ds)
theorem da_nil : DA X c [] dNil := ⟨_, pa_nil, ⟨fun _ en q k => k _ _ _ _ (Go.refl en.ok) .nil q⟩⟩
theorem da_cons {g : DTA} (ha : DE X c e f) (hb : DA X c es g) (hs : starEach (e :: es) X.env = (false, eval e X.env) :: starEach es X.env := by rfl) : DA X c (e :: es) (dCons f g) := by
  obtain ⟨t, p, v⟩ := ha
  obtain ⟨t', p', v'⟩ := hb
  exact ⟨_, pa_cons p p' hs, ⟨fun eo en q k => v.run eo en q fun x d W' H' g1 r q' => v'.run eo (en.go g1) q' fun xs ds W2 H2 g2 r2 q2 => k _ _ W2 H2 (g1.trans g2) (.cons (r.mono g2.ext) r2) q2⟩⟩
/-! ### displays -/
def dTup (g : DTA) : DTE := fun ρ Q => g ρ fun ds => ds.length ≤ sizeLine ∧ Q (.tup ds)
theorem de_tup {g : DTA} {x1} (h : DA X c es g) : DE X c (.Tuple es x1 pos) (dTup g) := by
  obtain ⟨t, p, v⟩ := h
  refine ⟨_, pe_tup p, ⟨fun eo en q k => v.run eo en q fun xs ds W' H' g r q' => ⟨by rw [r.len]; exact q'.1, fun p np => ?_⟩⟩⟩
  have g2 := Go.new g.ok np (o := .tup xs) (by intro x z; cases z)
  exact k _ _ _ _ (g.trans g2) (.tup (by rw [r.len]; exact q'.1) (.inl upd_same) (r.mono g2.ext)) q'.2
end
end DL

set_option Elab.async false
set_option linter.all false
set_option maxRecDepth 100000
set_option maxHeartbeats 2000000
/-! t[::-1] of a tuple; list(xs), with the word that it is not sys.modules; how long the repr of data may be. -/
namespace LW
open PySem PySem.Spec PyProof.Rows L2 RZ
section
variable {prog : Program} {w : World} {A : Around} {E : Value → Shared → Prop} {s : Shared}
/-- a slice without bounds, its step -1 -/
theorem applied_rev {sl : Addr} {u : Tok} {n : Nat} {Q : Int × Int × Nat → Shared → Prop} (hs : s.heap.IsSliceOf sl .none .none (.int (-1) u)) (h : Q ((n : Int) - 1, -1, n) s) : wpAny (model prog w) A (Builtin.Slice.sliceApplied (.ref sl) (pure (n : Int))) Q E s := by
  obtain ⟨os, hos, hcs, hds⟩ := id hs
  unfold Builtin.Slice.sliceApplied Builtin.Slice.sliceFields
  refine wpAny_bind (wpAny_bind (wpAny_field hos hds (x := .none) rfl (wpAny_bind (wpAny_field hos hds (x := .none) rfl (wpAny_bind (wpAny_field hos hds (x := .int (-1) u) rfl (wpAny_pure ?_)))))))
  refine wpAny_bind (HT.slicePart_ (.int (-1) u) ?_)
  show wpAny _ _ (if ((-1 : Int) == 0) = true then _ else _) _ _ s
  rw [if_neg (by decide)]
  refine wpAny_bind (HT.slicePart_ .none (wpAny_bind (HT.slicePart_ .none (wpAny_bind (wpAny_pure ?_)))))
  have e : Builtin.Slice.slicePlaces ((n : Int) - 1) (-1) (-1) = n := by
    unfold Builtin.Slice.slicePlaces
    rw [if_neg (show ¬ ((-1 : Int) > 0) by decide)]
    split
    · rw [show -(-1 : Int) = 1 from rfl, Int.ediv_one]
      omega
    · omega
  show wpAny _ _ (pure ((n : Int) - 1, (-1 : Int), Builtin.Slice.slicePlaces ((n : Int) - 1) (-1) (-1))) _ _ s
  rw [e]
  exact wpAny_pure h
theorem rev_go (xs : Array Value) : ∀ n : Nat, n ≤ xs.size → ((List.range n).filterMap fun (k : Nat) => xs[((n : Int) - 1 + (k : Int) * (-1)).toNat]?) = (xs.toList.take n).reverse
  | 0, _ => by simp
  | n + 1, h => by
    have hn : n < xs.toList.length := by rw [Array.length_toList]; omega
    rw [List.range_succ_eq_map, List.filterMap_cons, List.filterMap_map]
    have e0 : (((n + 1 : Nat) : Int) - 1 + ((0 : Nat) : Int) * (-1)).toNat = n := by omega
    rw [e0, Array.getElem?_eq_getElem (show n < xs.size by omega)]
    have e1 : ((fun (k : Nat) => xs[(((n + 1 : Nat) : Int) - 1 + (k : Int) * (-1)).toNat]?) ∘ Nat.succ) = fun (k : Nat) => xs[((n : Int) - 1 + (k : Int) * (-1)).toNat]? := by
      funext k
      show xs[(((n + 1 : Nat) : Int) - 1 + ((k + 1 : Nat) : Int) * (-1)).toNat]? = _
      rw [show (((n + 1 : Nat) : Int) - 1 + ((k + 1 : Nat) : Int) * (-1)).toNat = ((n : Int) - 1 + (k : Int) * (-1)).toNat by omega]
    rw [e1, rev_go xs n (by omega), List.take_add_one, List.getElem?_eq_getElem hn]
    show _ = (xs.toList.take n ++ [xs.toList[n]]).reverse
    rw [List.reverse_append]
    rfl
theorem rev_picked (xs : Array Value) : ((List.range xs.size).filterMap fun (k : Nat) => xs[((xs.size : Int) - 1 + (k : Int) * (-1)).toNat]?) = xs.toList.reverse := by
  rw [rev_go xs xs.size (Nat.le_refl _), ← Array.length_toList, List.take_length]
theorem getItem_tuple_rev {t sl : Addr} {items : Array Value} {u : Tok} {Q : Value → Shared → Prop} (ht : IsTup s.heap t items) (hs : s.heap.IsSliceOf sl .none .none (.int (-1) u)) (hz : items.size ≤ sizeLine)
    (h : Q (.ref s.heap.objs.size) { s with heap := s.heap.push { cls := .type "tuple", data := .seq items.toList.reverse.toArray } }) : wpAny (model prog w) A (getItem (.ref t) (.ref sl)) Q E s := by
  have hk : sizeOk (.seq items.toList.reverse.toArray) := by
    show items.toList.reverse.toArray.size ≤ sizeLine
    rw [List.size_toArray, List.length_reverse, Array.length_toList]
    exact hz
  obtain ⟨os, hos, hcs, hds⟩ := id hs
  unfold getItem
  try with_reducible refine wpAny_holding ?_
  first | refine wpAny_bind (wpAny_pure ?_) | skip
  refine wpAny_bind (wpAny_sequenceKey ht.typeIs (by decide) ?_)
  refine wpAny_bind (wpAny_callSpecial?_slot (name := Str.ofString "__getitem__") ht.typeIs PyProof.Rows.slot_tuple_getitem (wpAny_call_entry PyProof.Rows.slot_tuple_getitem ht.typeIs entry_tuple_getitem ?_ (args_tuple_getitem _ _)))
  show wpAny _ _ (Builtin.Tuple.tupleItemsOf (.ref t) >>= _) _ _ s
  refine wpAny_bind (tupleItemsOf_ ht (wpAny_bind (wpAny_typeOf ⟨os, hos, hcs⟩ ?_)))
  rw [if_pos (by decide)]
  refine wpAny_bind (applied_rev hs ?_)
  have no : ¬ ((((items.size : Int) - 1) == 0 && (-1 : Int) == 1 && items.size == items.size) = true) := by
    rw [show ((-1 : Int) == 1) = false from rfl, Bool.and_false, Bool.false_and]
    exact Bool.false_ne_true
  show wpAny _ _ (if (((items.size : Int) - 1) == 0 && (-1 : Int) == 1 && items.size == items.size) = true then _ else _) _ _ s
  rw [if_neg no, rev_picked]
  first
    | exact wpAny_bind (m := Builtin.Tuple.tupleExact _) (wpAny_newObj_type (wpAny_pure ⟨_, rfl, wpAny_pure h⟩) hk)
    | exact wpAny_bind (m := Builtin.Tuple.tupleExact _) (wpAny_newObj_type (wpAny_bind (wpAny_pure (wpAny_pure ⟨_, rfl, wpAny_pure h⟩))) hk)
    | exact wpAny_bind (wpAny_bind (m := Builtin.Tuple.tupleExact _) (wpAny_newObj_type (wpAny_pure (wpAny_pure ⟨_, rfl, wpAny_pure h⟩)) hk))
    | exact wpAny_bind (wpAny_bind (m := Builtin.Tuple.tupleExact _) (wpAny_newObj_type (wpAny_pure ⟨_, rfl, wpAny_pure h⟩) hk))
end
/-- t[::-1] -/
def tRevT (K : PySem.W.Frag) (te : TE) : TE := fun σ H Q => te σ H fun x H1 => ∃ a xs, x = .ref a ∧ SqT K H1 a xs ∧ ∀ p, H1 p = none → Q (.ref p) (upd H1 p (.tup xs.reverse))
section
variable {X : Cx}
theorem pe_revT {e : Expr} {te : TE} {k : Nat} {p1 p2 p3 pos : Pos} (he : PE X e te) : PE X (.Subscript e (.Slice none none (some (.UnaryOp .USub (.Constant (.int 1) k p1) p2)) p3) pos) (tRevT X.K te) := by
  refine ⟨fun pins s σ H Q I h => ?_⟩
  refine Subscript_ (thn (he.run pins s σ H _ I h) fun v s1 ⟨x, H1, I1, r1, a, xs, ex, hx, q⟩ => ?_)
  subst ex
  cases r1
  have hst : PO X (some (.UnaryOp .USub (.Constant (.int 1) k p1) p2)) (tPart (tUn (rU fun i => .int (-i)) (tC (.int 1)))) := po_some (pe_un un_neg pe_int)
  refine wpAny_Slice (thn (po_none.run pins s1 σ H1 (fun o H2 => o = none ∧ H2 = H1) I1 ⟨rfl, rfl⟩) fun vl s2 ⟨l, H2, I2, pl, el, e2⟩ => ?_)
  subst el e2
  refine thn (po_none.run pins s2 σ H2 (fun o H3 => o = none ∧ H3 = H2) I2 ⟨rfl, rfl⟩) fun vu s3 ⟨u, H3, I3, pu, eu, e3⟩ => ?_
  subst eu e3
  refine thn (hst.run pins s3 σ H3 (fun o H4 => o = some (-1) ∧ H4 = H3) I3 ⟨1, rfl, -1, rfl, rfl, rfl⟩) fun vs s4 ⟨o, H4, I4, ps, eo, e4⟩ => ?_
  subst eo e4
  cases pl
  cases pu
  cases ps with
  | int _ tk =>
    have I5 : Inv X pins σ H4 { s4 with heap := s4.heap.push { cls := .type "slice", data := .fields #[.none, .none, .int (-1) tk] } } := I4.kept (t' := s4.toks) fun b ob q => Heap.get?_push_of_some _ q
    obtain ⟨its, r, ht, hz⟩ := I5.tuple hx
    show wpAny (model X.prog X.w) X.A (subscriptTail e (.Slice none none (some (.UnaryOp .USub (.Constant (.int 1) k p1) p2)) p3) (.ref a) (.ref s4.heap.objs.size)) (EP X pins σ Q) X.xe { s4 with heap := s4.heap.push { cls := .type "slice", data := .fields #[.none, .none, .int (-1) tk] } }
    refine tail_any (ops := [.ref a, .ref s4.heap.objs.size]) ht.typeIs PyProof.Rows.slot_tuple_getitem.lookup ?_ (by with_unfolding_all rfl)
    refine getItem_tuple_rev ht (Heap.IsSliceOf.new _ _ _ _) (by rw [List.size_toArray, ← r.length]; exact hz) ?_
    refine ⟨.ref _, _, I5.laid (t' := s4.toks) (o := .tup xs.reverse) (fun b ob q => Heap.get?_push_of_some _ q) (Nat.le_refl _) ?_, rfl, q _ (I5.hok.fresh (Nat.le_refl _))⟩
    exact ⟨by rw [List.length_reverse]; exact hz, _, r.reverse, IsTup.new _ _⟩
/-- list(t), a tuple -/
def rListT (K : PySem.W.Frag) : List V → Hp → VK → Prop := fun xs H Q => ∃ p ys, xs = [.ref p] ∧ SqT K H p ys ∧ ∀ l, H l = none → l ≠ sysModules → Q (.ref l) (upd H l (.lst ys))
theorem call_listT : CallR X (.type "list") (rListT X.K) := by
  intro pins s σ H xs us Q I r h
  obtain ⟨p, ys, rfl, hq, q⟩ := h
  obtain rfl := Vals.ref1 r
  obtain ⟨its, rv, pl, hz⟩ := I.tuple hq
  obtain ⟨o, ho, hc, n, hd⟩ := pl
  refine call_list_seq p (.inr rfl) ho hc hd (fun h' c' kp e => ?_) (by rw [List.size_toArray, ← rv.length]; exact hz)
  exact ⟨.ref s.heap.objs.size, _, I.laid (t' := s.toks) kp (Nat.le_refl _) (show ObjOk X.prog X.w _ h' _ (.lst ys) from ⟨hz, its, c', rv, e⟩), rfl, q _ (I.hok.fresh (Nat.le_refl _)) (Nat.ne_of_gt I.big)⟩
end
/-! ### sizes -/
/-- data not deeper than k, its repr not longer than n -/
def Sz (k n : Nat) (d : PyData) : Prop := d.showable = true ∧ d.depth ≤ k ∧ d.shown.length ≤ n
theorem Sz.mono {k k' n n' : Nat} {d : PyData} (h : Sz k n d) (hk : k ≤ k') (hn : n ≤ n') : Sz k' n' d := ⟨h.1, Nat.le_trans h.2.1 hk, Nat.le_trans h.2.2 hn⟩
theorem Sz.int {i : Int} (h : i.natAbs < 10 ^ 40) : Sz 0 41 (.int i) := by
  refine ⟨decide_eq_true ?_, Nat.le_refl _, ?_⟩
  · by_cases h0 : i.natAbs = 0
    · rw [h0]
      decide
    · exact (Nat.log2_lt h0).mpr (Nat.lt_of_lt_of_le h (by decide +kernel))
  · show (Str.ofString (toString i)).length ≤ 41
    rw [PySem.ofString_length]
    exact int_text_length_le10 (by decide) h
theorem Sz.str {x : Str} {m : Nat} (h : ∀ c ∈ x.cps.toList, c < 16 ^ 8) (hm : x.length ≤ m) : Sz 0 (10 * m + 2) (.str x) := ⟨rfl, Nat.le_refl _, Nat.le_trans (PySem.StrLaws.reprText_len x h) (by omega)⟩
theorem Sz.all {k n : Nat} : ∀ {ds : List PyData}, (∀ d ∈ ds, Sz k n d) → PyData.showableAll ds = true ∧ PyData.depthAll ds ≤ k ∧ ((PyData.shownAll ds).map (·.length)).sum ≤ n * ds.length ∧ (PyData.shownAll ds).length = ds.length
  | [], _ => ⟨rfl, Nat.zero_le _, Nat.zero_le _, rfl⟩
  | d :: ds, h => by
    obtain ⟨a1, a2, a3⟩ := h d List.mem_cons_self
    obtain ⟨b1, b2, b3, b4⟩ := Sz.all (ds := ds) fun d hd => h d (List.mem_cons_of_mem _ hd)
    refine ⟨by simp only [PyData.showableAll, a1, b1, Bool.and_self], by simp only [PyData.depthAll]; omega, ?_, by simp only [PyData.shownAll, List.length_cons, b4]⟩
    simp only [PyData.shownAll, List.map_cons, List.sum_cons, List.length_cons, Nat.mul_add, Nat.mul_one]
    omega
theorem Sz.tup {k n : Nat} {ds : List PyData} (h : ∀ d ∈ ds, Sz k n d) : Sz (k + 1) ((n + 2) * ds.length + 3) (.tuple ds) := by
  obtain ⟨b1, b2, b3, b4⟩ := Sz.all h
  refine ⟨by simp only [PyData.showable, b1], by simp only [PyData.depth]; omega, ?_⟩
  have q := tupleText_len_le (PyData.shownAll ds)
  have e : (PyData.tuple ds).shown = tupleText (PyData.shownAll ds) := by simp only [PyData.shown]
  rw [e, Nat.add_mul]
  omega
theorem Sz.lst {k n : Nat} {ds : List PyData} (h : ∀ d ∈ ds, Sz k n d) : Sz (k + 1) ((n + 2) * ds.length + 3) (.list ds) := by
  obtain ⟨b1, b2, b3, b4⟩ := Sz.all h
  refine ⟨by simp only [PyData.showable, b1], by simp only [PyData.depth]; omega, ?_⟩
  have q := listText_len_le (PyData.shownAll ds)
  have e : (PyData.list ds).shown = listText (PyData.shownAll ds) := by simp only [PyData.shown]
  rw [e, Nat.add_mul]
  omega
theorem Sz.none : Sz 0 10 .none := ⟨rfl, Nat.le_refl _, by decide +kernel⟩
theorem Sz.bool (b : Bool) : Sz 0 10 (.bool b) := ⟨rfl, Nat.le_refl _, by cases b <;> decide +kernel⟩
theorem Sz.dict : Sz 1 10 (.dict []) := ⟨by simp [PyData.showable, PyData.showableKv], by simp [PyData.depth, PyData.depthKv], by decide +kernel⟩
end LW

set_option Elab.async false
set_option linter.all false
set_option maxRecDepth 100000
set_option maxHeartbeats 2000000
/-! for i, x in enumerate(t), t a tuple. -/
namespace LW
open PySem PySem.Spec PyProof.Rows L2
theorem enumNewT (l : Addr) (items : Array Value) : Meets (Builtin.«enumerate.__new__» ⟨[.type "enumerate", .ref l], []⟩) (fun _ R s => s.heap.IsTuple l items ∧
      R (.ok (.ret (.ref (s.heap.push { cls := .type "tuple_iterator", data := .fields #[.ref l, .int 0 0] }).objs.size)))
        { s with heap := (s.heap.push { cls := .type "tuple_iterator", data := .fields #[.ref l, .int 0 0] }).push { cls := .type "enumerate", data := .fields #[.none, .bool false, .ref s.heap.objs.size, rawInt 0, .none, .none] } }) :=
  .of_wp fun prog w A R s ⟨hT, h⟩ => by
    obtain ⟨hp, g, d, tk, os⟩ := s
    have hsub := sub_enumerate
    wp_walk
    refine wpAny_stack_any fun st => wpAny_pure ?_
    split
    · rename_i c _ _ _ _ _
      cases (c == Value.type "enumerate") <;> (wp_walk using wpAny_pyIter_tuple hT; exact ⟨_, rfl, h⟩)
    · wp_walk using wpAny_pyIter_tuple hT
      exact ⟨_, rfl, h⟩
section
variable {prog : Program} {w : World} {A : Around} {E : Value → Shared → Prop} {s : Shared}
/-- enumerate(t): the enumerator, and the tuple's iterator below it -/
theorem call_enumT {l : Addr} {items : Array Value} {Q : Value → Shared → Prop} (hT : s.heap.IsTuple l items)
    (h : ∀ h', IsEnum h' (s.heap.objs.size + 1) s.heap.objs.size 0 .none → h'.IsTupleIter s.heap.objs.size l 0 → (∀ b o, s.heap.get? b = some o → h'.get? b = some o) → Q (.ref (s.heap.objs.size + 1)) { s with heap := h' }) :
    wpAny (model prog w) A (call (.type "enumerate") [.ref l]) Q E s := by
  obtain ⟨T, eT⟩ : ∃ T : Obj, T = { cls := .type "tuple_iterator", data := .fields #[.ref l, .int 0 0] } := ⟨_, rfl⟩
  obtain ⟨U, eU⟩ : ∃ U : Obj, U = { cls := .type "enumerate", data := .fields #[.none, .bool false, .ref s.heap.objs.size, rawInt 0, .none, .none] } := ⟨_, rfl⟩
  have m := enumNewT l items
  refine callType_new F.called_enumerate (by decide) (F.typeCall_enumerate_1 _) (F.newCall_enumerate_1 _) (fun obj => F.args_object_init_2 obj _) F.entry_enumerate_new m ⟨hT, ?_⟩
  rw [← eT, ← eU]
  have hz : (s.heap.push T).objs.size = s.heap.objs.size + 1 := Heap.size_push ..
  show _ ∧ _
  rw [hz]
  have g1 : ((s.heap.push T).push U).get? (s.heap.objs.size + 1) = some U := by
    have q := Heap.get?_push_size (s.heap.push T) (o := U) (by rw [eU]; rfl)
    rwa [hz] at q
  have g0 : ((s.heap.push T).push U).get? s.heap.objs.size = some T := Heap.get?_push_of_some _ (Heap.get?_push_size _ (by rw [eT]; rfl))
  rw [eU] at g1
  rw [eT] at g0
  refine ⟨⟨_, by rw [eU]; exact g1, rfl⟩, h _ (by rw [eU]; exact g1) ⟨_, by rw [eU, eT]; rw [eU] at g0; exact g0, rfl, rfl⟩ fun b o x => Heap.get?_push_of_some _ (Heap.get?_push_of_some _ x)⟩
end
/-- the tuple at a as it stands at each turn, each item in a new pair -/
def IteT (K : PySem.W.Frag) (a : Addr) : It :=
  ⟨fun i H => ∃ (xs : List V) (x : V), SqT K H a xs ∧ xs[i]? = some x, fun i H v H' => ∃ T x, v = .ref T ∧ H T = none ∧ H' = upd H T (.tup [.int (i : Nat), x]) ∧ ∀ xs, SqT K H a xs → xs[i]? = some x, fun i H => ∃ xs : List V, SqT K H a xs ∧ xs.length = i⟩
theorem walk_enumT {K : PySem.W.Frag} {a : Addr} {xs : List V} : Walk (IteT K a) xs.length (fun H => SqT K H a xs) (YPair (fun i => some (.int (i : Nat))) (fun i => xs[i]?)) :=
  ⟨fun i _ hi q => ⟨xs, xs[i], q, by simp [hi]⟩, fun _ q => ⟨xs, q, rfl⟩, fun i H v H' _ q y => by
    obtain ⟨T, x, h1, h2, h3, h4⟩ := y
    exact ⟨T, .int (i : Nat), x, h1, h2, h3, rfl, h4 xs q⟩⟩
theorem turn_enumT {P : Program} {w : World} {K : PySem.W.Frag} {elts : List Expr} {kk : Nat} {tpos : Pos} (a e it : Addr) :
    Turn P w K (.Tuple elts kk tpos) (IteT K a) [e, it] e (fun i h => (∃ old, IsEnum h e it ((i : Nat) : Int) old) ∧ h.IsTupleIter it a i ∧ e ≠ it ∧ a ≠ it ∧ e ≠ a) where
  mem := List.mem_cons_self
  obj := fun i h ⟨⟨old, he⟩, ⟨o, ho, hc, hd⟩, _⟩ b hb => by
    rcases List.mem_cons.mp hb with rfl | hb
    · exact ⟨_, he, fun v q => nomatch q⟩
    · rw [List.mem_singleton.mp hb]
      exact ⟨o, ho, fun v q => by rw [hd] at q; cases q⟩
  keep := fun i h h' ⟨⟨old, he⟩, hi, r⟩ k => ⟨⟨old, k e List.mem_cons_self _ he⟩, hi.at fun o q => k it (by simp) o q, r⟩
  item := by
    intro X hP hw hK hc i pins s σ H E I hf st hg
    subst hP hw hK
    obtain ⟨⟨old, he⟩, hit, hne, hai, hea⟩ := st
    obtain ⟨xs, x, hq, hx⟩ := hg
    obtain ⟨its, rv, p, hz⟩ := I.tuple hq
    have hi : i < its.toArray.size := by
      rw [List.size_toArray, ← rv.length]
      exact (List.getElem?_eq_some_iff.mp hx).1
    have lt : ∀ b ∈ [e, it], b < s.heap.objs.size := fun b hb => by
      rcases List.mem_cons.mp hb with rfl | hb
      · exact Heap.lt_size he
      · rw [List.mem_singleton.mp hb]
        exact let ⟨_, q, _⟩ := hit; Heap.lt_size q
    refine wpAny_pyNext_enum_itemD (Draws.tuple (prog := X.prog) (w := X.w) (A := X.A.in1) (I.ok.hd hc) it a hai its.toArray) he ⟨hit, p⟩ hi hne (by simp [hne, hea]) fun u h' tk pu ho st' hT hsz hk => ?_
    obtain ⟨u', hu, ru⟩ := rv.get hx
    have eu : u = u' := by
      have q : its[i]? = some u := by simpa using pu
      rw [hu] at q
      exact (Option.some.inj q).symm
    subst eu
    refine ⟨_, rfl, wpAny_letOwnedTupleGo_enum (s := { s with heap := h', toks := tk + 1 }) ho fun h'' he' sb => ?_⟩
    have hT2 := (sb.2 _ (Nat.ne_of_gt (lt e List.mem_cons_self))).trans hT
    have new : ObjOk X.prog X.w (upd H s.heap.objs.size (.tup [.int (i : Nat), x])) h'' s.heap.objs.size (.tup [.int (i : Nat), x]) :=
      ⟨by show 2 ≤ sizeLine; decide, [.int i tk, u], .cons ⟨_, rfl⟩ (.cons ru .nil), ⟨_, hT2, rfl, _, rfl⟩⟩
    have I1 : Inv X pins σ (upd H s.heap.objs.size (.tup [.int (i : Nat), x])) { s with heap := h'', toks := tk + 1 } :=
      I.turnedNew (ch := [e, it]) (fun b ob hb q => (sb.2 b fun z => hb (by simp [z])).trans (hk b ob (fun z => hb (by simp [z])) (fun z => hb (by simp [z])) q)) hf (Nat.le_refl _) new
    refine ⟨.ref s.heap.objs.size, _, I1, rfl, ⟨_, x, rfl, I.hok.fresh (Nat.le_refl _), rfl, fun ys hy => ?_⟩, ⟨⟨u, ?_⟩, st'.1.at fun o q => (sb.2 it (Ne.symm hne)).trans q, hne, hai, hea⟩, fun b hb => ?_⟩
    · rw [I.tuple_inj hy hq]
      exact hx
    · have e1 : ((i + 1 : Nat) : Int) = (i : Int) + 1 := by omega
      rw [e1]
      exact he'
    · rw [upd_ne (Nat.ne_of_lt (lt b hb))]
      exact (hf b hb).1
  done := by
    intro X hP hw hK hc i pins s σ H E I hf st hg
    subst hP hw hK
    obtain ⟨⟨old, he⟩, hit, hne, hai, hea⟩ := st
    obtain ⟨xs, hq, hx⟩ := hg
    obtain ⟨its, rv, p, hz⟩ := I.tuple hq
    obtain ⟨f0, f1, f2, f3, f4, f5⟩ := hf it (by simp)
    have ei : i = its.toArray.size := by rw [List.size_toArray, ← rv.length, hx]
    exact wpAny_pyNext_enum_endD (Draws.tuple (A := X.A.in1) (I.ok.hd hc) it a hai its.toArray) he (by rw [← ei]; exact ⟨hit, p⟩) fun h' eb => ⟨rfl, I.turned (t' := s.toks) (fun b o hb q => eb b o hb q) f0 f1 f3 f4 f5⟩
  self := fun A i s Q E ⟨⟨_, he⟩, _⟩ h => wpAny_pyIter_enum he h
def iEnumT (K : PySem.W.Frag) (ta : TA) : TI := fun σ H R => ta σ H fun vs H1 => ∃ a xs, vs = [.ref a] ∧ SqT K H1 a xs ∧ R (IteT K a) H1
theorem pi_enumT {X : Cx} {e : Expr} {ta : TA} {p pos tpos : Pos} {elts : List Expr} {kk : Nat} (hg : Gl X "enumerate") (hm : X.mg "enumerate" = none) (ha : PA X [e] ta) (hs : starEach [e] X.env = [(false, eval e X.env)] := by rfl) :
    PI X (.Tuple elts kk tpos) (.Call (.Name "enumerate" p) [e] [] pos) (iEnumT X.K ta) := by
  refine ⟨fun pins s σ H R I h => ?_⟩
  refine Call_ (ld_blt I hg hm boot_enumerate (PyProof.Rows.callWith_type1 (thn (ha.run pos pins s σ H _ I h) fun us s1 ⟨vs, H1, I1, r1, a, xs, ex, hq, q⟩ => ?_) hs rfl))
  subst ex
  obtain rfl := Vals.ref1 r1
  obtain ⟨its, rv, p', hz⟩ := I1.tuple hq
  have la : a < s1.heap.objs.size := let ⟨_, ho, _⟩ := p'; Heap.lt_size ho
  refine call_enumT p' fun h' he hit hk => wpAny_pyIter_enum he ?_
  have I2 : Inv X pins σ H1 { s1 with heap := h' } := I1.kept (t' := s1.toks) hk
  refine ⟨s1.heap.objs.size + 1, [s1.heap.objs.size + 1, s1.heap.objs.size], _, _, H1, rfl, I2, turn_enumT a (s1.heap.objs.size + 1) s1.heap.objs.size, ⟨⟨.none, he⟩, hit, Nat.succ_ne_self _, Nat.ne_of_lt la, Nat.ne_of_gt (Nat.lt_succ_of_lt la)⟩, fun b hb => ?_, q⟩
  have le : s1.heap.objs.size ≤ b := by
    rcases List.mem_cons.mp hb with rfl | hb
    · exact Nat.le_succ _
    · rw [List.mem_singleton.mp hb]
      exact Nat.le_refl _
  exact I1.fpOk le (I1.hok.fresh le)
end LW

set_option Elab.async false
set_option linter.all false
set_option maxRecDepth 100000
set_option maxHeartbeats 2000000
/-! What operators, subscripts, slices and built-in calls give of data. -/
namespace DL
open PySem PySem.Spec PyProof.Rows L2 LW
section
variable {X : Cx} {c : Cn} {K : PySem.W.Frag}
/-! ### operators of ints -/
def gI (f : Int → Int → Int) : D → D → (D → Prop) → Prop := fun x y Q => match x, y with
  | .int i, .int j => Q (.int (f i j))
  | _, _ => False
def gIc (C : Int → Int → Prop) (f : Int → Int → Int) : D → D → (D → Prop) → Prop := fun x y Q => match x, y with
  | .int i, .int j => C i j ∧ Q (.int (f i j))
  | _, _ => False
def gIb (f : Int → Int → Bool) : D → D → (D → Prop) → Prop := fun x y Q => match x, y with
  | .int i, .int j => Q (.bl (f i j))
  | _, _ => False
theorem l_I0 {f : Int → Int → Int} : DOp2 K (rI0 fun i j => .int (f i j)) (gI f) := fun ok rx ry h k => by
  cases rx with
  | int i =>
    cases ry with
    | int j => exact ⟨i, j, rfl, rfl, k _ _ _ _ (Go.refl ok) (.int _) h⟩
    | _ => exact h.elim
  | _ => exact h.elim
theorem l_Ic {C : Int → Int → Prop} {f : Int → Int → Int} : DOp2 K (rI C fun i j => .int (f i j)) (gIc C f) := fun ok rx ry h k => by
  cases rx with
  | int i =>
    cases ry with
    | int j => exact ⟨i, j, rfl, rfl, h.1, k _ _ _ _ (Go.refl ok) (.int _) h.2⟩
    | _ => exact h.elim
  | _ => exact h.elim
theorem l_Ib {f : Int → Int → Bool} : DOp2 K (rI0 fun i j => .bl (f i j)) (gIb f) := fun ok rx ry h k => by
  cases rx with
  | int i =>
    cases ry with
    | int j => exact ⟨i, j, rfl, rfl, k _ _ _ _ (Go.refl ok) (.bl _) h⟩
    | _ => exact h.elim
  | _ => exact h.elim
theorem DOp2.or {r r' : R2} {g g' : D → D → (D → Prop) → Prop} (h : DOp2 K r g) (h' : DOp2 K r' g') : DOp2 K (fun x y H Q => r x y H Q ∨ r' x y H Q) (fun x y Q => g x y Q ∨ g' x y Q) := fun ok rx ry q k =>
  q.elim (fun q => .inl (h ok rx ry q k)) fun q => .inr (h' ok rx ry q k)
/-! ### + -/
def gAdd : D → D → (D → Prop) → Prop := fun x y Q => match x, y with
  | .int i, .int j => Q (.int (i + j))
  | .str a, .str b => a.length + b.length ≤ sizeLine ∧ Q (.str (a ++ b))
  | .lst _ a, .lst _ b => a.length + b.length ≤ sizeLine ∧ Q (.lst false (a ++ b))
  | .tup a, .tup b => a.length + b.length ≤ sizeLine ∧ Q (.tup (a ++ b))
  | _, _ => False
def rAddA (K : PySem.W.Frag) : R2 := fun x y H Q => rI0 (fun i j => .int (i + j)) x y H Q ∨ (∃ i j, x = .str i ∧ y = .str j ∧ i.length + j.length ≤ sizeLine ∧ Q (.str (i ++ j)) H) ∨ rCat x y H Q ∨ rCatA K x y H Q
theorem op_addA (hK : X.K = K := by rfl) : OpR X (binaryOp .Add) (rAddA K) := by subst hK; exact op_add.or (op_add_str.or (op_cat.or op_catA))
theorem l_add : DOp2 K (rAddA K) gAdd := fun {W H x y dx dy Q Dq} ok rx ry h k => by
  cases rx with
  | int i =>
    cases ry with
    | int j => exact .inl ⟨i, j, rfl, rfl, k _ _ _ _ (Go.refl ok) (.int _) h⟩
    | _ => exact h.elim
  | str a =>
    cases ry with
    | str b => exact .inr (.inl ⟨a, b, rfl, rfl, h.1, k _ _ _ _ (Go.refl ok) (.str _) h.2⟩)
    | _ => exact h.elim
  | @lst n a xs ds n1 z1 e1 l1 =>
    cases ry with
    | @lst n' b ys es n2 z2 e2 l2 =>
      have z := h.1
      rw [← l1.len, ← l2.len] at z
      refine .inr (.inr (.inl ⟨_, _, _, _, rfl, rfl, ok.le _ _ e1, ok.le _ _ e2, z, fun p np => ?_⟩))
      have g := Go.new ok np (o := .lst (xs ++ ys)) (by intro x z; cases z)
      refine k _ _ _ _ g (.lst (fun z => by cases z) ?_ upd_same ((l1.app l2).mono g.ext)) h.2
      rw [List.length_append]; exact z
    | _ => exact h.elim
  | @tup a xs ds z1 e1 l1 =>
    cases ry with
    | @tup b ys es z2 e2 l2 =>
      have z := h.1
      rw [← l1.len, ← l2.len] at z
      refine .inr (.inr (.inr ⟨_, _, _, _, rfl, rfl, e1.sq ok.le, e2.sq ok.le, z, fun e => ?_, fun _ e => ?_, fun _ _ p np => ?_⟩))
      · subst e
        cases l1
        exact k _ _ _ _ (Go.refl ok) (.tup z2 e2 l2) h.2
      · subst e
        cases l2
        refine k _ _ _ _ (Go.refl ok) (.tup z1 e1 (by rw [List.append_nil]; exact l1)) h.2
      · have g := Go.new ok np (o := .tup (xs ++ ys)) (by intro x z; cases z)
        refine k _ _ _ _ g (.tup ?_ (.inl upd_same) ((l1.app l2).mono g.ext)) h.2
        rw [List.length_append]; exact z
    | _ => exact h.elim
  | _ => exact h.elim
/-! ### subscripts -/
theorem RepL.atI {W : Wd} {xs : List V} {ds : List D} (l : RepL K W xs ds) {i : Int} {d : D} (h : L2.atI ds i = some d) : ∃ v, L2.atI xs i = some v ∧ Rep K W v d := by
  unfold L2.atI at h ⊢
  rw [l.len]
  cases q : ixN ds.length i with
  | none => rw [q] at h; cases h
  | some j =>
    rw [q] at h
    exact l.get h
def gIx : D → D → (D → Prop) → Prop := fun x y Q => match x, y with
  | .lst _ a, .int i => match atI a i with
    | some d => Q d
    | none => False
  | .tup a, .int i => match atI a i with
    | some d => Q d
    | none => False
  | .str z, .int i => z.length ≤ sizeLine ∧ match atI z.cps.toList i with
    | some u => Q (.str ⟨#[u]⟩)
    | none => False
  | .scr a, .int i => match atI a i with
    | some u => Q (.int u)
    | none => False
  | _, _ => False
theorem ix_any (hK : X.K = K := by rfl) : IxR X (rIx K) := by subst hK; exact ix_seq
theorem l_ix : DOp2 K (rIx K) gIx := fun {W H x y dx dy Q Dq} ok rx ry h k => by
  cases rx with
  | @lst n a xs ds n1 z1 e1 l1 =>
    cases ry with
    | int i =>
      have h' : (match atI ds i with | some d => Dq d | none => False) := h
      cases q : atI ds i with
      | none => rw [q] at h'; exact h'.elim
      | some d =>
        rw [q] at h'
        obtain ⟨v, ev, r⟩ := l1.atI q
        exact .inl ⟨_, _, i, v, rfl, rfl, SqL.of (ok.le _ _ e1), ev, k _ _ _ _ (Go.refl ok) r h'⟩
    | _ => exact h.elim
  | @tup a xs ds z1 e1 l1 =>
    cases ry with
    | int i =>
      have h' : (match atI ds i with | some d => Dq d | none => False) := h
      cases q : atI ds i with
      | none => rw [q] at h'; exact h'.elim
      | some d =>
        rw [q] at h'
        obtain ⟨v, ev, r⟩ := l1.atI q
        exact .inr (.inl ⟨_, _, i, v, rfl, rfl, e1.sq ok.le, ev, k _ _ _ _ (Go.refl ok) r h'⟩)
    | _ => exact h.elim
  | str z =>
    cases ry with
    | int i =>
      have h' : z.length ≤ sizeLine ∧ (match atI z.cps.toList i with | some u => Dq (.str ⟨#[u]⟩) | none => False) := h
      cases q : atI z.cps.toList i with
      | none => rw [q] at h'; exact h'.2.elim
      | some u =>
        rw [q] at h'
        exact .inr (.inr ⟨z, i, u, rfl, rfl, h'.1, q, k _ _ _ _ (Go.refl ok) (.str _) h'.2⟩)
    | _ => exact h.elim
  | @scr a ns z1 e1 =>
    cases ry with
    | int i =>
      have h' : (match atI ns i with | some d => Dq (.int d) | none => False) := h
      cases q : atI ns i with
      | none => rw [q] at h'; exact h'.elim
      | some u =>
        rw [q] at h'
        refine .inl ⟨a, _, i, .int u, rfl, rfl, sameL ok.le e1.list, ?_, k _ _ _ _ (Go.refl ok) (.int u) h'⟩
        unfold atI at q ⊢
        rw [List.length_map]
        cases qi : ixN ns.length i with
        | none => rw [qi] at q; cases q
        | some j =>
          rw [qi] at q
          have q' : ns[j]? = some u := q
          show (ns.map V.int)[j]? = some (.int u)
          rw [List.getElem?_map, q']
          rfl
    | _ => exact h.elim
  | _ => exact h.elim
theorem de_ix {a b : Expr} {fa fb : DTE} {pos : Pos} (ha : DE X c a fa) (hb : DE X c b fb) (hs : PlainIx b) (hK : X.K = c.K := by rfl) : DE X c (.Subscript a b pos) (dOp gIx fa fb) := by
  obtain ⟨ta, pa, ea⟩ := ha
  obtain ⟨tb, pb, eb⟩ := hb
  exact ⟨_, pe_ix (ix_any hK) pa pb hs, Ev.op l_ix ea eb⟩
/-! ### slices -/
def cutD {α : Type} (xs : List α) (lo hi : Option Int) : List α := (xs.drop (HT.sIx xs.length 0 lo)).take (HT.sIx xs.length xs.length hi - HT.sIx xs.length 0 lo)
theorem RepL.take {W : Wd} : ∀ {xs : List V} {ds : List D} (n : Nat), RepL K W xs ds → RepL K W (xs.take n) (ds.take n)
  | _, _, 0, _ => .nil
  | _, _, _ + 1, .nil => .nil
  | _, _, n + 1, .cons r t => .cons r (RepL.take n t)
theorem RepL.drop {W : Wd} : ∀ {xs : List V} {ds : List D} (n : Nat), RepL K W xs ds → RepL K W (xs.drop n) (ds.drop n)
  | _, _, 0, r => r
  | _, _, _ + 1, .nil => .nil
  | _, _, n + 1, .cons r t => RepL.drop n t
theorem RepL.cut {W : Wd} {xs : List V} {ds : List D} (l : RepL K W xs ds) (lo hi : Option Int) : RepL K W (cutV xs lo hi) (cutD ds lo hi) := by
  unfold cutV cutD
  rw [l.len]
  exact (l.drop _).take _
def gSl : D → Option Int → Option Int → (D → Prop) → Prop := fun x lo hi Q => match x with
  | .lst _ a => Q (.lst false (cutD a lo hi))
  | .tup a => Q (.tup (cutD a lo hi))
  | .str z => z.length ≤ sizeLine ∧ Q (.str (cutS z lo hi))
  | _ => False
def rSlAny (K : PySem.W.Frag) : V → Option Int → Option Int → Hp → VK → Prop := fun x lo hi H Q => rSlL K x lo hi H Q ∨ rSlA K x lo hi H Q ∨ rSlS x lo hi H Q
theorem sl_any (hK : X.K = K := by rfl) : SlR X (rSlAny K) := by subst hK; exact sl_list.or (sl_tupA.or sl_str)
theorem cutV_whole {xs : List V} {lo hi : Option Int} (h : HT.sIx xs.length 0 lo = 0 ∧ HT.sIx xs.length xs.length hi = xs.length) : cutV xs lo hi = xs := by
  unfold cutV
  rw [h.1, h.2, List.drop_zero, Nat.sub_zero, List.take_length]
theorem l_sl {W : Wd} {H : Hp} {x : V} {d : D} {lo hi : Option Int} {Q : VK} {Dq : D → Prop} (ok : Ok W H) (rx : Rep K W x d) (h : gSl d lo hi Dq) (k : ∀ v d W' H', Go W H W' H' → Rep K W' v d → Dq d → Q v H') : rSlAny K x lo hi H Q := by
  cases rx with
  | @lst n a xs ds n1 z1 e1 l1 =>
    refine .inl ⟨a, xs, rfl, SqL.of (ok.le _ _ e1), fun p np => ?_⟩
    have g := Go.new ok np (o := .lst (cutV xs lo hi)) (by intro x z; cases z)
    exact k _ _ _ _ g (.lst (fun z => by cases z) (Nat.le_trans (cutV_length xs lo hi) z1) upd_same ((l1.cut lo hi).mono g.ext)) h
  | @tup a xs ds z1 e1 l1 =>
    refine .inr (.inl ⟨a, xs, rfl, e1.sq ok.le, fun w => ?_, fun _ p np => ?_⟩)
    · have e := l1.cut lo hi
      rw [cutV_whole w] at e
      exact k _ _ _ _ (Go.refl ok) (.tup z1 e1 e) h
    · have g := Go.new ok np (o := .tup (cutV xs lo hi)) (by intro x z; cases z)
      exact k _ _ _ _ g (.tup (Nat.le_trans (cutV_length xs lo hi) z1) (.inl upd_same) ((l1.cut lo hi).mono g.ext)) h
  | str z => exact .inr (.inr ⟨z, rfl, h.1, k _ _ _ _ (Go.refl ok) (.str _) h.2⟩)
  | _ => exact h.elim
abbrev DTO := Env' → (Option Int → Prop) → Prop
structure Ov (c : Cn) (to : TO) (f : DTO) : Prop where
  run : ∀ {W0 W : Wd} {H : Hp} {σ : L2.St} {ρ : Env'} {Q : Option Int → Hp → Prop} {Dq : Option Int → Prop}, c.Eok W0 → EnvOk c.K W0 W H σ ρ → f ρ Dq → (∀ o W' H', Go W H W' H' → Dq o → Q o H') → to σ H Q
def DO (X : Cx) (c : Cn) (e : Option Expr) (f : DTO) : Prop := ∃ to, PO X e to ∧ Ov c to f
def dNone : DTO := fun _ Q => Q none
def dSome (f : DTE) : DTO := fun ρ Q => f ρ fun d => match d with
  | .int i => Q (some i)
  | _ => False
theorem do_none : DO X c none dNone := ⟨_, po_none, ⟨fun _ en h k => k none _ _ (Go.refl en.ok) h⟩⟩
theorem do_some {e : Expr} {f : DTE} (h : DE X c e f) : DO X c (some e) (dSome f) := by
  obtain ⟨t, p, v⟩ := h
  refine ⟨_, po_some p, ⟨fun eo en q k => v.run eo en q fun x d W' H' g r q' => ?_⟩⟩
  cases r with
  | int i => exact ⟨i, rfl, k _ W' H' g q'⟩
  | _ => exact False.elim q'
def dSl (f : DTE) (lo hi : DTO) : DTE := fun ρ Q => f ρ fun d => lo ρ fun l => hi ρ fun h => gSl d l h Q
theorem de_sl {e : Expr} {lo hi : Option Expr} {f : DTE} {fl fh : DTO} {p2 pos : Pos} (he : DE X c e f) (hl : DO X c lo fl) (hh : DO X c hi fh) (hK : X.K = c.K := by rfl) : DE X c (.Subscript e (.Slice lo hi none p2) pos) (dSl f fl fh) := by
  obtain ⟨t, p, v⟩ := he
  obtain ⟨tl, pl, vl⟩ := hl
  obtain ⟨th, ph, vh⟩ := hh
  exact ⟨_, pe_slice (sl_any hK) p pl ph, ⟨fun eo en q k => v.run eo en q fun x d W1 H1 g1 r1 q1 => vl.run eo (en.go g1) q1 fun l W2 H2 g2 q2 => vh.run eo ((en.go g1).go g2) q2 fun u W3 H3 g3 q3 =>
    l_sl g3.ok (r1.mono (g2.ext.trans g3.ext)) q3 fun v d W4 H4 g4 r4 q4 => k v d W4 H4 (((g1.trans g2).trans g3).trans g4) r4 q4⟩⟩
/-! ### calls of what is built in, by values -/
def DCall (K : PySem.W.Frag) (r : List V → Hp → VK → Prop) (g : List D → (D → Prop) → Prop) : Prop := ∀ {W : Wd} {H : Hp} {xs : List V} {ds : List D} {Q : VK} {Dq : D → Prop}, Ok W H → RepL K W xs ds → g ds Dq → (∀ v d W' H', Go W H W' H' → Rep K W' v d → Dq d → Q v H') → r xs H Q
def dCall (g : List D → (D → Prop) → Prop) (fa : DTA) : DTE := fun ρ Q => fa ρ fun ds => g ds Q
theorem Av.call {ta : TA} {fa : DTA} {r : List V → Hp → VK → Prop} {g : List D → (D → Prop) → Prop} (l : DCall c.K r g) (h : Av c ta fa) : Ev c (tCB r ta) (dCall g fa) :=
  ⟨fun eo en q k => h.run eo en q fun xs ds W1 H1 g1 r1 q1 => l g1.ok r1 q1 fun v d W2 H2 g2 r2 q2 => k v d W2 H2 (g1.trans g2) r2 q2⟩
theorem de_callB {x : Str} {id : String} {e : Expr} {es : List Expr} {fa : DTA} {r : List V → Hp → VK → Prop} {g : List D → (D → Prop) → Prop} {p pos : Pos} (hc : CallR X (.builtin id) r) (l : DCall c.K r g) (hg : Gl X x) (hm : X.mg x = none) (hv : bootBuiltins x = some (.builtin id)) (ha : DA X c (e :: es) fa)
    (hn : x ≠ "__name__" := by decide) (hdb : (x == ("__debug__" : Str)) = false := by decide) (he : starEach (e :: es) X.env = (false, eval e X.env) :: starEach es X.env := by rfl) (hpl : (backTo pos (starEach es X.env)).any (·.1) = false := by rfl) :
    DE X c (.Call (.Name x p) (e :: es) [] pos) (dCall g fa) := by
  obtain ⟨t, pa, v⟩ := ha
  exact ⟨_, pe_callB hc hg hm hv pa hn hdb he hpl, Av.call l v⟩
theorem de_callTy {x : Str} {T : String} {e : Expr} {es : List Expr} {fa : DTA} {r : List V → Hp → VK → Prop} {g : List D → (D → Prop) → Prop} {p pos : Pos} (hc : CallR X (.type T) r) (l : DCall c.K r g) (hg : Gl X x) (hm : X.mg x = none) (hv : bootBuiltins x = some (.type T)) (ha : DA X c (e :: es) fa)
    (hn : x ≠ "__name__" := by decide) (hdb : (x == ("__debug__" : Str)) = false := by decide) (he : starEach (e :: es) X.env = (false, eval e X.env) :: starEach es X.env := by rfl) (hpl : (backTo pos (starEach es X.env)).any (·.1) = false := by rfl) :
    DE X c (.Call (.Name x p) (e :: es) [] pos) (dCall g fa) := by
  obtain ⟨t, pa, v⟩ := ha
  exact ⟨_, pe_callTy hc hg hm hv pa hn hdb he hpl, Av.call l v⟩
end
end DL

set_option Elab.async false
set_option linter.all false
set_option maxRecDepth 100000
set_option maxHeartbeats 2000000
/-! Statements, targets, what a for walks, comprehensions. -/
namespace DL
open PySem PySem.Spec PyProof.Rows L2 LW
section
variable {X : Cx} {c : Cn} {K : PySem.W.Frag} {st : Stmt} {rest sts : List Stmt} {g u : DTS} {e : Expr} {f : DTE} {pos : Pos}
/-! ### blocks and small statements -/
def dNext : DTS := fun D ρ => D.nx ρ
def dSeq (g u : DTS) : DTS := fun D ρ => g { D with nx := u D } ρ
theorem EndsOk.with_nx {W0 : Wd} {Dd : DEnds} {D : Ends} {n : Env' → Prop} {m : L2.St → Hp → Prop} (h : EndsOk c W0 Dd D) (q : ∀ σ ρ W H, EnvOk c.K W0 W H σ ρ → n ρ → m σ H) : EndsOk c W0 { Dd with nx := n } { D with nx := m } := ⟨q, h.rt, h.bk, h.ct⟩
theorem dss_nil : DSs X c [] dNext := ⟨_, pss_nil, ⟨fun _ en q k => k.nx _ _ _ _ en q⟩⟩
theorem dss_cons (h1 : DS X c st g) (h2 : DSs X c rest u) : DSs X c (st :: rest) (dSeq g u) := by
  obtain ⟨t, p, v⟩ := h1
  obtain ⟨t', p', v'⟩ := h2
  exact ⟨_, pss_cons p p', ⟨fun eo en q k => v.run eo en q (k.with_nx fun σ ρ W H en' q' => v'.run eo en' q' k)⟩⟩
theorem dss_one (h1 : DS X c st g) : DSs X c [st] g := by
  obtain ⟨t, p, v⟩ := h1
  exact ⟨_, pss_one p, v⟩
def dBreak : DTS := fun D ρ => D.bk ρ
def dCont : DTS := fun D ρ => D.ct ρ
theorem ds_pass : DS X c (.Pass pos) dNext := ⟨_, ps_pass, ⟨fun _ en q k => k.nx _ _ _ _ en q⟩⟩
theorem ds_break : DS X c (.Break pos) dBreak := ⟨_, ps_break, ⟨fun _ en q k => k.bk _ _ _ _ en q⟩⟩
theorem ds_continue : DS X c (.Continue pos) dCont := ⟨_, ps_continue, ⟨fun _ en q k => k.ct _ _ _ _ en q⟩⟩
def dDrop (f : DTE) : DTS := fun D ρ => f ρ fun _ => D.nx ρ
theorem ds_expr (h : DE X c e f) (hs : swapsWith e none pos.line X.env = pure false := by rfl) : DS X c (.Expr e pos) (dDrop f) := by
  obtain ⟨t, p, v⟩ := h
  exact ⟨_, ps_expr p hs, ⟨fun eo en q k => v.run eo en q fun x d W' H' g r q' => k.nx _ _ _ _ (en.go g) q'⟩⟩
def dIfS (t : DTT) (g u : DTS) : DTS := fun D ρ => t ρ fun b => if b = true then g D ρ else u D ρ
theorem ds_if {t : Expr} {a b : List Stmt} {tc : DTT} (hc : DT X c t tc) (ha : DSs X c a g) (hb : DSs X c b u) : DS X c (.If t a b pos) (dIfS tc g u) := by
  obtain ⟨t0, p0, v0⟩ := hc
  obtain ⟨t1, p1, v1⟩ := ha
  obtain ⟨t2, p2, v2⟩ := hb
  refine ⟨_, ps_if p0 p1 p2, ⟨fun eo en q k => v0.run eo en q fun x W' H' g q' => ?_⟩⟩
  cases x with
  | true => exact v1.run eo (en.go g) q' k
  | false => exact v2.run eo (en.go g) q' k
def dNever : DTS := fun _ _ => False
theorem ds_never : DS X c st dNever := ⟨_, ps_never, ⟨fun _ _ q _ => q.elim⟩⟩
theorem dss_never : DSs X c sts dNever := ⟨_, pss_never, ⟨fun _ _ q _ => q.elim⟩⟩
/-! ### what is owned, as it looks -/
/-- lists and dicts as data; instances are not seen -/
def Ent.view : Ent → Ent
  | .ol n ds => .dat (.lst n ds)
  | .od t es => .dat (.dct t es)
  | .oi _ _ _ => .un
  | e => e
theorem view_own (e : Ent) : e.view.own = false := by cases e <;> rfl
def Ent.seq : Ent → Bool
  | .ol _ _ => true
  | .od _ _ => true
  | _ => false
/-- the lists and dicts that slots hold by themselves -/
def Mine (σ : L2.St) (ρ : Env') (a : Addr) : Prop := ∃ (i : Nat) (e : Ent), σ[i]? = some (some (V.ref a)) ∧ ρ[i]? = some e ∧ e.seq = true
open Classical
/-- the world in which they are shared -/
noncomputable def seen (W : Wd) (H : Hp) (M : Addr → Prop) : Wd := ⟨fun a => if M a then H a else W.S a, W.T⟩
noncomputable def unseen (W : Wd) (M : Addr → Prop) : Wd := ⟨fun a => if M a then none else W.S a, W.T⟩
section
variable {W0 W W' : Wd} {H H' : Hp} {σ : L2.St} {ρ : Env'}
def seqO : HO → Bool
  | .lst _ => true
  | .dK _ => true
  | .dT _ => true
  | _ => false
theorem Mine.held (en : EnvOk K W0 W H σ ρ) {a : Addr} (m : Mine σ ρ a) : ∃ o, H a = some o ∧ W.S a = none ∧ ¬ W.T a ∧ seqO o = true := by
  obtain ⟨i, e, h1, h2, h3⟩ := m
  have so := en.slot i e h2
  rw [h1] at so
  cases e with
  | un => cases h3
  | cls C => cases h3
  | ld t es => cases h3
  | dat d => cases h3
  | oi _ C fs => cases h3
  | ol n ds =>
    obtain ⟨b, xs, eb, s, t, _, h, _⟩ := so
    cases eb
    exact ⟨_, h, s, t, rfl⟩
  | od tk es =>
    obtain ⟨b, eb, s, t, h⟩ := so
    cases eb
    rcases h with ⟨_, kvs, h, _⟩ | ⟨_, kvs, h, _⟩
    · exact ⟨_, h, s, t, rfl⟩
    · exact ⟨_, h, s, t, rfl⟩
theorem seqO_mut {o : HO} (h : seqO o = true) : mutk o = true := by cases o <;> first | rfl | cases h
theorem Mine.owned (en : EnvOk K W0 W H σ ρ) {a : Addr} (m : Mine σ ρ a) : Owned W H a := by
  obtain ⟨o, e, s, t, z⟩ := m.held en
  exact .here s t e (seqO_mut z)
theorem seen_in {M : Addr → Prop} {b : Addr} (m : M b) : (seen W H M).S b = H b := if_pos m
theorem seen_out {M : Addr → Prop} {b : Addr} (m : ¬ M b) : (seen W H M).S b = W.S b := if_neg m
theorem unseen_in {M : Addr → Prop} {b : Addr} (m : M b) : (unseen W M).S b = none := if_pos m
theorem unseen_out {M : Addr → Prop} {b : Addr} (m : ¬ M b) : (unseen W M).S b = W.S b := if_neg m
theorem seen_ext (en : EnvOk K W0 W H σ ρ) : Ext W (seen W H (Mine σ ρ)) := ⟨fun b o e => by
  by_cases m : Mine σ ρ b
  · rw [seen_in m]; exact en.ok.le b o e
  · rw [seen_out m]; exact e, fun _ t => t⟩
theorem seen_at {M : Addr → Prop} {b : Addr} {o : HO} (e : (seen W H M).S b = some o) : (M b ∧ H b = some o) ∨ (¬ M b ∧ W.S b = some o) := by
  by_cases m : M b
  · rw [seen_in m] at e; exact .inl ⟨m, e⟩
  · rw [seen_out m] at e; exact .inr ⟨m, e⟩
theorem unseen_at {M : Addr → Prop} {b : Addr} {o : HO} (e : (unseen W M).S b = some o) : ¬ M b ∧ W.S b = some o := by
  by_cases m : M b
  · rw [unseen_in m] at e; cases e
  · rw [unseen_out m] at e; exact ⟨m, e⟩
theorem seen_ok (en : EnvOk K W0 W H σ ρ) : Ok (seen W H (Mine σ ρ)) H := by
  refine ⟨fun b o e => ?_, fun l t => ⟨?_, (en.ok.st l t).2⟩, fun a x e => ?_, en.ok.dic⟩
  · rcases seen_at e with ⟨_, e⟩ | ⟨_, e⟩
    · exact e
    · exact en.ok.le b o e
  · rw [seen_out fun m => (m.owned en).noT en.ok t]
    exact (en.ok.st l t).1
  · rcases seen_at e with ⟨m, e⟩ | ⟨m, e⟩
    · obtain ⟨o, e', s, t, z⟩ := m.held en
      rw [e] at e'
      cases e'
      cases z
    · obtain ⟨C, dx, fs, z⟩ := en.ok.own a x e
      refine ⟨C, dx, fs, ?_⟩
      rw [seen_out fun m' => by rw [(m'.owned en).noS en.ok] at z; cases z]
      exact z
theorem seen_env (en : EnvOk K W0 W H σ ρ) : EnvOk K W0 (seen W H (Mine σ ρ)) H σ (ρ.map Ent.view) := by
  have ext := seen_ext en
  refine ⟨en.ext.trans ext, seen_ok en, by rw [List.length_map]; exact en.len, fun i e q => ?_, fun i j a h => ?_⟩
  · rw [List.getElem?_map] at q
    cases r : ρ[i]? with
    | none => rw [r] at q; cases q
    | some e0 =>
      rw [r] at q
      cases q
      have so := en.slot i e0 r
      cases e0 with
      | un => trivial
      | cls C => exact so
      | ld t es =>
        obtain ⟨a, o, ea, h⟩ := so
        exact ⟨a, o, ea, h.imp (fun ⟨q, kvs, h1, z, r⟩ => ⟨q, kvs, ext.s _ _ h1, z, r.mono ext⟩) fun ⟨q, kvs, h1, z, r⟩ => ⟨q, kvs, ext.s _ _ h1, z, r.mono ext⟩⟩
      | oi _ C fs => trivial
      | dat d =>
        obtain ⟨v, ev, rv⟩ := so
        exact ⟨v, ev, rv.mono ext⟩
      | ol n ds =>
        obtain ⟨a, xs, ea, s, t, ⟨z1, z2⟩, h, l⟩ := so
        refine ⟨.ref a, ea, .lst z1 z2 ?_ (l.mono ext)⟩
        rw [seen_in ⟨i, _, ea, r, rfl⟩]
        exact h
      | od tk es =>
        obtain ⟨a, ea, s, t, h⟩ := so
        rcases h with ⟨rfl, kvs, h, z, l⟩ | ⟨rfl, kvs, h, z, l⟩
        · refine ⟨.ref a, ea, .dK z (.inl ?_) (l.mono ext)⟩
          rw [seen_in ⟨i, _, ea, r, rfl⟩]
          exact h
        · refine ⟨.ref a, ea, .dT z (.inl ?_) (l.mono ext)⟩
          rw [seen_in ⟨i, _, ea, r, rfl⟩]
          exact h
  · obtain ⟨_, e, he, ho⟩ := h
    rw [List.getElem?_map] at he
    cases r : ρ[i]? with
    | none => rw [r] at he; cases he
    | some e0 =>
      rw [r] at he
      cases he
      rw [view_own] at ho
      cases ho
theorem Owned.seen {M : Addr → Prop} {a : Addr} (o : Owned W H a) (n : ∀ b, Owned W H b → M b → H b ≠ none ∧ ∀ x, H x ≠ some (.own b)) (m : ¬ M a) : Owned (seen W H M) H a := by
  induction o with
  | here s t e mu => exact .here (by rw [seen_out m]; exact s) t e mu
  | dict o e ih => exact .dict (ih fun mb => (n _ o mb).2 _ e) e
/-- behind a step in which they were shared -/
theorem unseen_go (en : EnvOk K W0 W H σ ρ) (g : Go (seen W H (Mine σ ρ)) H W' H') : Go W H (unseen W' (Mine σ ρ)) H' := by
  have kept : ∀ b, Mine σ ρ b → ∀ o, H b = some o → W'.S b = some o := fun b m o e => g.ext.s b o (by rw [seen_in m]; exact e)
  refine ⟨⟨fun b o e => ?_, fun l t => g.ext.t l t⟩, ⟨fun b o e => g.ok.le b o (unseen_at e).2, fun l t => ⟨?_, (g.ok.st l t).2⟩, fun a x e => ?_, g.ok.dic⟩, fun a o ow e => ?_⟩
  · rw [unseen_out fun m => by rw [(m.owned en).noS en.ok] at e; cases e]
    exact g.ext.s b o ((seen_ext en).s b o e)
  · by_cases m : Mine σ ρ l
    · exact unseen_in m
    · rw [unseen_out m]; exact (g.ok.st l t).1
  · obtain ⟨m, e⟩ := unseen_at e
    obtain ⟨C, dx, fs, z⟩ := g.ok.own a x e
    refine ⟨C, dx, fs, ?_⟩
    rw [unseen_out fun m' => ?_]
    · exact z
    · obtain ⟨o, e', _, _, q⟩ := m'.held en
      rw [kept x m' o e'] at z
      cases z
      cases q
  · by_cases m : Mine σ ρ a
    · refine ⟨unseen_in m, fun t => ?_, g.ok.le a o (kept a m o e)⟩
      have z := (g.ok.st a t).1
      rw [kept a m o e] at z
      cases z
    · obtain ⟨s, t, z⟩ := g.own a o (ow.seen (fun b _ mb => ⟨by
        obtain ⟨u, eu, _⟩ := mb.held en
        rw [eu]
        exact fun q => (nomatch q), fun x ex => by
        obtain ⟨u, eu, _, _, z⟩ := mb.held en
        obtain ⟨C, dx, fs, q⟩ := en.ok.dic x b ex
        rw [q] at eu
        cases eu
        cases z⟩) m) e
      exact ⟨by rw [unseen_out m]; exact s, t, z⟩
end
end
end DL

set_option Elab.async false
set_option linter.all false
set_option maxRecDepth 100000
set_option maxHeartbeats 2000000
/-! Views, returns, names that are set, loops, comprehensions. -/
namespace DL
open PySem PySem.Spec PyProof.Rows L2 LW
mutual
/-- data in which nothing can be changed -/
def D.still : D → Bool
  | .tup xs => D.stillL xs
  | .lst _ _ => false
  | .dct _ _ => false
  | .obj _ _ => false
  | _ => true
def D.stillL : List D → Bool
  | [] => true
  | x :: xs => x.still && D.stillL xs
end
open Classical
section
variable {X : Cx} {c : Cn} {K : PySem.W.Frag} {st : Stmt} {rest sts : List Stmt} {g u : DTS} {e : Expr} {es : List Expr} {f : DTE} {pos : Pos}
section
variable {W0 W W' : Wd} {H H' : Hp} {σ : L2.St} {ρ : Env'}
mutual
theorem Rep.unseen {M : Addr → Prop} (n : ∀ a xs, M a → ¬ Rd W.S a (.tup xs)) (nl : ∀ a o xs, M a → W.S a ≠ some (.frz o (.lst xs))) : ∀ {v : V} {d : D}, Rep K W v d → d.still = true → Rep K (unseen W M) v d
  | _, _, .non, _ => .non
  | _, _, .bl b, _ => .bl b
  | _, _, .int i, _ => .int i
  | _, _, .str x, _ => .str x
  | _, _, .tup z h t, s => by
    refine .tup z ?_ (RepL.unseen n nl t s)
    have out : ∀ {a : Addr} {xs : List V}, Rd W.S a (.tup xs) → Rd (unseen W M).S a (.tup xs) := fun {a xs} h => by
      have q := fun m => n _ _ m h
      rcases h with h | ⟨o, h⟩
      · exact .inl (by rw [unseen_out q]; exact h)
      · exact .inr ⟨o, by rw [unseen_out q]; exact h⟩
    rcases h with h | ⟨e, h | h⟩
    · exact .inl (by rw [unseen_out fun m => n _ _ m (.inl h)]; exact h)
    · exact .inr ⟨e, .inl (out h)⟩
    · exact .inr ⟨e, .inr h⟩
  | _, _, .stm h, _ => .stm h
  | _, _, .scr z h, _ => by
    refine .scr z ?_
    rcases h with ⟨o, h⟩ | h
    · exact .inl ⟨o, by rw [unseen_out fun m => nl _ _ _ m h]; exact h⟩
    · exact .inr h
  | _, _, .lst _ _ _ _, s => by cases s
  | _, _, .dK _ _ _, s => by cases s
  | _, _, .dT _ _ _, s => by cases s
  | _, _, .obj _ _ _, s => by cases s
theorem RepL.unseen {M : Addr → Prop} (n : ∀ a xs, M a → ¬ Rd W.S a (.tup xs)) (nl : ∀ a o xs, M a → W.S a ≠ some (.frz o (.lst xs))) : ∀ {v : List V} {d : List D}, RepL K W v d → D.stillL d = true → RepL K (unseen W M) v d
  | _, _, .nil, _ => .nil
  | _, _, .cons h t, s => by
    have s' := Bool.and_eq_true_iff.mp s
    exact .cons (Rep.unseen n nl h s'.1) (RepL.unseen n nl t s'.2)
end
end
/-! ### with what is owned in view -/
def dView (f : DTE) : DTE := fun ρ Q => f (ρ.map Ent.view) fun d => d.still = true ∧ Q d
theorem Ev.view {te : TE} (h : Ev c te f) : Ev c te (dView f) := ⟨fun {W0 W H σ ρ Q Dq} eo en q k => h.run eo (seen_env en) q fun v d W' H' g r q' => by
    have g' := unseen_go en g
    have kept : ∀ b, Mine σ ρ b → ∃ o, W'.S b = some o ∧ seqO o = true := fun b m => by
      obtain ⟨o, e, _, _, z⟩ := m.held en
      exact ⟨o, g.ext.s b o (by rw [seen_in m]; exact e), z⟩
    have n : ∀ a xs, Mine σ ρ a → ¬ Rd W'.S a (.tup xs) := fun a xs m rd => by
      obtain ⟨o, e, z⟩ := kept a m
      rcases rd with rd | ⟨ob, rd⟩
      · rw [e] at rd; cases rd; cases z
      · rw [e] at rd; cases rd; cases z
    have nl : ∀ a o xs, Mine σ ρ a → W'.S a ≠ some (.frz o (.lst xs)) := fun a ob xs m rd => by
      obtain ⟨o, e, z⟩ := kept a m
      rw [e] at rd; cases rd; cases z
    exact k v d _ H' g' (Rep.unseen n nl r q'.1) q'.2⟩
theorem Tv.view {tt : TT} {f : DTT} (h : Tv c tt f) : Tv c tt (fun ρ Q => f (ρ.map Ent.view) Q) := ⟨fun {W0 W H σ ρ Q Dq} eo en q k => h.run eo (seen_env en) q fun b W' H' g q' => k b _ H' (unseen_go en g) q'⟩
def dViewT (f : DTT) : DTT := fun ρ Q => f (ρ.map Ent.view) Q
theorem de_view (h : DE X c e f) : DE X c e (dView f) := by
  obtain ⟨t, p, v⟩ := h
  exact ⟨t, p, v.view⟩
theorem dt_view {f : DTT} (h : DT X c e f) : DT X c e (dViewT f) := by
  obtain ⟨t, p, v⟩ := h
  exact ⟨t, p, v.view⟩
def dRet (f : DTE) : DTS := fun D ρ => f (ρ.map Ent.view) D.rt
theorem ds_ret (h : DE X c e f) : DS X c (.Return (some e) pos) (dRet f) := by
  obtain ⟨t, p, v⟩ := h
  exact ⟨_, ps_ret p, ⟨fun eo en q k => v.run eo (seen_env en) q fun x d W' H' g r q' => k.rt x d W' H' ((seen_env en).ext.trans g.ext) g.ok r q'⟩⟩
def dRetN : DTS := fun D _ => D.rt .non
theorem ds_retN : DS X c (.Return none pos) dRetN := ⟨_, ps_retN, ⟨fun eo en q k => k.rt .non .non _ _ en.ext en.ok .non q⟩⟩
/-! ### new objects, and sharing them -/
def Ent.datum : Ent → D
  | .ol n ds => .lst n ds
  | .od t es => .dct t es
  | .oi _ C fs => .obj C fs
  | .dat d => d
  | .un => .non
  | .cls _ => .non
  | .ld t es => .dct t es
/-- an object that nobody shares is shared from now on -/
theorem share {W : Wd} {H : Hp} (ok : Ok W H) {a : Addr} {e : Ent} (so : SlotOk K W H (some (some (.ref a))) e) (o : e.own = true) :
    ∃ W', Ext W W' ∧ Ok W' H ∧ Rep K W' (.ref a) e.datum ∧ (∀ l, W'.T l → W.T l) ∧ ∀ b, W.S b = none → W'.S b ≠ none → b = a ∨ H b = some (.own a) := by
  cases e with
  | un => cases o
  | cls C => cases o
  | ld t es => cases o
  | dat d => cases o
  | ol n ds =>
    obtain ⟨b, xs, eb, s, t, ⟨z1, z2⟩, h, l⟩ := so
    cases eb
    have ext : Ext W ⟨upd W.S a (.lst xs), W.T⟩ := ⟨fun b u eb => (upd_ne (fun z => by rw [z, s] at eb; cases eb)).trans eb, fun _ t => t⟩
    refine ⟨_, ext, ⟨fun b u eb => ?_, fun l tl => ⟨(upd_ne (fun z => t (by rw [← z]; exact tl))).trans (ok.st l tl).1, (ok.st l tl).2⟩, fun b x eb => ?_, ok.dic⟩, .lst z1 z2 upd_same (l.mono ext), fun _ t => t, fun b hb hn => ?_⟩
    · by_cases z : b = a
      · have eb' : upd W.S a (.lst xs) b = some u := eb
        rw [z, upd_same] at eb'
        cases eb'
        rw [z]; exact h
      · have eb' : upd W.S a (.lst xs) b = some u := eb
        rw [upd_ne z] at eb'
        exact ok.le b u eb'
    · have eb' : upd W.S a (.lst xs) b = some (.own x) := eb
      by_cases z : b = a
      · rw [z, upd_same] at eb'
        cases eb'
      · rw [upd_ne z] at eb'
        obtain ⟨C, dx, fs, q⟩ := ok.own b x eb'
        exact ⟨C, dx, fs, ext.s _ _ q⟩
    · by_cases z : b = a
      · exact .inl z
      · exact absurd ((upd_ne z).trans hb) hn
  | od tk es =>
    obtain ⟨b, eb, s, t, hh⟩ := so
    cases eb
    have main : ∀ u, H a = some u → (∀ x, u ≠ .own x) → ∃ W', Ext W W' ∧ Ok W' H ∧ W'.S a = some u ∧ (∀ l, W'.T l → W.T l) ∧ ∀ b, W.S b = none → W'.S b ≠ none → b = a ∨ H b = some (.own a) := fun u h nu => by
      have ext : Ext W ⟨upd W.S a u, W.T⟩ := ⟨fun b u eb => (upd_ne (fun z => by rw [z, s] at eb; cases eb)).trans eb, fun _ t => t⟩
      refine ⟨_, ext, ⟨fun b v eb => ?_, fun l tl => ⟨(upd_ne (fun z => t (by rw [← z]; exact tl))).trans (ok.st l tl).1, (ok.st l tl).2⟩, fun b x eb => ?_, ok.dic⟩, upd_same, fun _ t => t, fun b hb hn => ?_⟩
      · have eb' : upd W.S a u b = some v := eb
        by_cases z : b = a
        · rw [z, upd_same] at eb'
          cases eb'
          rw [z]; exact h
        · rw [upd_ne z] at eb'
          exact ok.le b v eb'
      · have eb' : upd W.S a u b = some (.own x) := eb
        by_cases z : b = a
        · rw [z, upd_same] at eb'
          exact absurd (Option.some.inj eb') (nu x)
        · rw [upd_ne z] at eb'
          obtain ⟨C, dx, fs, q⟩ := ok.own b x eb'
          exact ⟨C, dx, fs, ext.s _ _ q⟩
      · by_cases z : b = a
        · exact .inl z
        · exact absurd ((upd_ne z).trans hb) hn
    rcases hh with ⟨rfl, kvs, h, z, l⟩ | ⟨rfl, kvs, h, z, l⟩
    · obtain ⟨W', ext, ok', e', tt, n⟩ := main _ h (fun x z => by cases z)
      exact ⟨W', ext, ok', .dK z (.inl e') (l.mono ext), tt, n⟩
    · obtain ⟨W', ext, ok', e', tt, n⟩ := main _ h (fun x z => by cases z)
      exact ⟨W', ext, ok', .dT z (.inl e') (l.mono ext), tt, n⟩
  | oi b C fs =>
    obtain ⟨co, dx, vs, eb, s, t, h, hd, l⟩ := so
    cases eb
    have sd : W.S dx = none := by
      cases q : W.S dx with
      | none => rfl
      | some u =>
        have z := ok.le dx u q
        rw [hd] at z
        cases z
        obtain ⟨_, _, _, z⟩ := ok.own dx a q
        rw [s] at z
        cases z
    have ne : a ≠ dx := fun z => by rw [← z, h] at hd; cases hd
    have td : ¬ W.T dx := fun q => by
      obtain ⟨_, x, y, z, q⟩ := ok.st dx q
      rw [hd] at q; cases q
    have at1 : ∀ b, b ≠ a → b ≠ dx → upd (upd W.S dx (.own a)) a (.ins C dx vs) b = W.S b := fun b h1 h2 => by rw [upd_ne h1, upd_ne h2]
    have atd : upd (upd W.S dx (.own a)) a (.ins C dx vs) dx = some (.own a) := by rw [upd_ne (Ne.symm ne), upd_same]
    have ext : Ext W ⟨upd (upd W.S dx (.own a)) a (.ins C dx vs), W.T⟩ := ⟨fun b u eb => (at1 b (fun z => by rw [z, s] at eb; cases eb) (fun z => by rw [z, sd] at eb; cases eb)).trans eb, fun _ t => t⟩
    refine ⟨_, ext, ⟨fun b u eb => ?_, fun l tl => ⟨(at1 l (fun z => t (by rw [← z]; exact tl)) (fun z => td (by rw [← z]; exact tl))).trans (ok.st l tl).1, (ok.st l tl).2⟩, fun b x eb => ?_, ok.dic⟩, .obj co upd_same (l.mono ext), fun _ t => t, fun b hb hn => ?_⟩
    · have eb' : upd (upd W.S dx (.own a)) a (.ins C dx vs) b = some u := eb
      by_cases z : b = a
      · rw [z, upd_same] at eb'
        cases eb'
        rw [z]; exact h
      · by_cases z2 : b = dx
        · rw [z2, atd] at eb'
          cases eb'
          rw [z2]; exact hd
        · rw [at1 b z z2] at eb'
          exact ok.le b u eb'
    · have eb' : upd (upd W.S dx (.own a)) a (.ins C dx vs) b = some (.own x) := eb
      by_cases z : b = a
      · rw [z, upd_same] at eb'
        cases eb'
      · by_cases z2 : b = dx
        · rw [z2, atd] at eb'
          cases eb'
          exact ⟨C, dx, vs, upd_same⟩
        · rw [at1 b z z2] at eb'
          obtain ⟨C', dx', fs', q⟩ := ok.own b x eb'
          exact ⟨C', dx', fs', ext.s _ _ q⟩
    · by_cases z : b = a
      · exact .inl z
      · by_cases z2 : b = dx
        · rw [z2]; exact .inr hd
        · exact absurd ((at1 b z z2).trans hb) hn
def dFresh (f : Env' → (Ent → Prop) → Prop) : DTE := fun ρ Q => f ρ fun e => Q e.datum
theorem Ef.fresh {t : TE} {f : Env' → (Ent → Prop) → Prop} (v : Ef c t f) : Ev c t (dFresh f) := by
  refine ⟨fun {W0 W H σ ρ Q Dq} eo en q k => v.run eo en q fun a e W' H' n g o so q' => ?_⟩
  obtain ⟨W2, ext, ok, r, tt, new⟩ := share g.ok so o
  refine k (.ref a) e.datum W2 H' ⟨g.ext.trans ext, ok, fun b u ow eb => ?_⟩ r q'
  obtain ⟨s, t, h⟩ := g.own b u ow eb
  refine ⟨?_, fun z => t (tt b z), h⟩
  cases z : W2.S b with
  | none => rfl
  | some w =>
    rcases new b s (by rw [z]; exact fun q => (nomatch q)) with e1 | e1
    · exact absurd (by rw [← e1]; exact ow) n
    · rw [h] at e1
      cases e1
      cases ow with
      | here s1 t1 e2 m1 =>
        rw [eb] at e2
        cases e2
        cases m1
      | dict o1 e2 =>
        rw [eb] at e2
        cases e2
        exact absurd o1 n
theorem de_fresh {f : Env' → (Ent → Prop) → Prop} (h : DF X c e f) : DE X c e (dFresh f) := by
  obtain ⟨t, p, v⟩ := h
  exact ⟨t, p, v.fresh⟩
def dSet (i : Nat) (f : DTE) : DTS := fun D ρ => f ρ fun d => D.nx (ρ.set i (.dat d))
theorem ds_set {i : Nat} {x : Str} {pos' : Pos} (hN : X.N.Nodup) (hi : X.N[i]? = some x) (hx : Loc X.env.scope x) (he : DE X c e f) (hs : swapsWith e (some (.Name x pos')) pos.line X.env = pure false := by rfl)
    (hf : X.fn x = true ∨ X.env.scope.names.lookup x = some .local := by first | exact .inl rfl | exact .inr rfl | assumption) : DS X c (.Assign [.Name x pos'] e pos) (dSet i f) := by
  obtain ⟨t, p, v⟩ := he
  exact ⟨_, ps_set hN hi hx p hs hf, ⟨fun eo en q k => v.run eo en q fun x d W' H' g r q' => k.nx _ _ _ _ ((en.go g).setD r) q'⟩⟩
def dSetO (i : Nat) (f : Env' → (Ent → Prop) → Prop) : DTS := fun D ρ => f ρ fun e => D.nx (ρ.set i e)
theorem ds_setO {i : Nat} {x : Str} {pos' : Pos} {f : Env' → (Ent → Prop) → Prop} (hN : X.N.Nodup) (hi : X.N[i]? = some x) (hx : Loc X.env.scope x) (he : DF X c e f) (hs : swapsWith e (some (.Name x pos')) pos.line X.env = pure false := by rfl)
    (hf : X.fn x = true ∨ X.env.scope.names.lookup x = some .local := by first | exact .inl rfl | exact .inr rfl | assumption) : DS X c (.Assign [.Name x pos'] e pos) (dSetO i f) := by
  obtain ⟨t, p, v⟩ := he
  refine ⟨_, ps_set hN hi hx p hs hf, ⟨fun eo en q k => v.run eo en q fun a e W' H' n g o so q' => k.nx _ _ _ _ ((en.go g).put so fun _ j b eb hb => ?_) q'⟩⟩
  cases eb
  obtain ⟨u, eu, s, t, mu⟩ := en.holds hb
  exact absurd (.here s t eu mu) n
/-! ### displays -/
def fLst (g : DTA) : Env' → (Ent → Prop) → Prop := fun ρ Q => g ρ fun ds => ds.length ≤ sizeLine ∧ Q (.ol true ds)
theorem df_lst {g : DTA} (h : DA X c es g) : DF X c (.List es pos) (fLst g) := by
  obtain ⟨t, p, v⟩ := h
  refine ⟨_, pe_lstN p, ⟨fun {W0 W H σ ρ Q Dq} eo en q k => v.run eo en q fun xs ds W' H' g r q' => ⟨by rw [r.len]; exact q'.1, fun a na ns => ?_⟩⟩⟩
  have g2 := Go.newO g.ok na (o := .lst xs) (by intro x z; cases z)
  obtain ⟨n1, n2⟩ := g.ok.gone na
  exact k a (.ol true ds) _ _ (g.notOwned na) (g.trans g2) rfl ⟨a, xs, rfl, n1, n2, ⟨fun _ => ns, by rw [r.len]; exact q'.1⟩, upd_same, r⟩ q'.2
end
end DL

set_option Elab.async false
set_option linter.all false
set_option maxRecDepth 100000
set_option maxHeartbeats 2000000
/-! Targets, what a for walks, for, while, comprehensions. -/
namespace DL
open PySem PySem.Spec PyProof.Rows L2 LW
section
variable {X : Cx} {c : Cn} {K : PySem.W.Frag} {st : Stmt} {rest sts : List Stmt} {g u : DTS} {e : Expr} {es : List Expr} {f : DTE} {pos : Pos}
/-! ### targets: is tells the slots that are set -/
abbrev DTG := D → Env' → (Env' → Prop) → Prop
abbrev DTGs := List D → Env' → (Env' → Prop) → Prop
structure Gv (c : Cn) (is : List Nat) (tg : TG) (g : DTG) : Prop where
  run : ∀ {W0 W : Wd} {H : Hp} {σ : L2.St} {ρ : Env'} {v : V} {d : D} {N : L2.St → Hp → Prop} {Nd : Env' → Prop}, EnvOk c.K W0 W H σ ρ → Rep c.K W v d → g d ρ Nd →
    (∀ σ' ρ', EnvOk c.K W0 W H σ' ρ' → (∀ vs : List Nat, (∀ i ∈ is, i ∈ vs) → wipe σ' vs = wipe σ vs) → Nd ρ' → N σ' H) → tg v σ H N
structure Gvs (c : Cn) (is : List Nat) (tg : TGs) (g : DTGs) : Prop where
  run : ∀ {W0 W : Wd} {H : Hp} {σ : L2.St} {ρ : Env'} {v : List V} {d : List D} {N : L2.St → Hp → Prop} {Nd : Env' → Prop}, EnvOk c.K W0 W H σ ρ → RepL c.K W v d → g d ρ Nd →
    (∀ σ' ρ', EnvOk c.K W0 W H σ' ρ' → (∀ vs : List Nat, (∀ i ∈ is, i ∈ vs) → wipe σ' vs = wipe σ vs) → Nd ρ' → N σ' H) → tg v σ H N
def DG (X : Cx) (c : Cn) (e : Expr) (is : List Nat) (g : DTG) : Prop := ∃ tg, PG X e tg ∧ Gv c is tg g
def DGs (X : Cx) (c : Cn) (es : List Expr) (is : List Nat) (g : DTGs) : Prop := ∃ tg, PGs X es tg ∧ Gvs c is tg g
theorem wipe_get {σ : L2.St} {j : Nat} : ∀ {vs : List Nat}, (wipe σ vs)[j]? = if j ∈ vs then (σ[j]?.map fun _ => none) else σ[j]?
  | [] => rfl
  | v :: vs => by
    unfold wipe
    by_cases e : v = j
    · subst e
      rw [if_pos List.mem_cons_self]
      by_cases lt : v < (wipe σ vs).length
      · rw [List.getElem?_set_self lt]
        rw [wipe_length] at lt
        rw [List.getElem?_eq_getElem lt]
        rfl
      · rw [List.getElem?_eq_none (by simpa using lt)]
        rw [wipe_length] at lt
        rw [List.getElem?_eq_none (by omega)]
        rfl
    · rw [List.getElem?_set_ne e, wipe_get]
      by_cases m : j ∈ vs
      · rw [if_pos m, if_pos (List.mem_cons_of_mem _ m)]
      · rw [if_neg m, if_neg fun z => (List.mem_cons.mp z).elim (fun z => e z.symm) m]
theorem wipe_set_in {σ : L2.St} {i : Nat} {o : Option V} {vs : List Nat} (m : i ∈ vs) : wipe (σ.set i o) vs = wipe σ vs := by
  apply List.ext_getElem?
  intro j
  rw [wipe_get, wipe_get]
  by_cases e : i = j
  · subst e
    rw [if_pos m, if_pos m]
    by_cases lt : i < σ.length
    · rw [List.getElem?_set_self lt, List.getElem?_eq_getElem lt]
      rfl
    · rw [List.getElem?_eq_none (by simpa using lt), List.getElem?_eq_none (by omega)]
  · rw [List.getElem?_set_ne e]
def gNameD (i : Nat) : DTG := fun d ρ N => N (ρ.set i (.dat d))
theorem dg_name {i : Nat} {x : Str} (hN : X.N.Nodup) (hi : X.N[i]? = some x) (hx : Loc X.env.scope x) (hf : X.fn x = true ∨ X.env.scope.names.lookup x = some .local := by first | exact .inl rfl | exact .inr rfl | assumption) : DG X c (.Name x pos) [i] (gNameD i) :=
  ⟨_, pg_name hN hi hx hf, ⟨fun en r q k => k _ _ (en.setD r) (fun vs h => wipe_set_in (h i List.mem_cons_self)) q⟩⟩
def gNilD : DTGs := fun ds ρ N => match ds with
  | [] => N ρ
  | _ => False
def gConsD (g : DTG) (gs : DTGs) : DTGs := fun ds ρ N => match ds with
  | d :: r => g d ρ fun ρ' => gs r ρ' N
  | [] => False
theorem dgs_nil : DGs X c [] [] gNilD := ⟨_, pgs_nil, ⟨fun en r q k => by
  cases r with
  | nil => exact ⟨rfl, k _ _ en (fun _ _ => rfl) q⟩
  | cons r1 r2 => exact q.elim⟩⟩
theorem dgs_cons {is js : List Nat} {g : DTG} {gs : DTGs} (h1 : DG X c e is g) (h2 : DGs X c es js gs) (hs : (assignEach (e :: es) X.env).map (·.2) = assign e X.env :: (assignEach es X.env).map (·.2) := by rfl) : DGs X c (e :: es) (is ++ js) (gConsD g gs) := by
  obtain ⟨t, p, v⟩ := h1
  obtain ⟨t', p', v'⟩ := h2
  refine ⟨_, pgs_cons p p' hs, ⟨fun en r q k => ?_⟩⟩
  cases r with
  | nil => exact False.elim q
  | cons r1 r2 =>
    refine ⟨_, _, rfl, v.run en r1 q fun σ1 ρ1 en1 w1 q1 => v'.run en1 r2 q1 fun σ2 ρ2 en2 w2 q2 => k σ2 ρ2 en2 (fun vs h => ?_) q2⟩
    rw [w2 vs fun i m => h i (List.mem_append_right _ m), w1 vs fun i m => h i (List.mem_append_left _ m)]
def gTupD (n : Nat) (gs : DTGs) : DTG := fun d ρ N => match d with
  | .tup ds => ds.length = n ∧ gs ds ρ N
  | .lst _ ds => ds.length = n ∧ gs ds ρ N
  | _ => False
theorem pg_or {X : Cx} {e : Expr} {t t' : TG} (h : PG X e t) (h' : PG X e t') : PG X e (fun v σ H Q => t v σ H Q ∨ t' v σ H Q) :=
  ⟨fun pins s σ H v u Q I r q => q.elim (h.run pins s σ H v u Q I r) (h'.run pins s σ H v u Q I r)⟩
theorem dg_tup {is : List Nat} {gs : DTGs} {n k : Nat} (hc : X.calm = true) (h : DGs X c es is gs) (hK : X.K = c.K := by rfl) (hn : (assignEach es X.env).length = n := by rfl) (hst : (assignEach es X.env).findIdx? (·.1) = none := by rfl) :
    DG X c (.Tuple es k pos) is (gTupD n gs) := by
  obtain ⟨t, p, v⟩ := h
  refine ⟨_, pg_or (pg_tup hc p hn hst) (pg_unl hc p hn hst), ⟨fun en r q k => ?_⟩⟩
  cases r with
  | tup z h l =>
    rw [hK]
    exact .inl ⟨_, _, rfl, h.sq en.ok.le, by rw [l.len]; exact q.1, v.run en l q.2 k⟩
  | lst n z h l =>
    exact .inr ⟨_, _, rfl, SqL.of (en.ok.le _ _ h), by rw [l.len]; exact q.1, v.run en l q.2 k⟩
  | _ => exact False.elim q
def dAsg (f : DTE) (g : DTG) : DTS := fun D ρ => f ρ fun d => g d ρ D.nx
theorem ds_asg {tg : Expr} {is : List Nat} {g : DTG} (he : DE X c e f) (hg : DG X c tg is g) (hs : swapsWithSole [tg] e pos.line X.env = pure false := by rfl) (hw : swappedStores [tg] e X.env = pure none := by rfl)
    (h1 : (assignEach [tg] X.env).map (·.2) = [assign tg X.env] := by rfl) : DS X c (.Assign [tg] e pos) (dAsg f g) := by
  obtain ⟨t, p, v⟩ := he
  obtain ⟨t', p', v'⟩ := hg
  exact ⟨_, ps_asg p p' hs hw h1, ⟨fun eo en q k => v.run eo en q fun x d W' H' g r q' => v'.run (en.go g) r q' fun σ' ρ' en' _ q2 => k.nx _ _ _ _ en' q2⟩⟩
/-- a, b = x, y -/
def dPar (i j : Nat) (fa fb : DTE) : DTS := fun D ρ => fa ρ fun x => fb ρ fun y => D.nx ((ρ.set i (.dat x)).set j (.dat y))
theorem ds_par {i j : Nat} {x y : Str} {a b : Expr} {fa fb : DTE} {px py pt pt2 : Pos} {kt k2 : Nat} (hc : X.calm = true) (hN : X.N.Nodup) (hi : X.N[i]? = some x) (hj : X.N[j]? = some y) (hij : i ≠ j) (hx : X.env.scope.names.lookup x = some .local) (hy : X.env.scope.names.lookup y = some .local)
    (ha : DE X c a fa) (hb : DE X c b fb) (hw : swappedStores [.Tuple [.Name x px, .Name y py] kt pt] (.Tuple [a, b] k2 pt2) X.env = pure (some [x, y]))
    (hs : swapsWithSole [.Tuple [.Name x px, .Name y py] kt pt] (.Tuple [a, b] k2 pt2) pos.line X.env = pure false := by rfl)
    (hs1 : starEach [a, b] X.env = (false, eval a X.env) :: starEach [b] X.env := by rfl) (hs2 : starEach [b] X.env = (false, eval b X.env) :: starEach [] X.env := by rfl) :
    DS X c (.Assign [.Tuple [.Name x px, .Name y py] kt pt] (.Tuple [a, b] k2 pt2) pos) (dPar i j fa fb) := by
  obtain ⟨t, p, v⟩ := ha
  obtain ⟨t', p', v'⟩ := hb
  exact ⟨_, ps_par hc hN hi hj hij hx hy (pa_cons p (pa_cons p' pa_nil hs2) hs1) hw hs, ⟨fun eo en q k => v.run eo en q fun x d W1 H1 g1 r1 q1 => v'.run eo (en.go g1) q1 fun y d' W2 H2 g2 r2 q2 =>
    ⟨x, y, rfl, k.nx _ _ _ _ ((((en.go g1).go g2).setD (r1.mono g2.ext)).setD r2) q2⟩⟩⟩
/-! ### what a for walks -/
abbrev DTI := Env' → (List D → Prop) → Prop
def IterOk (K : PySem.W.Frag) (J : It) (items : List D) (W : Wd) : Prop := ∀ (i : Nat) (W2 : Wd) (H2 : Hp), Ext W W2 → Ok W2 H2 → (i = items.length → J.stop i H2) ∧ ∀ d, items[i]? = some d → J.go i H2 ∧ ∀ x H3, J.yld i H2 x H3 → ∃ W3, Go W2 H2 W3 H3 ∧ Rep K W3 x d
structure Iv (c : Cn) (wi : TI) (f : DTI) : Prop where
  run : ∀ {W0 W : Wd} {H : Hp} {σ : L2.St} {ρ : Env'} {R : It → Hp → Prop} {Dq : List D → Prop}, c.Eok W0 → EnvOk c.K W0 W H σ ρ → f ρ Dq → (∀ J items W' H', Go W H W' H' → IterOk c.K J items W' → items.length ≤ sizeLine → Dq items → R J H') → wi σ H R
def DI (X : Cx) (c : Cn) (tg e : Expr) (f : DTI) : Prop := ∃ wi, PI X tg e wi ∧ Iv c wi f
/-! ### for -/
def forD (g : DTG) (body : DTS) (Dd : DEnds) : List D → Env' → Prop
  | [], ρ => Dd.nx ρ
  | d :: ds, ρ => g d ρ fun ρ1 => body { nx := forD g body Dd ds, rt := Dd.rt, bk := Dd.nx, ct := forD g body Dd ds } ρ1
def dFor (f : DTI) (g : DTG) (body : DTS) : DTS := fun Dd ρ => f ρ fun items => forD g body Dd items ρ
theorem ds_for {tg iter : Expr} {body : List Stmt} {fi : DTI} {is : List Nat} {g : DTG} {gb : DTS} (hp : PassesOwn (model X.prog X.w) X.A X.env X.xe) (hc : X.calm = true) (hi : DI X c tg iter fi) (hg : DG X c tg is g) (hb : DSs X c body gb)
    (hs : ∀ x, foldedSetIterable iter X.env x = pure x := by intro _; rfl) : DS X c (.For tg iter body [] pos) (dFor fi g gb) := by
  obtain ⟨wi, pi, vi⟩ := hi
  obtain ⟨tgv, pg, vg⟩ := hg
  obtain ⟨tb, pb, vb⟩ := hb
  refine ⟨_, ps_for hp hc pi pg pb hs, ⟨fun {W0 W H σ ρ D Dd} eo en q k => vi.run eo en q fun J items W1 H1 g1 iok _ q1 => ?_⟩⟩
  have en1 := (en.go g1)
  refine ⟨fun i m σ H => m = items.length - i ∧ i ≤ items.length ∧ ∃ ρ W, EnvOk c.K W1 W H σ ρ ∧ forD g gb Dd (items.drop i) ρ, ⟨items.length, by simp, Nat.zero_le _, ρ, W1, en1.base, q1⟩, ?_⟩
  rintro i m σ2 H2 ⟨rfl, hi, ρ2, W2, en2, q2⟩
  obtain ⟨st, go⟩ := iok i W2 H2 en2.ext en2.ok
  rcases Nat.lt_or_ge i items.length with lt | ge
  · have ed : items[i]? = some items[i] := List.getElem?_eq_getElem lt
    obtain ⟨g0, y0⟩ := go _ ed
    have edrop : items.drop i = items[i] :: items.drop (i + 1) := List.drop_eq_getElem_cons lt
    rw [edrop] at q2
    refine .inr ⟨g0, fun σ H => i + 1 ≤ items.length ∧ ∃ ρ W, EnvOk c.K W1 W H σ ρ ∧ forD g gb Dd (items.drop (i + 1)) ρ, fun σ' H' ⟨h1, h2⟩ => ⟨items.length - (i + 1), by omega, rfl, h1, h2⟩, fun x H3 y => ?_⟩
    obtain ⟨W3, g3, r3⟩ := y0 x H3 y
    refine vg.run (en2.go g3) r3 q2 fun σ4 ρ4 en4 _ q4 => vb.run (eo.mono (en.ext.trans g1.ext)) en4 q4 ⟨fun σ ρ W H en5 q5 => ⟨lt, ρ, W, en5, q5⟩, fun v d W H e5 ok5 r5 q5 => k.rt v d W H ((en.ext.trans g1.ext).trans e5) ok5 r5 q5, fun σ ρ W H en5 q5 => k.nx _ _ _ _ (en5.rebase (en.ext.trans g1.ext)) q5, fun σ ρ W H en5 q5 => ⟨lt, ρ, W, en5, q5⟩⟩
  · obtain rfl : i = items.length := Nat.le_antisymm hi ge
    rw [List.drop_length] at q2
    exact .inl ⟨st rfl, k.nx _ _ _ _ (en2.rebase (en.ext.trans g1.ext)) q2⟩
/-! ### comprehensions -/
def wipeE (ρ : Env') : List Nat → Env'
  | [] => ρ
  | v :: vs => (wipeE ρ vs).set v .un
theorem EnvOk.wipe {W0 W : Wd} {H : Hp} {σ : L2.St} {ρ : Env'} (en : EnvOk K W0 W H σ ρ) : ∀ vs : List Nat, EnvOk K W0 W H (wipe σ vs) (wipeE ρ vs)
  | [] => en
  | v :: vs => by
    have ih := en.wipe vs
    refine ⟨ih.ext, ih.ok, by unfold L2.wipe wipeE; rw [List.length_set, List.length_set]; exact ih.len, fun i e q => ?_, fun i j a hi hj => ?_⟩
    · unfold wipeE at q
      rcases getSet q with ⟨rfl, rfl, lt⟩ | ⟨ne, q⟩
      · trivial
      · unfold L2.wipe
        rw [List.getElem?_set_ne (Ne.symm ne)]
        exact ih.slot i e q
    · have tell : ∀ {m : Nat}, HasOwn (L2.wipe σ (v :: vs)) (wipeE ρ (v :: vs)) m a → HasOwn (L2.wipe σ vs) (wipeE ρ vs) m a := fun {m} hm => by
        obtain ⟨h1, u, h2, h3⟩ := hm
        unfold wipeE at h2
        rcases getSet h2 with ⟨rfl, rfl, lt⟩ | ⟨ne, h2⟩
        · cases h3
        · unfold L2.wipe at h1
          rw [List.getElem?_set_ne (Ne.symm ne)] at h1
          exact ⟨h1, u, h2, h3⟩
      exact ih.apart i j a (tell hi) (tell hj)
structure Tsv (c : Cn) (tt : TT) (f : DTT) : Prop where
  tv : Tv c tt f
def DTs (X : Cx) (c : Cn) (ifs : List Expr) (f : DTT) : Prop := ∃ tt, PTs X ifs tt ∧ Tv c tt f
def dYes : DTT := fun _ Q => Q true
theorem dts_nil : DTs X c [] dYes := ⟨_, pts_nil, ⟨fun _ en q k => k true _ _ (Go.refl en.ok) q⟩⟩
theorem dts_one {f : DTT} (h : DT X c e f) : DTs X c [e] f := by
  obtain ⟨t, p, v⟩ := h
  exact ⟨t, pts_one p, v⟩
def lcD (g : DTG) (tt : DTT) (te : DTE) (ρ : Env') : List D → List D → (List D → Prop) → Prop
  | acc, [], Q => Q acc
  | acc, d :: ds, Q => g d ρ fun ρ1 => tt ρ1 fun b => if b = true then te ρ1 fun y => lcD g tt te ρ (acc ++ [y]) ds Q else lcD g tt te ρ acc ds Q
def fLc (f : DTI) (g : DTG) (tt : DTT) (te : DTE) (vs : List Nat) : Env' → (Ent → Prop) → Prop := fun ρ Q => f ρ fun items => lcD g tt te (wipeE ρ vs) [] items fun ds => Q (.ol false ds)
/-- nothing is raised -/
def Cn.nox (c : Cn) : Cn := ⟨c.K, fun _ _ _ => False, fun _ => False⟩
theorem Cn.nox_ok (c : Cn) (W0 : Wd) : c.nox.Eok W0 := fun _ _ _ _ _ _ _ _ z => z.elim
theorem Ev.nox {te : TE} (h : Ev c.nox te f) : Ev c te f := ⟨fun _ en q k => h.run (c.nox_ok _) en q k⟩
theorem Tv.nox {tt : TT} {f : DTT} (h : Tv c.nox tt f) : Tv c tt f := ⟨fun _ en q k => h.run (c.nox_ok _) en q k⟩
theorem Gv.nox {is : List Nat} {tg : TG} {g : DTG} (h : Gv c.nox is tg g) : Gv c is tg g := ⟨fun en r q k => h.run en r q k⟩
/-- a reading for every block at once -/
theorem blk_e {scope : Scope} {elt : Expr} {te : DTE} (h : ∀ (s : Shared) (H : Hp) (C : Addr) (cl : List (Str × Addr)) (fp : List Addr), DE (X.blk s H scope (compEnvC scope cl C X.env) fp) c.nox elt te) :
    ∃ el, (∀ (s : Shared) (H : Hp) (C : Addr) (cl : List (Str × Addr)) (fp : List Addr), PE (X.blk s H scope (compEnvC scope cl C X.env) fp) elt el) ∧ Ev c el te := by
  refine ⟨fun σ H' Q => ∀ s H C cl fp, (h s H C cl fp).choose σ H' Q, fun s H C cl fp => ⟨fun pins s' σ H' Q I q => (h s H C cl fp).choose_spec.1.run pins s' σ H' Q I (q s H C cl fp)⟩, ⟨fun eo en q k s H C cl fp => (h s H C cl fp).choose_spec.2.nox.run eo en q k⟩⟩
theorem blk_t {scope : Scope} {ifs : List Expr} {tt : DTT} (h : ∀ (s : Shared) (H : Hp) (C : Addr) (cl : List (Str × Addr)) (fp : List Addr), DTs (X.blk s H scope (compEnvC scope cl C X.env) fp) c.nox ifs tt) :
    ∃ el, (∀ (s : Shared) (H : Hp) (C : Addr) (cl : List (Str × Addr)) (fp : List Addr), PTs (X.blk s H scope (compEnvC scope cl C X.env) fp) ifs el) ∧ Tv c el tt := by
  refine ⟨fun σ H' Q => ∀ s H C cl fp, (h s H C cl fp).choose σ H' Q, fun s H C cl fp => ⟨fun pins s' σ H' Q I q => (h s H C cl fp).choose_spec.1.run pins s' σ H' Q I (q s H C cl fp)⟩, ⟨fun eo en q k s H C cl fp => (h s H C cl fp).choose_spec.2.nox.run eo en q k⟩⟩
theorem blk_g {scope : Scope} {tg : Expr} {is : List Nat} {g : DTG} (h : ∀ (s : Shared) (H : Hp) (C : Addr) (cl : List (Str × Addr)) (fp : List Addr), DG (X.blk s H scope (compEnvC scope cl C X.env) fp) c.nox tg is g) :
    ∃ el, (∀ (s : Shared) (H : Hp) (C : Addr) (cl : List (Str × Addr)) (fp : List Addr), PG (X.blk s H scope (compEnvC scope cl C X.env) fp) tg el) ∧ Gv c is el g := by
  refine ⟨fun v σ H' N => ∀ s H C cl fp, (h s H C cl fp).choose v σ H' N, fun s H C cl fp => ⟨fun pins s' σ H' v u Q I r q => (h s H C cl fp).choose_spec.1.run pins s' σ H' v u Q I r (q s H C cl fp)⟩, ⟨fun en r q k s H C cl fp => (h s H C cl fp).choose_spec.2.nox.run en r q k⟩⟩
theorem ef_lc {wi : TI} {gl : TG} {tl : TT} {el : TE} {own : List (Str × Nat)} {fi : DTI} {is : List Nat} {g : DTG} {tt : DTT} {te : DTE} (vi : Iv c wi fi) (vg : Gv c is gl g) (vt : Tv c tl tt) (ve : Ev c el te) (hin : ∀ i ∈ is, i ∈ own.map (·.2)) : Ef c (tLc wi gl tl el (own.map (·.2))) (fLc fi g tt te (own.map (·.2))) := by
  refine ⟨fun {W0 W H σ ρ Q Dq} eo en q k => vi.run eo en q fun J items W1 H1 g1 iok hz q1 A nA => ?_⟩
  have en1 := en.go g1
  have gA := Go.newO g1.ok nA (o := .lst []) (by intro x z; cases z)
  obtain ⟨n1, n2⟩ := g1.ok.gone nA
  refine ⟨fun i m H => m = items.length - i ∧ i ≤ items.length ∧ ∃ W xs ds, Go W1 H1 W H ∧ W.S A = none ∧ ¬ W.T A ∧ H A = some (.lst xs) ∧ RepL c.K W xs ds ∧ xs.length ≤ i ∧ lcD g tt te (wipeE ρ (own.map (·.2))) ds (items.drop i) fun ds => Dq (.ol false ds),
    ⟨items.length, by simp, Nat.zero_le _, W1, [], [], gA, n1, n2, upd_same, .nil, Nat.le_refl _, q1⟩, ?_⟩
  rintro i m H2 ⟨rfl, hi, W2, xs, ds, g2, m1, m2, eA, rl, hx, q2⟩
  obtain ⟨st, go⟩ := iok i W2 H2 g2.ext g2.ok
  rcases Nat.lt_or_ge i items.length with lt | ge
  · have ed : items[i]? = some items[i] := List.getElem?_eq_getElem lt
    obtain ⟨g0, y0⟩ := go _ ed
    have edrop : items.drop i = items[i] :: items.drop (i + 1) := List.drop_eq_getElem_cons lt
    rw [edrop] at q2
    refine .inr ⟨g0, fun H => i + 1 ≤ items.length ∧ ∃ W xs ds, Go W1 H1 W H ∧ W.S A = none ∧ ¬ W.T A ∧ H A = some (.lst xs) ∧ RepL c.K W xs ds ∧ xs.length ≤ i + 1 ∧ lcD g tt te (wipeE ρ (own.map (·.2))) ds (items.drop (i + 1)) fun ds => Dq (.ol false ds),
      fun H' ⟨h1, h2⟩ => ⟨items.length - (i + 1), by omega, rfl, h1, h2⟩, fun x H3 y => ?_⟩
    obtain ⟨W3, g3, r3⟩ := y0 x H3 y
    have g13 := g2.trans g3
    have enw := ((en1.go g13).wipe (own.map (·.2)))
    refine vg.run enw r3 q2 fun σ4 ρ4 en4 w4 q4 => ⟨?_, vt.run eo en4 q4 fun b W5 H5 g5 q5 => ?_⟩
    · have z := w4 (own.map (·.2)) hin
      rw [z]
      apply List.ext_getElem?
      intro j
      rw [wipe_get, wipe_get]
      by_cases mj : j ∈ own.map (·.2)
      · rw [if_pos mj, if_pos mj]
        cases σ[j]? <;> rfl
      · rw [if_neg mj]
    · have ow : Owned W2 H2 A := .here m1 m2 eA rfl
      have g35 := g3.trans g5
      cases b with
      | false =>
        obtain ⟨a1, a2, a3⟩ := g35.own A _ ow eA
        exact ⟨lt, W5, xs, ds, g13.trans g5, a1, a2, a3, rl.mono g35.ext, by omega, q5⟩
      | true =>
        have q5' : te ρ4 fun y => lcD g tt te (wipeE ρ (own.map (·.2))) (ds ++ [y]) (items.drop (i + 1)) fun ds => Dq (.ol false ds) := q5
        refine ve.run eo (en4.go g5) q5' fun y d W6 H6 g6 r6 q6 => ?_
        have g36 := g35.trans g6
        obtain ⟨a1, a2, a3⟩ := g36.own A _ ow eA
        refine ⟨xs, a3, by omega, lt, W6, xs ++ [y], ds ++ [d], ?_, a1, a2, upd_same, (rl.mono g36.ext).app (.cons r6 .nil), by rw [List.length_append]; show xs.length + 1 ≤ i + 1; omega, q6⟩
        refine (g2.trans g36).touch (fun ow => ?_) a1 a2 (by intro x z; cases z) (by rw [a3]; intro C dx fs z; cases z)
        cases ow with
        | here s t e m => rw [nA] at e; cases e
        | dict o e => rw [nA] at e; cases e
  · obtain rfl : i = items.length := Nat.le_antisymm hi ge
    rw [List.drop_length] at q2
    exact .inl ⟨st rfl, k A (.ol false ds) W2 H2 (g1.notOwned nA) (g1.trans g2) rfl ⟨A, xs, rfl, m1, m2, ⟨(fun z => by cases z), by omega⟩, eA, rl⟩ q2⟩
theorem df_lc {elt tg iter : Expr} {ifs : List Expr} {scope : Scope} {own : List (Str × Nat)} {fi : DTI} {is : List Nat} {g : DTG} {tt : DTT} {te : DTE} (hc : X.calm = true) (hN : X.N.Nodup) (hi : DI X c tg iter fi) (ok : BlkOk X.N X.env.scope scope own)
    (hg : ∀ (s : Shared) (H : Hp) (C : Addr) (cl : List (Str × Addr)) (fp : List Addr), DG (X.blk s H scope (compEnvC scope cl C X.env) fp) c.nox tg is g)
    (ht : ∀ (s : Shared) (H : Hp) (C : Addr) (cl : List (Str × Addr)) (fp : List Addr), DTs (X.blk s H scope (compEnvC scope cl C X.env) fp) c.nox ifs tt)
    (he : ∀ (s : Shared) (H : Hp) (C : Addr) (cl : List (Str × Addr)) (fp : List Addr), DE (X.blk s H scope (compEnvC scope cl C X.env) fp) c.nox elt te)
    (hin : ∀ i ∈ is, i ∈ own.map (·.2)) (hs : ∀ x, foldedSetIterable iter X.env x = pure x := by intro _; rfl) : DF X c (.ListComp elt [⟨tg, iter, ifs, 0⟩] scope pos) (fLc fi g tt te (own.map (·.2))) := by
  obtain ⟨wi, pi, vi⟩ := hi
  obtain ⟨gl, pg, vg⟩ := blk_g (c := c) hg
  obtain ⟨tl, pt, vt⟩ := blk_t (c := c) ht
  obtain ⟨el, pe, ve⟩ := blk_e (c := c) he
  exact ⟨_, pe_lc hc hN pi ok pg pt pe hs, ef_lc vi vg vt ve hin⟩
theorem ds_setLc {i : Nat} {y : Str} {py spos : Pos} {elt tg iter : Expr} {ifs : List Expr} {scope : Scope} {own : List (Str × Nat)} {fi : DTI} {is : List Nat} {g : DTG} {tt : DTT} {te : DTE} (hy : X.N[i]? = some y) (hyl : X.env.scope.names.lookup y = some .local) (hc : X.calm = true) (hN : X.N.Nodup) (hi : DI X c tg iter fi) (ok : BlkOk X.N X.env.scope scope own)
    (hg : ∀ (s : Shared) (H : Hp) (C : Addr) (cl : List (Str × Addr)) (fp : List Addr), DG (X.blk s H scope (compEnvC scope cl C X.env) fp) c.nox tg is g)
    (ht : ∀ (s : Shared) (H : Hp) (C : Addr) (cl : List (Str × Addr)) (fp : List Addr), DTs (X.blk s H scope (compEnvC scope cl C X.env) fp) c.nox ifs tt)
    (he : ∀ (s : Shared) (H : Hp) (C : Addr) (cl : List (Str × Addr)) (fp : List Addr), DE (X.blk s H scope (compEnvC scope cl C X.env) fp) c.nox elt te)
    (hin : ∀ i ∈ is, i ∈ own.map (·.2)) (hs : ∀ x, foldedSetIterable iter X.env x = pure x := by intro _; rfl)
    (hsw : swapsWith (.ListComp elt [⟨tg, iter, ifs, 0⟩] scope pos) (some (.Name y py)) spos.line X.env = pure true := by rfl) : DS X c (.Assign [.Name y py] (.ListComp elt [⟨tg, iter, ifs, 0⟩] scope pos) spos) (dSet i (dFresh (fLc fi g tt te (own.map (·.2))))) := by
  obtain ⟨wi, pi, vi⟩ := hi
  obtain ⟨gl, pg, vg⟩ := blk_g (c := c) hg
  obtain ⟨tl, pt, vt⟩ := blk_t (c := c) ht
  obtain ⟨el, pe, ve⟩ := blk_e (c := c) he
  have v := (ef_lc (own := own) vi vg vt ve hin).fresh
  exact ⟨_, ps_setLc hc hN hy hyl hsw pi ok pg pt pe hs, ⟨fun eo en q k => v.run eo en q fun v d W' H' g r q' => k.nx _ _ _ _ ((en.go g).setD r) q'⟩⟩
theorem ds_setLcO {i : Nat} {y : Str} {py spos : Pos} {elt tg iter : Expr} {ifs : List Expr} {scope : Scope} {own : List (Str × Nat)} {fi : DTI} {is : List Nat} {g : DTG} {tt : DTT} {te : DTE} (hy : X.N[i]? = some y) (hyl : X.env.scope.names.lookup y = some .local) (hc : X.calm = true) (hN : X.N.Nodup) (hi : DI X c tg iter fi) (ok : BlkOk X.N X.env.scope scope own)
    (hg : ∀ (s : Shared) (H : Hp) (C : Addr) (cl : List (Str × Addr)) (fp : List Addr), DG (X.blk s H scope (compEnvC scope cl C X.env) fp) c.nox tg is g)
    (ht : ∀ (s : Shared) (H : Hp) (C : Addr) (cl : List (Str × Addr)) (fp : List Addr), DTs (X.blk s H scope (compEnvC scope cl C X.env) fp) c.nox ifs tt)
    (he : ∀ (s : Shared) (H : Hp) (C : Addr) (cl : List (Str × Addr)) (fp : List Addr), DE (X.blk s H scope (compEnvC scope cl C X.env) fp) c.nox elt te)
    (hin : ∀ i ∈ is, i ∈ own.map (·.2)) (hs : ∀ x, foldedSetIterable iter X.env x = pure x := by intro _; rfl)
    (hsw : swapsWith (.ListComp elt [⟨tg, iter, ifs, 0⟩] scope pos) (some (.Name y py)) spos.line X.env = pure true := by rfl) : DS X c (.Assign [.Name y py] (.ListComp elt [⟨tg, iter, ifs, 0⟩] scope pos) spos) (dSetO i (fLc fi g tt te (own.map (·.2)))) := by
  obtain ⟨wi, pi, vi⟩ := hi
  obtain ⟨gl, pg, vg⟩ := blk_g (c := c) hg
  obtain ⟨tl, pt, vt⟩ := blk_t (c := c) ht
  obtain ⟨el, pe, ve⟩ := blk_e (c := c) he
  have v := ef_lc (own := own) vi vg vt ve hin
  refine ⟨_, ps_setLc hc hN hy hyl hsw pi ok pg pt pe hs, ⟨fun eo en q k => v.run eo en q fun a e W' H' n g o so q' => k.nx _ _ _ _ ((en.go g).put so fun _ j b eb hb => ?_) q'⟩⟩
  cases eb
  obtain ⟨u, eu, s, t, mu⟩ := en.holds hb
  exact absurd (.here s t eu mu) n
end
end DL

set_option Elab.async false
set_option linter.all false
set_option maxRecDepth 100000
set_option maxHeartbeats 2000000
/-! Calls of defs; a def from its body. -/
namespace DL
open PySem PySem.Spec PyProof.Rows L2 LW
section
variable {P : Program} {w : World} {K : PySem.W.Frag} {mg : Str → Option Value} {base : Heap}
/-- the slots of a def whose arguments are these -/
def startD (N : List Str) (ds : List D) : Env' := ds.map Ent.dat ++ List.replicate (N.length - ds.length) .un
theorem start_env {N : List Str} {W : Wd} {H : Hp} {vs : List V} {ds : List D} (ok : Ok W H) (r : RepL K W vs ds) (hl : vs.length ≤ N.length) : EnvOk K W W H (L2.start N vs) (startD N ds) := by
  refine ⟨Ext.refl W, ok, ?_, fun i e q => ?_, fun i j a hi => ?_⟩
  · unfold L2.start startD
    rw [List.length_append, List.length_append, List.length_map, List.length_map, List.length_replicate, List.length_replicate, r.len]
  · unfold startD at q
    by_cases lt : i < ds.length
    · rw [List.getElem?_append_left (by simpa using lt), List.getElem?_map, List.getElem?_eq_getElem lt] at q
      cases q
      obtain ⟨v, ev, rv⟩ := r.get (List.getElem?_eq_getElem lt)
      refine ⟨v, ?_, rv⟩
      unfold L2.start
      rw [List.getElem?_append_left (by rw [List.length_map, r.len]; exact lt), List.getElem?_map, ev]
      rfl
    · rw [List.getElem?_append_right (by simpa using lt), List.getElem?_replicate] at q
      split at q
      · cases q; trivial
      · cases q
  · obtain ⟨_, e, he, ho⟩ := hi
    exfalso
    unfold startD at he
    by_cases lt : i < ds.length
    · rw [List.getElem?_append_left (by simpa using lt), List.getElem?_map, List.getElem?_eq_getElem lt] at he
      cases he
      cases ho
    · rw [List.getElem?_append_right (by simpa using lt), List.getElem?_replicate] at he
      split at he
      · cases he; cases ho
      · cases he
/-- THE RULE for a def of data -/
theorem okD {x qual : Str} {st : Stmt} {f : Addr} {fd : FuncData} {N ps : List Str} {k : Nat} {g : SpD} (F : Fun K x qual st f fd) (S : FnScope N ps (defScope st)) (hN : ps.length ≤ N.length) (len : ∀ ds Q De, g ds Q De → ds.length = ps.length)
    (hbody : ∀ (cdv : Value) (A : Around) (outer : List Env) (s : Shared) (H : Hp) (E : XK) (De : Xn → Prop), (A.deeper (envOfC qual (defScope st) s.heap.objs.size f cdv)).guards = some [] → Room k (A.deeper (envOfC qual (defScope st) s.heap.objs.size f cdv)) →
      ∃ gb, DSs (cxOf (L2.CX P w) P w K mg base N qual (defScope st) f cdv A outer s H E) ⟨K, E, De⟩ (defBody st) gb ∧ ∀ ds Dq, g ds Dq De → gb { nx := fun _ => Dq .non, rt := Dq } (startD N ds)) : FnD P w K mg base (k + 1) f fd ps g := by
  refine fnD_of ?_
  obtain ⟨oc, od, kV, doc, pm, an, cdv, ct, osl, rfl, lk, hcd⟩ := F.ex
  have lenB : ∀ vs H Q E, spB K g vs H Q E → vs.length = ps.length := fun vs H Q E h => by
    obtain ⟨W, ds, Dq, De, ok, rl, hg, _⟩ := h
    rw [rl.len]
    exact len ds Dq De hg
  constructor
  · exact lenB
  · intro A outer s H args us vs Q E gd room env0 bnd rel prom
    have inK : K.In s.heap := env0.mod.kin.keeps fun a u q => (env0.bs a u q).1
    have noLim : s.heap.NoLimit := env0.mod.nolimit.keeps fun a u q => (env0.bs a u q).1
    have count := lenB vs H Q E prom
    have kinds : ∀ y ∈ ps.zip us, (defScope st).names.lookup y.1 = some .local ∨ ((defScope st).names.lookup y.1 = some .cell ∧
        ((cellsFrom (s.heap.objs.size + 1) (defScope st).names []).lookup y.1).isSome = true) := by
      rintro ⟨y, u⟩ mem
      cases S.par y (List.of_mem_zip mem).1 with
      | inl q => exact Or.inl q
      | inr q => exact Or.inr ⟨q, PySem.W.cellsFrom_some _ _ _ (Or.inl q)⟩
    apply codeAny_call_function room.depth (inK _ _ lk) rfl S.co S.gen rfl (PySem.W.codeRec_of inK hcd)
    apply bnd
    apply wpAny_newFunctionEnv_cells S.kind kinds
    intro env henv s1 ic
    subst henv
    refine And.intro (noLim.keeps ic.toInCall.keep) (codeAny_func ?_)
    obtain ⟨W, ds, Dq, De, ok, rl, hg, hQ, hE⟩ := prom
    obtain ⟨gb, ⟨t, body, sv⟩, goal⟩ := hbody cdv A outer s H E De gd (room.deeper _)
    have inv := inv_start (CX := L2.CX P w) (P := P) (w := w) (K := K) (mg := mg) (base := base) (f := f) (E := E) S room.hd env0 count rel ic
    have read := sv.run (W0 := W) (D := { nx := fun _ H' => Q .non H', rt := Q }) (fun C dx x W' H' ext ok' rx q => hE C dx x W' H' ext ok' rx q) (start_env ok rl (by rw [count]; exact hN)) (goal ds Dq hg)
      ⟨fun σ ρ W' H' en q => hQ .non .non W' H' en.ext en.ok .non q, fun v d W' H' ext ok' r q => hQ v d W' H' ext ok' r q, fun _ _ _ _ _ q => q.elim, fun _ _ _ _ _ q => q.elim⟩
    apply wpAny_mono (body.run [] s1 (L2.start N vs) H _ inv read)
    · intro fl s2 said
      cases fl with
      | ret u =>
        obtain ⟨v, σ2, H2, J, rv, q⟩ := said
        exact ⟨v, H2, J.os, J.bare, J.base, J.hok, rv, q⟩
      | next =>
        obtain ⟨σ2, H2, J, q⟩ := said
        exact ⟨V.non, H2, J.os, J.bare, J.base, J.hok, rfl, q⟩
      | brk =>
        obtain ⟨_, _, _, q⟩ := said
        exact q.elim
      | cont =>
        obtain ⟨_, _, _, q⟩ := said
        exact q.elim
    · intro e s2 said
      exact said
end
section
variable {X : Cx} {c : Cn} {k : Nat} {f : Addr} {fd : FuncData} {ps : List Str} {g : SpD} {dvs : List V} {dds : List D} {ds : List Value} {x : Str} {p pos : Pos} {e : Expr} {es : List Expr} {fa : DTA}
def dFn (De : Xn → Prop) (g : SpD) (dds : List D) (fa : DTA) : DTE := fun ρ Q => fa ρ fun ds => g (ds ++ dds) Q De
theorem Av.fn {ta : TA} {dvs : List V} (hD : ∀ W, RepL c.K W dvs dds) (h : Av c ta fa) : Ev c (tCall (spD c.K g) dvs c.E ta) (dFn c.De g dds fa) :=
  ⟨fun {W0 W H σ ρ Q Dq} eo en q k => h.run eo en q fun vs ds W1 H1 g1 r1 q1 => ⟨W1, ds ++ dds, Dq, c.De, g1.ok, r1.app (hD W1), q1, fun v d W2 H2 g2 r2 q2 => k v d W2 H2 (g1.trans g2) r2 q2,
    fun C dx x W2 H2 g2 rx q2 => eo C dx x W2 H2 ((en.ext.trans g1.ext).trans g2.ext) g2.ok rx q2⟩⟩
/-- f(a, ..) -/
theorem de_call (F : FnD X.prog X.w X.K X.mg X.base k f fd ps g) (hgd : X.A.guards = some []) (hr : Room k X.A) (hg : Gl X x) (hm : X.mg x = some (.ref f)) (hk : PySem.W.keepIn X.K (.ref f) = true) (hb : Binds X.K fd ps ds) (hd : Vals dvs ds) (hD : ∀ W, RepL X.K W dvs dds) (hx : Passes (L2.CX X.prog X.w) X c.E)
    (ha : DA X c (e :: es) fa) (hK : X.K = c.K := by rfl) (hdb : (x == ("__debug__" : Str)) = false := by decide) (he : starEach (e :: es) X.env = (false, eval e X.env) :: starEach es X.env := by rfl) (hpl : (backTo pos (starEach es X.env)).any (·.1) = false := by rfl) :
    DE X c (.Call (.Name x p) (e :: es) [] pos) (dFn c.De g dds fa) := by
  obtain ⟨t, pa, v⟩ := ha
  rw [hK] at hD
  refine ⟨_, pe_callG F hgd hr hg hm hk hb hd hx pa hdb he hpl, ?_⟩
  rw [hK]
  exact v.fn hD
/-- nothing that is raised gets out -/
theorem passN {X : Cx} {E : XK} (h : ∀ C d H, ¬ E C d H) : Passes (L2.CX X.prog X.w) X E := fun _ _ _ _ _ _ _ z => by
  obtain ⟨_, _, _, _, _, _, _, _, _, _, _, _, q⟩ := z
  exact (h _ _ _ q).elim
theorem nilD {K : PySem.W.Frag} : ∀ W, RepL K W [] [] := fun _ => .nil
end
end DL

set_option Elab.async false
set_option linter.all false
set_option maxRecDepth 100000
set_option maxHeartbeats 2000000
/-! Built-in functions of data; what is walked. -/
namespace DL
open PySem PySem.Spec PyProof.Rows L2 LW
section
variable {X : Cx} {c : Cn} {K : PySem.W.Frag} {tg e : Expr} {es : List Expr} {f : DTE} {fa : DTA} {pos : Pos}
theorem CallR.or {fv : Value} {r r' : List V → Hp → VK → Prop} (h : CallR X fv r) (h' : CallR X fv r') : CallR X fv (fun xs H Q => r xs H Q ∨ r' xs H Q) := fun pins s σ H xs us Q I rv q => q.elim (h pins s σ H xs us Q I rv) (h' pins s σ H xs us Q I rv)
/-! ### len -/
def gLen : List D → (D → Prop) → Prop := fun ds Q => match ds with
  | [.lst _ a] => Q (.int a.length)
  | [.tup a] => Q (.int a.length)
  | [.str z] => z.length ≤ sizeLine ∧ Q (.int z.length)
  | [.scr a] => Q (.int a.length)
  | _ => False
def rLenA (K : PySem.W.Frag) : List V → Hp → VK → Prop := fun xs H Q => ∃ x n, xs = [x] ∧ LenV K x H n ∧ Q (.int n) H
theorem call_lenA (hK : X.K = K := by rfl) : CallR X (.builtin "len") (rLenA K) := by subst hK; exact call_len
theorem l_len : DCall K (rLenA K) gLen := fun {W H xs ds Q Dq} ok r h k => by
  cases r with
  | nil => exact h.elim
  | cons r1 r2 =>
    cases r2 with
    | cons r3 r4 => cases r1 <;> exact h.elim
    | nil =>
      cases r1 with
      | @lst n a xs ds n1 z1 e1 l1 => exact ⟨_, _, rfl, .inl ⟨_, SqL.of (ok.le _ _ e1), l1.len.symm⟩, k _ _ _ _ (Go.refl ok) (.int _) h⟩
      | @tup a xs ds z1 e1 l1 => exact ⟨_, _, rfl, .inr ⟨_, e1.sq ok.le, l1.len.symm⟩, k _ _ _ _ (Go.refl ok) (.int _) h⟩
      | str z => exact ⟨_, _, rfl, ⟨h.1, rfl⟩, k _ _ _ _ (Go.refl ok) (.int _) h.2⟩
      | @scr a ns z1 e1 => exact ⟨_, _, rfl, .inl ⟨_, sameL ok.le e1.list, rfl⟩, k _ _ _ _ (Go.refl ok) (.int _) (by rw [List.length_map]; exact h)⟩
      | _ => exact h.elim
/-! ### numbers -/
def g1I (f : Int → Int) : List D → (D → Prop) → Prop := fun ds Q => match ds with
  | [.int i] => Q (.int (f i))
  | _ => False
def g2I (f : Int → Int → Int) : List D → (D → Prop) → Prop := fun ds Q => match ds with
  | [.int i, .int j] => Q (.int (f i j))
  | _ => False
theorem l_g1I {f : Int → Int} : DCall K (fun xs H Q => ∃ i, xs = [.int i] ∧ Q (.int (f i)) H) (g1I f) := fun {W H xs ds Q Dq} ok r h k => by
  cases r with
  | nil => exact h.elim
  | cons r1 r2 =>
    cases r2 with
    | cons r3 r4 => cases r1 <;> exact h.elim
    | nil =>
      cases r1 with
      | int i => exact ⟨i, rfl, k _ _ _ _ (Go.refl ok) (.int _) h⟩
      | _ => exact h.elim
theorem l_g2I {f : Int → Int → Int} : DCall K (fun xs H Q => ∃ i j, xs = [.int i, .int j] ∧ Q (.int (f i j)) H) (g2I f) := fun {W H xs ds Q Dq} ok r h k => by
  cases r with
  | nil => exact h.elim
  | cons r1 r2 =>
    cases r2 with
    | nil => cases r1 <;> exact h.elim
    | cons r3 r4 =>
      cases r4 with
      | cons r5 r6 => cases r1 <;> first | exact h.elim | (cases r3 <;> exact h.elim)
      | nil =>
        cases r1 with
        | int i =>
          cases r3 with
          | int j => exact ⟨i, j, rfl, k _ _ _ _ (Go.refl ok) (.int _) h⟩
          | _ => exact h.elim
        | _ => exact h.elim
def absI (i : Int) : Int := if i < 0 then -i else i
def maxI (i j : Int) : Int := if j > i then j else i
def minI (i j : Int) : Int := if j < i then j else i
theorem l_abs : DCall K (fun xs H Q => ∃ i, xs = [.int i] ∧ Q (.int (if i < 0 then -i else i)) H) (g1I absI) := l_g1I
theorem l_max : DCall K (fun xs H Q => ∃ i j, xs = [.int i, .int j] ∧ Q (.int (if j > i then j else i)) H) (g2I maxI) := l_g2I
theorem l_min : DCall K (fun xs H Q => ∃ i j, xs = [.int i, .int j] ∧ Q (.int (if j < i then j else i)) H) (g2I minI) := l_g2I
def gInt : List D → (D → Prop) → Prop := fun ds Q => match ds with
  | [.int i] => Q (.int i)
  | [.bl b] => Q (.int (if b then 1 else 0))
  | _ => False
theorem l_int : DCall K (fun xs H Q => (∃ i, xs = [.int i] ∧ Q (.int i) H) ∨ ∃ k, xs = [.bl k] ∧ Q (.int (if k then 1 else 0)) H) gInt := fun {W H xs ds Q Dq} ok r h k => by
  cases r with
  | nil => exact h.elim
  | cons r1 r2 =>
    cases r2 with
    | cons r3 r4 => cases r1 <;> exact h.elim
    | nil =>
      cases r1 with
      | int i => exact .inl ⟨i, rfl, k _ _ _ _ (Go.refl ok) (.int _) h⟩
      | bl b => exact .inr ⟨b, rfl, k _ _ _ _ (Go.refl ok) (.int _) h⟩
      | _ => exact h.elim
/-! ### lists of truths and of whole numbers -/
def boolsD : List D → Option (List Bool)
  | [] => some []
  | .bl b :: ds => (boolsD ds).map (b :: ·)
  | _ => none
def intsD : List D → Option (List Int)
  | [] => some []
  | .int b :: ds => (intsD ds).map (b :: ·)
  | _ => none
theorem bools_rep {W : Wd} : ∀ {xs : List V} {ds : List D} {bs : List Bool}, RepL K W xs ds → boolsD ds = some bs → xs = bs.map V.bl
  | _, _, _, .nil, e => by cases e; rfl
  | _, d :: ds, bs, .cons r t, e => by
    cases r with
    | bl b =>
      have e' : (boolsD ds).map (b :: ·) = some bs := e
      cases q : boolsD ds with
      | none => rw [q] at e'; cases e'
      | some cs =>
        rw [q] at e'
        cases e'
        rw [bools_rep t q]
        rfl
    | _ => cases e
theorem ints_rep {W : Wd} : ∀ {xs : List V} {ds : List D} {bs : List Int}, RepL K W xs ds → intsD ds = some bs → xs = bs.map V.int
  | _, _, _, .nil, e => by cases e; rfl
  | _, d :: ds, bs, .cons r t, e => by
    cases r with
    | int b =>
      have e' : (intsD ds).map (b :: ·) = some bs := e
      cases q : intsD ds with
      | none => rw [q] at e'; cases e'
      | some cs =>
        rw [q] at e'
        cases e'
        rw [ints_rep t q]
        rfl
    | _ => cases e
def gBools (f : List Bool → Bool) : List D → (D → Prop) → Prop := fun ds Q => match ds with
  | [.lst _ a] => ∃ bs, boolsD a = some bs ∧ Q (.bl (f bs))
  | _ => False
theorem l_bools {f : List Bool → Bool} : DCall K (fun vs H Q => ∃ (a : Addr) (bs : List Bool), vs = [V.ref a] ∧ SqL K H a (bs.map V.bl) ∧ Q (.bl (f bs)) H) (gBools f) := fun {W H xs ds Q Dq} ok r h k => by
  cases r with
  | nil => exact h.elim
  | cons r1 r2 =>
    cases r2 with
    | cons r3 r4 => cases r1 <;> exact h.elim
    | nil =>
      cases r1 with
      | @lst n a xs ds n1 z1 e1 l1 =>
        obtain ⟨bs, eb, q⟩ := h
        refine ⟨a, bs, rfl, ?_, k _ _ _ _ (Go.refl ok) (.bl _) q⟩
        rw [← bools_rep l1 eb]
        exact SqL.of (ok.le _ _ e1)
      | _ => exact h.elim
theorem call_all (hc : X.calm = true) (hK : X.K = K := by rfl) : CallR X (.builtin "all") (rAll K) := by subst hK; exact cr_all hc
theorem call_any (hc : X.calm = true) (hK : X.K = K := by rfl) : CallR X (.builtin "any") (rAny K) := by subst hK; exact cr_any hc
theorem l_all : DCall K (rAll K) (gBools fun bs => bs.all id) := l_bools
theorem l_any : DCall K (rAny K) (gBools fun bs => bs.any id) := l_bools
def gSum : List D → (D → Prop) → Prop := fun ds Q => match ds with
  | [.lst _ a] => ∃ bs, intsD a = some bs ∧ Q (.int bs.sum)
  | _ => False
theorem call_sum (hc : X.calm = true) (hK : X.K = K := by rfl) : CallR X (.builtin "sum") (rSum K) := by subst hK; exact cr_sum hc
theorem l_sum : DCall K (rSum K) gSum := fun {W H xs ds Q Dq} ok r h k => by
  cases r with
  | nil => exact h.elim
  | cons r1 r2 =>
    cases r2 with
    | cons r3 r4 => cases r1 <;> exact h.elim
    | nil =>
      cases r1 with
      | @lst n a xs ds n1 z1 e1 l1 =>
        obtain ⟨bs, eb, q⟩ := h
        refine ⟨a, bs, rfl, ?_, k _ _ _ _ (Go.refl ok) (.int _) q⟩
        rw [← ints_rep l1 eb]
        exact SqL.of (ok.le _ _ e1)
      | _ => exact h.elim
/-! ### tuple(..) -/
def gTuple : List D → (D → Prop) → Prop := fun ds Q => match ds with
  | [.lst _ a] => Q (.tup a)
  | [.tup a] => Q (.tup a)
  | _ => False
def rTupleA (K : PySem.W.Frag) : List V → Hp → VK → Prop := fun xs H Q => ∃ p ys, xs = [.ref p] ∧ ((SqL K H p ys ∧ ∀ l, H l = none → Q (.ref l) (upd H l (.tup ys))) ∨ (SqT K H p ys ∧ Q (.ref p) H))
theorem call_tupleA (hK : X.K = K := by rfl) : CallR X (.type "tuple") (rTupleA K) := by subst hK; exact call_tuple_of
theorem l_tuple : DCall K (rTupleA K) gTuple := fun {W H xs ds Q Dq} ok r h k => by
  cases r with
  | nil => exact h.elim
  | cons r1 r2 =>
    cases r2 with
    | cons r3 r4 => cases r1 <;> exact h.elim
    | nil =>
      cases r1 with
      | @lst n a xs ds n1 z1 e1 l1 =>
        refine ⟨a, xs, rfl, .inl ⟨SqL.of (ok.le _ _ e1), fun p np => ?_⟩⟩
        have g := Go.new ok np (o := .tup xs) (by intro x z; cases z)
        exact k _ _ _ _ g (.tup z1 (.inl upd_same) (l1.mono g.ext)) h
      | @tup a xs ds z1 e1 l1 => exact ⟨a, xs, rfl, .inr ⟨e1.sq ok.le, k _ _ _ _ (Go.refl ok) (.tup z1 e1 l1) h⟩⟩
      | _ => exact h.elim
/-! ### isinstance -/
def isiB (n : String) : D → Bool
  | .non => n == "NoneType"
  | .bl _ => n == "bool" || n == "int"
  | .int _ => n == "int"
  | .str _ => n == "str"
  | .lst _ _ => n == "list"
  | .tup _ => n == "tuple"
  | .dct _ _ => n == "dict"
  | .obj _ _ => false
  | .stm => n == "list"
  | .scr _ => n == "list"
/-- the class of a datum -/
def clsD : D → Value
  | .non => .type "NoneType"
  | .bl _ => .type "bool"
  | .int _ => .type "int"
  | .str _ => .type "str"
  | .lst _ _ => .type "list"
  | .tup _ => .type "tuple"
  | .dct _ _ => .type "dict"
  | .obj C _ => .ref C
  | .stm => .type "list"
  | .scr _ => .type "list"
/-- as the layer tells classes, and of a locked dict with tuples for keys -/
def TyZ (K : PySem.W.Frag) (H : Hp) (x : V) (t : Value) : Prop := TyX K H x t ∨ ∃ a o kvs, x = .ref a ∧ t = .type "dict" ∧ H a = some (.frz o (.dT kvs))
theorem Rep.ty {W : Wd} {H : Hp} (ok : Ok W H) {v : V} {d : D} (h : Rep K W v d) : TyZ K H v (clsD d) := by
  cases h with
  | non => exact .inl (.base .non)
  | bl b => exact .inl (.base (.bl b))
  | int i => exact .inl (.base (.int i))
  | str x => exact .inl (.base (.str x))
  | lst _ _ e _ => exact .inl (sql_ty (SqL.of (ok.le _ _ e)))
  | tup _ e _ => exact .inl (sqt_ty (e.sq ok.le))
  | dK _ e _ =>
    rcases e with e | ⟨o, e⟩
    · exact .inl (.base (.dK (ok.le _ _ e)))
    · exact .inl (.fDict (ok.le _ _ e))
  | dT _ e _ =>
    rcases e with e | ⟨o, e⟩
    · exact .inl (.base (.dT (ok.le _ _ e)))
    · exact .inr ⟨_, o, _, rfl, rfl, ok.le _ _ e⟩
  | obj c e _ => exact .inl (.base (.ins (ok.le _ _ e) c.cl c.ha c.hn c.htk c.hm))
  | stm t =>
    obtain ⟨_, x, y, z, e⟩ := ok.st _ t
    exact .inl (sql_ty (SqL.of e))
  | scr _ e => exact .inl (sql_ty (sameL ok.le e.list))
def rIsiZ (K : PySem.W.Frag) : List V → Hp → VK → Prop := fun xs H Q => ∃ (x cv : V) (t u : Value) (b : Bool), xs = [x, cv] ∧ ClsV cv u ∧ TyZ K H x t ∧ PySem.W.kitOne K t u = some b ∧ Q (.bl b) H
theorem call_isiZ (hK : X.K = K := by rfl) : CallR X (.builtin "isinstance") (rIsiZ K) := by
  subst hK
  intro pins s σ H xs us Q I r h
  obtain ⟨x, cv, t, u, b, rfl, kc, ty | ⟨a, o, kvs, rfl, rfl, ea⟩, e, q⟩ := h
  · exact call_isi pins s σ H _ us Q I r ⟨x, cv, t, u, b, rfl, kc, ty, e, q⟩
  · obtain ⟨u1, u2, rfl, r1, r2⟩ := vals2 r
    obtain rfl := kc.eq r2
    cases (show u1 = Value.ref a from r1)
    obtain ⟨_, _, _, xs, _, ob, es, ep, h1, h2, _⟩ := I.hok a _ ea
    exact PySem.W.kia_one PySem.W.kitx_dict I.kIn ⟨ob, h1, h2.1⟩ e (fun z => nomatch z) fun tk => ⟨.bl b, H, I.tok tk, rfl, q⟩
theorem kitB_D (n : String) (hn : n ∈ ["int", "bool", "str", "tuple", "dict", "list"]) : ∀ d : D, (∀ C fs, d ≠ .obj C fs) → PySem.W.kitOne K (clsD d) (.type n) = some (isiB n d) := by
  have all : ∀ t ∈ ["NoneType", "bool", "int", "str", "list", "tuple", "dict"], kitB t n = some ((t == n) || (t == "bool" && n == "int")) := by
    simp only [List.mem_cons, List.mem_nil_iff, or_false] at hn
    intro t ht
    simp only [List.mem_cons, List.mem_nil_iff, or_false] at ht
    rcases hn with rfl | rfl | rfl | rfl | rfl | rfl <;> rcases ht with rfl | rfl | rfl | rfl | rfl | rfl | rfl <;> decide +kernel
  simp only [List.mem_cons, List.mem_nil_iff, or_false] at hn
  intro d no
  cases d with
  | obj C fs => exact absurd rfl (no C fs)
  | _ => rcases hn with rfl | rfl | rfl | rfl | rfl | rfl <;> exact kit_ty (all _ (by simp))
theorem Rep.kit {W : Wd} {v : V} {d : D} (r : Rep K W v d) (n : String) (hn : n ∈ ["int", "bool", "str", "tuple", "dict", "list"]) : PySem.W.kitOne K (clsD d) (.type n) = some (isiB n d) := by
  cases r with
  | obj co e l => exact co.kit n hn
  | _ => exact kitB_D n hn _ (fun C fs z => by cases z)
/-- isinstance(x, T), T a built-in class -/
def dIsi (n : String) (f : DTE) : DTE := fun ρ Q => f ρ fun d => Q (.bl (isiB n d))
theorem de_isi (n : String) {x : Str} {p p2 : Pos} (hg : Gl X "isinstance") (hm : X.mg "isinstance" = none) (hgx : Gl X x) (hmx : X.mg x = none) (hv : bootBuiltins x = some (.type n)) (he : DE X c e f) (hn : n ∈ ["int", "bool", "str", "tuple", "dict", "list"] := by decide) (hK : X.K = c.K := by rfl)
    (hn2 : x ≠ "__name__" := by decide) (hdb : (x == ("__debug__" : Str)) = false := by decide)
    (hs : starEach [e, .Name x p2] X.env = (false, eval e X.env) :: starEach [.Name x p2] X.env := by rfl) (hs2 : starEach [.Name x p2] X.env = (false, eval (.Name x p2) X.env) :: starEach [] X.env := by rfl)
    (hpl : (backTo pos (starEach [.Name x p2] X.env)).any (·.1) = false := by rfl) : DE X c (.Call (.Name "isinstance" p) [e, .Name x p2] [] pos) (dIsi n f) := by
  obtain ⟨t, pe, ve⟩ := he
  refine ⟨_, pe_callB (call_isiZ hK) hg hm (by decide +kernel) (pa_cons pe (pa_cons (pe_bltn (v := .ty n) hgx hmx hv rfl hn2 hdb) pa_nil hs2) hs) (by decide) (by decide) hs hpl, ⟨fun {W0 W H σ ρ Q Dq} eo en q k => ve.run eo en q fun y d W1 H1 g1 r1 q1 => ?_⟩⟩
  exact ⟨y, .ty n, clsD d, .type n, _, rfl, .ty n, r1.ty g1.ok, r1.kit n hn, k _ _ _ _ g1 (.bl _) q1⟩
/-- isinstance(x, C), C a class of our own -/
def dIsiO (K : PySem.W.Frag) (C : Addr) (f : DTE) : DTE := fun ρ Q => f ρ fun d => match d with
  | .obj C' _ => (C' = C ∧ Q (.bl true)) ∨ (PySem.W.kitOne K (.ref C') (.ref C) = some false ∧ Q (.bl false))
  | _ => Q (.bl false)
theorem de_isiO {C : Addr} {x : Str} {p p2 : Pos} (co : ClsOk c.K C) (hg : Gl X "isinstance") (hm : X.mg "isinstance" = none) (hgx : Gl X x) (hmx : X.mg x = some (.ref C)) (he : DE X c e f) (hK : X.K = c.K := by rfl) (hdb : (x == ("__debug__" : Str)) = false := by decide)
    (hs : starEach [e, .Name x p2] X.env = (false, eval e X.env) :: starEach [.Name x p2] X.env := by rfl) (hs2 : starEach [.Name x p2] X.env = (false, eval (.Name x p2) X.env) :: starEach [] X.env := by rfl)
    (hpl : (backTo pos (starEach [.Name x p2] X.env)).any (·.1) = false := by rfl) : DE X c (.Call (.Name "isinstance" p) [e, .Name x p2] [] pos) (dIsiO c.K C f) := by
  obtain ⟨t, pe, ve⟩ := he
  refine ⟨_, pe_callB (call_isiZ hK) hg hm (by decide +kernel) (pa_cons pe (pa_cons (pe_glob (v := .ref C) hgx hmx rfl hdb) pa_nil hs2) hs) (by decide) (by decide) hs hpl, ⟨fun {W0 W H σ ρ Q Dq} eo en q k => ve.run eo en q fun y d W1 H1 g1 r1 q1 => ?_⟩⟩
  have go : ∀ b, PySem.W.kitOne c.K (clsD d) (.ref C) = some b → Dq (.bl b) → rIsiZ c.K [y, .ref C] H1 Q := fun b h q => ⟨y, .ref C, clsD d, .ref C, b, rfl, .own C, r1.ty g1.ok, h, k _ _ _ _ g1 (.bl b) q⟩
  cases d with
  | obj C' fs =>
    rcases q1 with ⟨rfl, q1⟩ | ⟨h, q1⟩
    · exact go true co.kitS q1
    · exact go false h q1
  | _ => exact go false (co.kitT _ (by simp)) q1
end
end DL

set_option Elab.async false
set_option linter.all false
set_option maxRecDepth 100000
set_option maxHeartbeats 2000000
/-! What a for walks: lists, tuples, texts, ranges, enumerate, zip. Lists that a frame holds alone. -/
namespace DL
open PySem PySem.Spec PyProof.Rows L2 LW RZ
section
variable {X : Cx} {c : Cn} {K : PySem.W.Frag} {tg e e2 : Expr} {es : List Expr} {f : DTE} {fa : DTA} {pos p : Pos}
/-- a list or a tuple, as it comes -/
def iAny (K : PySem.W.Frag) (tl : TE) : TI := fun σ H R => tl σ H fun x H1 => (∃ a xs, x = .ref a ∧ SqL K H1 a xs ∧ R (Itl K a) H1) ∨ (∃ a xs, x = .ref a ∧ SqT K H1 a xs ∧ R (Itt K a) H1) ∨ ∃ z, x = .str z ∧ R (Its z) H1
theorem pi_any {l : Expr} {tl : TE} (hl : PE X l tl) (hK : X.K = K := by rfl) : PI X tg l (iAny K tl) := by
  subst hK
  constructor
  intro pins s σ H R I h
  refine thn (hl.run pins s σ H _ I h) ?_
  rintro v s1 ⟨x, H1, I1, r1, q⟩
  have one : ∀ {J : It} {tn : Nat → Heap → Prop} {o : Obj}, Turn X.prog X.w X.K tg J [s1.heap.objs.size] s1.heap.objs.size tn → tn 0 (s1.heap.push o) → R J H1 → PIE X pins σ tg R (.ref s1.heap.objs.size) { s1 with heap := s1.heap.push o } := fun {J tn o} T st q => by
    refine ⟨s1.heap.objs.size, [s1.heap.objs.size], tn, J, H1, rfl, I1.kept (t' := s1.toks) fun b u eb => Heap.get?_push_of_some _ eb, T, st, fun b hb => ?_, q⟩
    obtain rfl : b = s1.heap.objs.size := by simpa using hb
    exact I1.fpOk (Nat.le_refl _) (I1.hok.fresh (Nat.le_refl _))
  rcases q with ⟨a, xs, rfl, hq, q⟩ | ⟨a, xs, rfl, hq, q⟩ | ⟨z, rfl, q⟩
  · cases r1
    obtain ⟨its, _, pl, _⟩ := I1.list hq
    exact wpAny_pyIter_list pl.isList (one (turn_list a _) ⟨_, Heap.get?_push_size _ rfl, rfl, rfl⟩ q)
  · cases r1
    obtain ⟨its, _, pl, _⟩ := I1.tuple hq
    exact wpAny_pyIter_tuple pl (one (turn_tuple a _) ⟨_, Heap.get?_push_size _ rfl, rfl, rfl⟩ q)
  · obtain ⟨t, rfl⟩ := r1
    cases wide : z.cps.all (· < 128) with
    | false => exact wpAny_pyIter_wide wide (pi_one (tk := s1.toks) I1 _ (turn_str _ z t "str_iterator" (.inr rfl)) ⟨_, Heap.get?_push_size _ rfl, rfl, rfl⟩ q)
    | true => exact wpAny_pyIter_ascii wide (pi_one (tk := s1.toks) I1 _ (turn_str _ z t "str_ascii_iterator" (.inl rfl)) ⟨_, Heap.get?_push_size _ rfl, rfl, rfl⟩ q)
/-- the signs of a text -/
def signs (z : Str) : List D := z.cps.toList.map fun u => D.str ⟨#[u]⟩
def itemsD : D → Option (List D)
  | .lst _ ds => some ds
  | .tup ds => some ds
  | .scr ns => some (ns.map D.int)
  | _ => none
def dAny (f : DTE) : DTI := fun ρ Q => f ρ fun d => match d with
  | .lst _ ds => Q ds
  | .tup ds => Q ds
  | .scr ns => Q (ns.map D.int)
  | .str z => z.length ≤ sizeLine ∧ Q (signs z)
  | _ => False
theorem iter_rep {W : Wd} {xs : List V} {ds : List D} (l : RepL K W xs ds) {J : It} {n : Nat} {G : Hp → Prop} (hn : n = xs.length) (w : Walk J n G (YAt xs)) (hG : ∀ W2 H2, Ext W W2 → Ok W2 H2 → G H2) : IterOk K J ds W := fun i W2 H2 ext ok => by
  subst hn
  refine ⟨fun e => ?_, fun d ed => ?_⟩
  · rw [← l.len] at e
    rw [e]
    exact w.stops H2 (hG W2 H2 ext ok)
  · obtain ⟨v, ev, r⟩ := l.get ed
    have lt : i < xs.length := (List.getElem?_eq_some_iff.mp ev).1
    refine ⟨w.goes i H2 lt (hG W2 H2 ext ok), fun x H3 y => ?_⟩
    obtain ⟨rfl, ex⟩ := w.yields i H2 x H3 lt (hG W2 H2 ext ok) y
    rw [ev] at ex
    cases ex
    exact ⟨W2, Go.refl ok, r.mono ext⟩
theorem di_any (he : DE X c e f) (hK : X.K = c.K := by rfl) : DI X c tg e (dAny f) := by
  obtain ⟨t, pe, ve⟩ := he
  refine ⟨_, pi_any pe hK, ⟨fun {W0 W H σ ρ R Dq} eo en q k => ve.run eo en q fun x d W1 H1 g1 r1 q1 => ?_⟩⟩
  cases r1 with
  | @lst n a xs ds n1 z1 e1 l1 =>
    exact .inl ⟨a, xs, rfl, SqL.of (g1.ok.le _ _ e1), k _ ds W1 H1 g1 (iter_rep l1 rfl walk_list fun W2 H2 ext ok => SqL.of (ok.le _ _ (ext.s _ _ e1))) (by rw [← l1.len]; exact z1) q1⟩
  | @tup a xs ds z1 e1 l1 =>
    exact .inr (.inl ⟨a, xs, rfl, e1.sq g1.ok.le, k _ ds W1 H1 g1 (iter_rep l1 rfl walk_tup fun W2 H2 ext ok => (e1.mono ext.s).sq ok.le) (by rw [← l1.len]; exact z1) q1⟩)
  | @scr a ns z1 e1 =>
    have l : RepL c.K W1 (ns.map V.int) (ns.map D.int) := by
      clear e1 z1 q1
      induction ns with
      | nil => exact .nil
      | cons n ns ih => exact .cons (.int n) ih
    exact .inl ⟨a, _, rfl, sameL g1.ok.le e1.list, k _ _ W1 H1 g1 (iter_rep l rfl walk_list fun W2 H2 ext ok => sameL ok.le (e1.mono ext.s).list) (by rw [List.length_map]; exact Nat.le_trans z1 (by decide)) q1⟩
  | str z =>
    refine .inr (.inr ⟨z, rfl, k _ _ W1 H1 g1 (fun i W2 H2 ext ok => ⟨fun ei => ?_, fun d ed => ?_⟩) ?_ q1.2⟩)
    · have q : i = z.cps.size := by rw [ei]; unfold signs; simp
      rw [q]
      exact walk_str.stops H2 True.intro
    · unfold signs at ed
      rw [List.getElem?_map] at ed
      cases q : z.cps.toList[i]? with
      | none => rw [q] at ed; cases ed
      | some u =>
        rw [q] at ed
        cases ed
        have lt : i < z.cps.size := by simpa using (List.getElem?_eq_some_iff.mp q).1
        refine ⟨walk_str.goes i H2 lt True.intro, fun x H3 y => ?_⟩
        obtain ⟨rfl, u', eu, rfl⟩ := walk_str.yields i H2 x H3 lt True.intro y
        have : u' = u := by
          have h1 : z.cps.toList[i]? = some u' := by simpa using eu
          rw [q] at h1
          exact (Option.some.inj h1).symm
        subst this
        exact ⟨W2, Go.refl ok, .str _⟩
    · unfold signs
      rw [List.length_map, Array.length_toList]
      exact q1.1
  | _ => exact q1.elim
/-! ### ranges -/
def rangeD (lo : Int) (n : Nat) : List D := (List.range n).map fun i => D.int (lo + (i : Nat))
theorem range_iter {W : Wd} {lo : Int} {n : Nat} : IterOk K (Itr lo n) (rangeD lo n) W := fun i W2 H2 ext ok => by
  refine ⟨fun e => ?_, fun d ed => ?_⟩
  · have q : i = n := by rw [e]; unfold rangeD; simp
    rw [q]
    exact walk_range.stops H2 True.intro
  · unfold rangeD at ed
    rw [List.getElem?_map] at ed
    by_cases lt : i < n
    · rw [List.getElem?_range lt] at ed
      cases ed
      refine ⟨walk_range.goes i H2 lt True.intro, fun x H3 y => ?_⟩
      obtain ⟨rfl, rfl⟩ := walk_range.yields i H2 x H3 lt True.intro y
      exact ⟨W2, Go.refl ok, .int _⟩
    · rw [List.getElem?_eq_none (by simpa using lt)] at ed
      cases ed
def dRng1 (f : DTE) : DTI := fun ρ Q => f ρ fun d => match d with
  | .int j => -(2 ^ 62) ≤ j ∧ j ≤ sizeLine ∧ Q (rangeD 0 j.toNat)
  | _ => False
def dRng2 (f g : DTE) : DTI := fun ρ Q => f ρ fun d => g ρ fun d' => match d, d' with
  | .int i, .int j => -(2 ^ 62) ≤ i ∧ i < 2 ^ 62 ∧ -(2 ^ 62) ≤ j ∧ j < 2 ^ 62 ∧ j - i ≤ sizeLine ∧ Q (rangeD i (j - i).toNat)
  | _, _ => False
theorem di_range1 (hg : Gl X "range") (hm : X.mg "range" = none) (he : DE X c e f) (hs : starEach [e] X.env = [(false, eval e X.env)] := by rfl) : DI X c tg (.Call (.Name "range" p) [e] [] pos) (dRng1 f) := by
  obtain ⟨t, pe, ve⟩ := he
  refine ⟨_, pi_range1 hg hm (pa_cons pe pa_nil hs) hs, ⟨fun {W0 W H σ ρ R Dq} eo en q k => ve.run eo en q fun x d W1 H1 g1 r1 q1 => ?_⟩⟩
  cases r1 with
  | int j =>
    obtain ⟨h1, h2, q1⟩ := q1
    have e62 : (sizeLine : Int) < 2 ^ 62 := by rw [sizeLine_eq]; decide
    exact ⟨j, rfl, h1, by omega, k _ _ W1 H1 g1 range_iter (by unfold rangeD; rw [List.length_map, List.length_range]; omega) q1⟩
  | _ => exact q1.elim
theorem di_range2 {g : DTE} (hg : Gl X "range") (hm : X.mg "range" = none) (he : DE X c e f) (he2 : DE X c e2 g) (hs : starEach [e, e2] X.env = (false, eval e X.env) :: starEach [e2] X.env := by rfl) (hs1 : starEach [e, e2] X.env = [(false, eval e X.env), (false, eval e2 X.env)] := by rfl)
    (hs2 : starEach [e2] X.env = [(false, eval e2 X.env)] := by rfl) : DI X c tg (.Call (.Name "range" p) [e, e2] [] pos) (dRng2 f g) := by
  obtain ⟨t, pe, ve⟩ := he
  obtain ⟨t2, pe2, ve2⟩ := he2
  refine ⟨_, pi_range2 hg hm (pa_cons pe (pa_cons pe2 pa_nil hs2) hs) hs1 hs2, ⟨fun {W0 W H σ ρ R Dq} eo en q k => ve.run eo en q fun x d W1 H1 g1 r1 q1 => ve2.run eo (en.go g1) q1 fun x2 d2 W2 H2 g2 r2 q2 => ?_⟩⟩
  cases r1 with
  | int i =>
    cases r2 with
    | int j =>
      obtain ⟨h1, h2, h3, h4, h5, q2⟩ := q2
      exact ⟨i, j, rfl, ⟨h1, h2, h3, h4⟩, k _ _ W2 H2 (g1.trans g2) range_iter (by unfold rangeD; rw [List.length_map, List.length_range]; omega) q2⟩
    | _ => exact q2.elim
  | _ => cases r2 <;> exact q2.elim
/-! ### enumerate, zip: new pairs -/
def pairsD (xs ys : List D) : List D := (xs.zip ys).map fun p => D.tup [p.1, p.2]
theorem pairs_iter {W : Wd} {xs ys : List V} {ds es : List D} {J : It} {n : Nat} {G : Hp → Prop} {fx fy : Nat → Option V} (lx : ∀ i d, ds[i]? = some d → ∃ v, fx i = some v ∧ ∀ W2, Ext W W2 → Rep K W2 v d) (ly : ∀ i d, es[i]? = some d → ∃ v, fy i = some v ∧ ∀ W2, Ext W W2 → Rep K W2 v d)
    (hn : n = min ds.length es.length) (w : Walk J n G (YPair fx fy)) (hG : ∀ W2 H2, Ext W W2 → Ok W2 H2 → G H2) : IterOk K J (pairsD ds es) W := fun i W2 H2 ext ok => by
  refine ⟨fun e => ?_, fun d ed => ?_⟩
  · have q : i = n := by rw [e, hn]; unfold pairsD; simp
    rw [q]
    exact w.stops H2 (hG W2 H2 ext ok)
  · unfold pairsD at ed
    rw [List.getElem?_map] at ed
    cases q : (ds.zip es)[i]? with
    | none => rw [q] at ed; cases ed
    | some pr =>
      rw [q] at ed
      cases ed
      obtain ⟨q1, q2⟩ := List.getElem?_zip_eq_some.mp q
      have lt : i < n := by
        have h1 := (List.getElem?_eq_some_iff.mp q1).1
        have h2 := (List.getElem?_eq_some_iff.mp q2).1
        omega
      obtain ⟨v, ev, rv⟩ := lx i _ q1
      obtain ⟨u, eu, ru⟩ := ly i _ q2
      refine ⟨w.goes i H2 lt (hG W2 H2 ext ok), fun x H3 y => ?_⟩
      obtain ⟨T, a, b, rfl, nT, rfl, ea, eb⟩ := w.yields i H2 x H3 lt (hG W2 H2 ext ok) y
      rw [ev] at ea
      rw [eu] at eb
      cases ea
      cases eb
      have g := Go.new ok nT (o := .tup [v, u]) (by intro x z; cases z)
      exact ⟨_, g, .tup (by show 2 ≤ sizeLine; decide) (.inl upd_same) (.cons (rv _ (ext.trans g.ext)) (.cons (ru _ (ext.trans g.ext)) .nil))⟩
def numsD (n : Nat) : List D := (List.range n).map fun i => D.int (i : Nat)
theorem nums_get {W : Wd} {n i : Nat} {d : D} (h : (numsD n)[i]? = some d) : ∃ v, (some (V.int (i : Nat))) = some v ∧ ∀ W2, Ext W W2 → Rep K W2 v d := by
  unfold numsD at h
  rw [List.getElem?_map] at h
  by_cases lt : i < n
  · rw [List.getElem?_range lt] at h
    cases h
    exact ⟨_, rfl, fun _ _ => .int _⟩
  · rw [List.getElem?_eq_none (by simpa using lt)] at h
    cases h
theorem RepL.getM {W : Wd} {xs : List V} {ds : List D} (l : RepL K W xs ds) (i : Nat) (d : D) (h : ds[i]? = some d) : ∃ v, xs[i]? = some v ∧ ∀ W2, Ext W W2 → Rep K W2 v d := by
  obtain ⟨v, ev, r⟩ := l.get h
  exact ⟨v, ev, fun _ ext => r.mono ext⟩
/-- enumerate of a tuple (of a list: di_enumL) -/
def dEnumT (f : DTE) : DTI := fun ρ Q => f ρ fun d => match d with
  | .tup ds => Q (pairsD (numsD ds.length) ds)
  | _ => False
def dEnumL (f : DTE) : DTI := fun ρ Q => f ρ fun d => match d with
  | .lst _ ds => Q (pairsD (numsD ds.length) ds)
  | _ => False
theorem pairs_len {xs ys : List D} (h : ys.length ≤ sizeLine) : (pairsD xs ys).length ≤ sizeLine := by
  unfold pairsD
  rw [List.length_map, List.length_zip]
  exact Nat.le_trans (Nat.min_le_right _ _) h
theorem di_enumT {elts : List Expr} {kk : Nat} {tpos : Pos} (hg : Gl X "enumerate") (hm : X.mg "enumerate" = none) (he : DE X c e f) (hK : X.K = c.K := by rfl) (hs : starEach [e] X.env = [(false, eval e X.env)] := by rfl) : DI X c (.Tuple elts kk tpos) (.Call (.Name "enumerate" p) [e] [] pos) (dEnumT f) := by
  obtain ⟨t, pe, ve⟩ := he
  refine ⟨_, pi_enumT hg hm (pa_cons pe pa_nil hs) hs, ⟨fun {W0 W H σ ρ R Dq} eo en q k => ve.run eo en q fun x d W1 H1 g1 r1 q1 => ?_⟩⟩
  cases r1 with
  | @tup a xs ds z1 e1 l1 =>
    rw [hK]
    exact ⟨a, xs, rfl, e1.sq g1.ok.le, k _ _ W1 H1 g1 (pairs_iter (xs := []) (ys := []) (fun i d h => nums_get h) l1.getM (by unfold numsD; rw [List.length_map, List.length_range, l1.len, Nat.min_self]) walk_enumT fun W2 H2 ext ok => (e1.mono ext.s).sq ok.le) (pairs_len (by rw [← l1.len]; exact z1)) q1⟩
  | _ => exact q1.elim
theorem di_enumL {elts : List Expr} {kk : Nat} {tpos : Pos} (hg : Gl X "enumerate") (hm : X.mg "enumerate" = none) (he : DE X c e f) (hK : X.K = c.K := by rfl) (hs : starEach [e] X.env = [(false, eval e X.env)] := by rfl) : DI X c (.Tuple elts kk tpos) (.Call (.Name "enumerate" p) [e] [] pos) (dEnumL f) := by
  obtain ⟨t, pe, ve⟩ := he
  refine ⟨_, pi_enum hg hm (pa_cons pe pa_nil hs) hs, ⟨fun {W0 W H σ ρ R Dq} eo en q k => ve.run eo en q fun x d W1 H1 g1 r1 q1 => ?_⟩⟩
  cases r1 with
  | @lst n a xs ds n1 z1 e1 l1 =>
    rw [hK]
    exact ⟨a, xs, rfl, SqL.of (g1.ok.le _ _ e1), k _ _ W1 H1 g1 (pairs_iter (xs := []) (ys := []) (fun i d h => nums_get h) l1.getM (by unfold numsD; rw [List.length_map, List.length_range, l1.len, Nat.min_self]) walk_enum fun W2 H2 ext ok => SqL.of (ok.le _ _ (ext.s _ _ e1))) (pairs_len (by rw [← l1.len]; exact z1)) q1⟩
  | _ => exact q1.elim
def dZip (f g : DTE) : DTI := fun ρ Q => f ρ fun d => g ρ fun d' => match d, d' with
  | .tup a, .tup b => Q (pairsD a b)
  | .lst _ a, .lst _ b => Q (pairsD a b)
  | _, _ => False
theorem di_zip {g : DTE} {elts : List Expr} {kk : Nat} {tpos : Pos} (hg : Gl X "zip") (hm : X.mg "zip" = none) (he : DE X c e f) (he2 : DE X c e2 g) (hK : X.K = c.K := by rfl) (hs : starEach [e, e2] X.env = (false, eval e X.env) :: starEach [e2] X.env := by rfl) (hs2 : starEach [e2] X.env = [(false, eval e2 X.env)] := by rfl)
    (hpl : (backTo pos (starEach [e2] X.env)).any (·.1) = false := by rfl) : DI X c (.Tuple elts kk tpos) (.Call (.Name "zip" p) [e, e2] [] pos) (dZip f g) := by
  obtain ⟨t, pe, ve⟩ := he
  obtain ⟨t2, pe2, ve2⟩ := he2
  refine ⟨_, pi_zipA hg hm (pa_cons pe (pa_cons pe2 pa_nil hs2) hs) hs hpl, ⟨fun {W0 W H σ ρ R Dq} eo en q k => ve.run eo en q fun x d W1 H1 g1 r1 q1 => ve2.run eo (en.go g1) q1 fun x2 d2 W2 H2 g2 r2 q2 => ?_⟩⟩
  rw [hK]
  cases r1 with
  | @tup a xs ds z1 e1 l1 =>
    cases r2 with
    | @tup b ys es z2 e2 l2 =>
      exact ⟨a, b, xs, ys, rfl, .inr ⟨(e1.mono g2.ext.s).sq g2.ok.le, e2.sq g2.ok.le, k _ _ W2 H2 (g1.trans g2) (pairs_iter (xs := []) (ys := []) (l1.mono g2.ext).getM l2.getM rfl (walk_zipT (by rw [l1.len, l2.len])) fun W3 H3 ext ok => ⟨(e1.mono (g2.ext.trans ext).s).sq ok.le, (e2.mono ext.s).sq ok.le⟩) (pairs_len (by rw [← l2.len]; exact z2)) q2⟩⟩
    | _ => exact q2.elim
  | @lst n a xs ds n1 z1 e1 l1 =>
    cases r2 with
    | @lst n' b ys es n2 z2 e2 l2 =>
      exact ⟨a, b, xs, ys, rfl, .inl ⟨SqL.of (g2.ok.le _ _ (g2.ext.s _ _ e1)), SqL.of (g2.ok.le _ _ e2), k _ _ W2 H2 (g1.trans g2) (pairs_iter (xs := []) (ys := []) (l1.mono g2.ext).getM l2.getM rfl (walk_zip (by rw [l1.len, l2.len])) fun W3 H3 ext ok => ⟨SqL.of (ok.le _ _ ((g2.ext.trans ext).s _ _ e1)), SqL.of (ok.le _ _ (ext.s _ _ e2))⟩) (pairs_len (by rw [← l2.len]; exact z2)) q2⟩⟩
    | _ => exact q2.elim
  | _ => cases r2 <;> exact q2.elim
end
end DL

set_option Elab.async false
set_option linter.all false
set_option maxRecDepth 100000
set_option maxHeartbeats 2000000
/-! Lists and dicts that a frame holds alone are changed; dicts are read. -/
namespace DL
open PySem PySem.Spec PyProof.Rows L2 LW RZ
section
variable {K : PySem.W.Frag} {W0 W W' : Wd} {H H' : Hp} {σ : L2.St} {ρ : Env'}
theorem SlotOk.other {s : Option (Option V)} {e : Ent} {l : Addr} {o : HO} (ok : Ok W H) (h : SlotOk K W H s e) (n : e.own = true → s ≠ some (some (.ref l))) (nl : ∀ x, H l ≠ some (.own x)) : SlotOk K W (upd H l o) s e := by
  cases e with
  | un => trivial
  | cls C => exact h
  | ld t es => exact h
  | dat d => exact h
  | ol k ds =>
    obtain ⟨a, xs, e, s1, t1, n1, h1, r⟩ := h
    exact ⟨a, xs, e, s1, t1, n1, by rw [upd_ne fun z => n rfl (by rw [e, z])]; exact h1, r⟩
  | od tk es =>
    obtain ⟨a, e, s1, t1, h1⟩ := h
    have ne : a ≠ l := fun z => n rfl (by rw [e, z])
    rcases h1 with ⟨rfl, kvs, h1, z, r⟩ | ⟨rfl, kvs, h1, z, r⟩
    · exact ⟨a, e, s1, t1, .inl ⟨rfl, kvs, by rw [upd_ne ne]; exact h1, z, r⟩⟩
    · exact ⟨a, e, s1, t1, .inr ⟨rfl, kvs, by rw [upd_ne ne]; exact h1, z, r⟩⟩
  | oi b C fs =>
    obtain ⟨co, dx, vs, e, s1, t1, h1, n1, r⟩ := h
    exact ⟨co, dx, vs, e, s1, t1, by rw [upd_ne fun z => n rfl (by rw [e, z])]; exact h1, by rw [upd_ne fun z => nl b (by rw [← z]; exact n1)]; exact n1, r⟩
/-- what slot i alone holds is changed -/
theorem EnvOk.touch (en : EnvOk K W0 W H σ ρ) {i : Nat} {l : Addr} {e : Ent} {o : HO} (h : HasOwn σ ρ i l) (nl : ∀ x, H l ≠ some (.own x)) (ni : ∀ C dx fs, H l ≠ some (.ins C dx fs)) (no : ∀ x, o ≠ .own x)
    (so : SlotOk K W (upd H l o) (some (some (.ref l))) e) : EnvOk K W0 W (upd H l o) σ (ρ.set i e) := by
  obtain ⟨u, eu, s, t, mu⟩ := en.holds h
  refine ⟨en.ext, ⟨fun b v e => ?_, fun m tm => ?_, en.ok.own, fun b a e => ?_⟩, by rw [List.length_set]; exact en.len, fun j u q => ?_, fun j k a hj hk => ?_⟩
  · rw [upd_ne fun z => by rw [z, s] at e; cases e]
    exact en.ok.le b v e
  · obtain ⟨h1, x, y, z, q⟩ := en.ok.st m tm
    exact ⟨h1, x, y, z, by rw [upd_ne fun z => t (by rw [← z]; exact tm)]; exact q⟩
  · by_cases z : b = l
    · rw [z, upd_same] at e
      exact absurd (Option.some.inj e) (no a)
    · rw [upd_ne z] at e
      obtain ⟨C, dx, fs, q⟩ := en.ok.dic b a e
      exact ⟨C, dx, fs, by rw [upd_ne fun z => ni C dx fs (by rw [← z]; exact q)]; exact q⟩
  · rcases getSet q with ⟨rfl, rfl, lt⟩ | ⟨ne, q⟩
    · rw [h.1]; exact so
    · refine (en.slot j u q).other en.ok (fun ou z => ne (en.apart j i l ⟨z, u, q, ou⟩ h)) nl
  · have tell : ∀ {m : Nat} {a : Addr}, HasOwn σ (ρ.set i e) m a → HasOwn σ ρ m a := fun {m a} hm => by
      obtain ⟨h1, u, h2, h3⟩ := hm
      rcases getSet h2 with ⟨rfl, rfl, lt⟩ | ⟨ne, h2⟩
      · obtain ⟨h4, e4, h5, h6⟩ := h
        exact ⟨h1, e4, h5, h6⟩
      · exact ⟨h1, u, h2, h3⟩
    exact en.apart j k a (tell hj) (tell hk)
end
section
variable {X : Cx} {c : Cn} {K : PySem.W.Frag} {e e2 : Expr} {es : List Expr} {f f2 : DTE} {fa : DTA} {pos p apos cpos : Pos}
/-- xs.append(e), xs a list that this frame holds alone -/
def dAppend (i : Nat) (f : DTE) : DTS := fun D ρ => match ρ[i]? with
  | some (.ol n ds) => f ρ fun d => ds.length < sizeLine ∧ D.nx (ρ.set i (.ol n (ds ++ [d])))
  | _ => False
theorem ds_append (i : Nat) {x : Str} (he : DE X c e f) (hN : X.N[i]? = some x := by rfl) (hv : Vis X.env.scope x := by first | exact Or.inl rfl | exact Or.inr (Or.inl rfl) | exact Or.inr (Or.inr rfl)) (hK : X.K = c.K := by rfl)
    (hs : swapsWith (.Call (.Attribute (.Name x p) "append" apos) [e] [] cpos) none pos.line X.env = pure false := by rfl) (hd : (x == ("__debug__" : Str)) = false := by decide) (hcd : (x == ("__classdict__" : Str)) = false := by decide)
    (hbase : attributeBase (.Name x p) "append" X.env (eval (.Name x p) X.env) = eval (.Name x p) X.env := by rfl)
    (hfew : ((backTo cpos (starEach [e] X.env)).all (fun x => !x.1) && (backToKw cpos (keywordEach [] X.env)).all (fun x => x.1.isSome) && decide ([e].length + ([] : List Keyword).length + (if ([] : List Keyword).isEmpty then 0 else 1) < 30)) = true := by rfl)
    (hline : (apos.endLine == cpos.line) = true := by rfl) (hst : starEach [e] X.env = (false, eval e X.env) :: starEach [] X.env := by rfl) (hplain : (backTo cpos (starEach [] X.env)).any (·.1) = false := by rfl) :
    DS X c (.Expr (.Call (.Attribute (.Name x p) "append" apos) [e] [] cpos) pos) (dAppend i f) := by
  obtain ⟨t, pe, ve⟩ := he
  refine ⟨_, ps_expr (pe_bmK c.K PySem.F.plainAttrs_list PySem.F.slot_list_append PySem.F.type_list_append mt_append (pe_var hN hv hd hcd) (pa_cons pe pa_nil hst) hbase hfew hline hst hplain hK) hs, ⟨fun {W0 W H σ ρ En Dd} eo en q k => ?_⟩⟩
  unfold dAppend at q
  cases z : ρ[i]? with
  | none => rw [z] at q; exact q.elim
  | some u =>
    rw [z] at q
    cases u with
    | ol n ds =>
      obtain ⟨a, xs, ea, s1, t1, ⟨n1, n2⟩, h1, l1⟩ := en.slot i _ z
      refine ⟨.ref a, ea, .inl ⟨rfl, xs, SqL.of h1⟩, ve.run eo en q fun v d W1 H1 g1 r1 q1 => ?_⟩
      obtain ⟨s2, t2, h2⟩ := g1.own a _ (.here s1 t1 h1 rfl) h1
      have lt : xs.length < sizeLine := by rw [l1.len]; exact q1.1
      refine ⟨a, xs, v, rfl, rfl, h2, lt, k.nx _ _ _ _ ((en.go g1).touch (e := .ol n (ds ++ [d])) (o := .lst (xs ++ [v])) ⟨ea, _, z, rfl⟩ (by rw [h2]; intro x z; cases z) (by rw [h2]; intro C dx fs z; cases z) (by intro x z; cases z)
        ⟨a, _, rfl, s2, t2, ⟨n1, by rw [List.length_append]; exact lt⟩, upd_same, (l1.mono g1.ext).app (.cons r1 .nil)⟩) q1.2⟩
    | _ => exact q.elim
end
end DL

set_option Elab.async false
set_option linter.all false
set_option maxRecDepth 100000
set_option maxHeartbeats 2000000
/-! A def as callers know it; the built-in names. -/
namespace DL
open PySem PySem.Spec PyProof.Rows L2 LW RZ
/-- names that mean what is built in -/
structure Bl (mg : Str → Option Value) : Prop where
  «isinstance» : mg "isinstance" = none
  «int» : mg "int" = none
  «bool» : mg "bool" = none
  «str» : mg "str" = none
  «tuple» : mg "tuple" = none
  «list» : mg "list" = none
  «dict» : mg "dict" = none
  «set» : mg "set" = none
  «len» : mg "len" = none
  «range» : mg "range" = none
  «enumerate» : mg "enumerate" = none
  «zip» : mg "zip" = none
  «all» : mg "all" = none
  «any» : mg "any" = none
  «sum» : mg "sum" = none
  «abs» : mg "abs" = none
  «max» : mg "max" = none
  «min» : mg "min" = none
  «sorted» : mg "sorted" = none
  «repr» : mg "repr" = none
section
variable {P : Program} {w : World} {K : PySem.W.Frag} {mg : Str → Option Value} {base : Heap}
/-- a def of the text as it stands behind the top -/
def Dfn (K : PySem.W.Frag) (mg : Str → Option Value) (x qual : Str) (st : Stmt) (ps : List Str) : Prop := ∃ f fd, Fun K x qual st f fd ∧ mg x = some (.ref f) ∧ Binds K fd ps []
/-- a def as its callers know it -/
def Cal (P : Program) (w : World) (K : PySem.W.Frag) (mg : Str → Option Value) (base : Heap) (x : Str) (k : Nat) (ps : List Str) (g : SpD) : Prop :=
  ∃ f fd, FnD P w K mg base k f fd ps g ∧ mg x = some (.ref f) ∧ PySem.W.keepIn K (.ref f) = true ∧ Binds K fd ps []
theorem okC {x qual : Str} {st : Stmt} {N ps : List Str} {k : Nat} {g : SpD} (F : Dfn K mg x qual st ps) (S : FnScope N ps (defScope st)) (hN : ps.length ≤ N.length) (len : ∀ ds Q De, g ds Q De → ds.length = ps.length)
    (hbody : ∀ (f : Addr) (cdv : Value) (A : Around) (outer : List Env) (s : Shared) (H : Hp) (E : XK) (De : Xn → Prop), (A.deeper (envOfC qual (defScope st) s.heap.objs.size f cdv)).guards = some [] → Room k (A.deeper (envOfC qual (defScope st) s.heap.objs.size f cdv)) →
      ∃ gb, DSs (cxOf (L2.CX P w) P w K mg base N qual (defScope st) f cdv A outer s H E) ⟨K, E, De⟩ (defBody st) gb ∧ ∀ ds Dq, g ds Dq De → gb { nx := fun _ => Dq .non, rt := Dq } (startD N ds)) : Cal P w K mg base x (k + 1) ps g := by
  obtain ⟨f, fd, hf, hm, hb⟩ := F
  exact ⟨f, fd, okD hf S hN len (hbody f), hm, hf.kp, hb⟩
end
section
variable {X : Cx} {c : Cn} {k j : Nat} {ps : List Str} {g : SpD} {x : Str} {p pos : Pos} {e : Expr} {es : List Expr} {fa : DTA}
theorem de_cal (C : Cal X.prog X.w X.K X.mg X.base x k ps g) (hgd : X.A.guards = some []) (hr : Room j X.A) (hj : k ≤ j) (hg : Gl X x) (hx : Passes (L2.CX X.prog X.w) X c.E)
    (ha : DA X c (e :: es) fa) (hK : X.K = c.K := by rfl) (hdb : (x == ("__debug__" : Str)) = false := by decide) (he : starEach (e :: es) X.env = (false, eval e X.env) :: starEach es X.env := by rfl) (hpl : (backTo pos (starEach es X.env)).any (·.1) = false := by rfl) :
    DE X c (.Call (.Name x p) (e :: es) [] pos) (dFn c.De g [] fa) := by
  obtain ⟨f, fd, F, hm, hk, hb⟩ := C
  exact de_call F hgd (hr.mono hj) hg hm hk hb .nil nilD hx ha hK hdb he hpl
end
/-- a def that tells a datum of data -/
def spF (F : List D → Option D) : SpD := fun ds Q _ => match F ds with
  | some d => Q d
  | none => False
end DL

set_option Elab.async false
set_option linter.all false
set_option maxRecDepth 100000
set_option maxHeartbeats 2000000
/-! Comparisons of data. -/
namespace DL
open PySem PySem.Spec PyProof.Rows L2 LW RZ
section
variable {X : Cx} {c : Cn} {K : PySem.W.Frag} {a b e : Expr} {f fa fb fc : DTE} {pos : Pos}
/-! ### <, <=, >, >= of numbers and of texts -/
def strLt (x y : Str) : Bool := decide (x.cps.toList < y.cps.toList)
def gCmp (fi : Int → Int → Bool) (fs : Str → Str → Bool) : D → D → (D → Prop) → Prop := fun x y Q => match x, y with
  | .int i, .int j => Q (.bl (fi i j))
  | .str i, .str j => Q (.bl (fs i j))
  | _, _ => False
def rCmp (fi : Int → Int → Bool) (fs : Str → Str → Bool) : R2 := fun x y H Q => rI0 (fun i j => .bl (fi i j)) x y H Q ∨ ∃ i j, x = .str i ∧ y = .str j ∧ Q (.bl (fs i j)) H
theorem l_cmp {fi : Int → Int → Bool} {fs : Str → Str → Bool} : DOp2 K (rCmp fi fs) (gCmp fi fs) := fun {W H x y dx dy Q Dq} ok rx ry h k => by
  cases rx with
  | int i =>
    cases ry with
    | int j => exact .inl ⟨i, j, rfl, rfl, k _ _ _ _ (Go.refl ok) (.bl _) h⟩
    | _ => exact h.elim
  | str i =>
    cases ry with
    | str j => exact .inr ⟨i, j, rfl, rfl, k _ _ _ _ (Go.refl ok) (.bl _) h⟩
    | _ => exact h.elim
  | _ => exact h.elim
abbrev rLtA := rCmp (fun i j => decide (i < j)) strLt
abbrev rLeA := rCmp (fun i j => decide (i ≤ j)) fun x y => !strLt y x
abbrev rGtA := rCmp (fun i j => decide (j < i)) fun x y => strLt y x
abbrev rGeA := rCmp (fun i j => decide (j ≤ i)) fun x y => !strLt x y
abbrev gLt := gCmp (fun i j => decide (i < j)) strLt
abbrev gLe := gCmp (fun i j => decide (i ≤ j)) fun x y => !strLt y x
abbrev gGt := gCmp (fun i j => decide (j < i)) fun x y => strLt y x
abbrev gGe := gCmp (fun i j => decide (j ≤ i)) fun x y => !strLt x y
theorem op_ltA : OpR X (compareOp .Lt) rLtA := op_lt.or op_lt_str
theorem op_leA : OpR X (compareOp .LtE) rLeA := op_le.or op_le_str
theorem op_gtA : OpR X (compareOp .Gt) rGtA := op_gt.or op_gt_str
theorem op_geA : OpR X (compareOp .GtE) rGeA := op_ge.or op_ge_str
theorem l_lt : DOp2 K rLtA gLt := l_cmp
theorem l_le : DOp2 K rLeA gLe := l_cmp
theorem l_gt : DOp2 K rGtA gGt := l_cmp
theorem l_ge : DOp2 K rGeA gGe := l_cmp
/-! ### a <= b <= c -/
def dChain (g h : D → D → (D → Prop) → Prop) (fa fb fc : DTE) : DTE := fun ρ Q => fa ρ fun x => fb ρ fun y => g x y fun z => match z with
  | .bl b => if b = true then fc ρ fun w => h y w Q else Q (.bl false)
  | _ => False
theorem ev_chain {op op' : CmpOp} {r r' : R2} {g h : D → D → (D → Prop) → Prop} {ta tb tc : TE} (l : DOp2 c.K r g) (l' : DOp2 c.K r' h) (va : Ev c ta fa) (vb : Ev c tb fb) (vc : Ev c tc fc) : Ev c (tChain r r' ta tb tc) (dChain g h fa fb fc) := by
  refine ⟨fun {W0 W H σ ρ Q Dq} eo en q k => va.run eo en q fun x dx W1 H1 g1 r1 q1 => vb.run eo (en.go g1) q1 fun y dy W2 H2 g2 r2 q2 => l g2.ok (r1.mono g2.ext) r2 q2 fun z dz W3 H3 g3 r3 q3 => ?_⟩
  cases r3 with
  | bl b =>
    refine ⟨b, rfl, ?_⟩
    cases b with
    | true => exact vc.run eo (((en.go g1).go g2).go g3) q3 fun w dw W4 H4 g4 r4 q4 => l' g4.ok (r2.mono (g3.ext.trans g4.ext)) r4 q4 fun v d W5 H5 g5 r5 q5 => k v d W5 H5 ((((g1.trans g2).trans g3).trans g4).trans g5) r5 q5
    | false => exact k _ _ W3 H3 ((g1.trans g2).trans g3) (.bl false) q3
  | _ => exact q3.elim
theorem de_chain {op op' : CmpOp} {e1 e2 e3 : Expr} {r r' : R2} {g h : D → D → (D → Prop) → Prop} (ho : OpR X (compareOp op) r) (l : DOp2 c.K r g) (ho' : OpR X (compareOp op') r') (l' : DOp2 c.K r' h) (ha : DE X c e1 fa) (hb : DE X c e2 fb) (hc : DE X c e3 fc)
    (hm : lastMarks [op, op'] [e2, e3] = false := by with_unfolding_all rfl) : DE X c (.Compare e1 [op, op'] [e2, e3] pos) (dChain g h fa fb fc) := by
  obtain ⟨ta, pa, va⟩ := ha
  obtain ⟨tb, pb, vb⟩ := hb
  obtain ⟨tc, pc, vc⟩ := hc
  exact ⟨_, pe_chain ho ho' pa pb pc hm, ev_chain (op := op) (op' := op') l l' va vb vc⟩
theorem dt_chain {op op' : CmpOp} {e1 e2 e3 : Expr} {r r' : R2} {g h : D → D → (D → Prop) → Prop} (ho : OpR X (compareOp op) r) (l : DOp2 c.K r g) (ho' : OpR X (compareOp op') r') (l' : DOp2 c.K r' h) (ha : DE X c e1 fa) (hb : DE X c e2 fb) (hc : DE X c e3 fc)
    (hm : lastMarks [op, op'] [e2, e3] = false := by with_unfolding_all rfl) : DT X c (.Compare e1 [op, op'] [e2, e3] pos) (dB (dChain g h fa fb fc)) := by
  obtain ⟨ta, pa, va⟩ := ha
  obtain ⟨tb, pb, vb⟩ := hb
  obtain ⟨tc, pc, vc⟩ := hc
  exact ⟨_, pt_chain ho ho' pa pb pc hm, Tv.of (ev_chain (op := op) (op' := op') l l' va vb vc)⟩
/-! ### data without dicts and instances, as the library reads them -/
mutual
def D.py : D → PyData
  | .non => .none
  | .bl b => .bool b
  | .int i => .int i
  | .str x => .str x
  | .lst _ xs => .list (D.pyL xs)
  | .tup xs => .tuple (D.pyL xs)
  | _ => .none
def D.pyL : List D → List PyData
  | [] => []
  | x :: xs => x.py :: D.pyL xs
end
mutual
def D.flat : D → Bool
  | .dct _ _ => false
  | .obj _ _ => false
  | .stm => false
  | .scr _ => false
  | .lst _ xs => D.flatL xs
  | .tup xs => D.flatL xs
  | _ => true
def D.flatL : List D → Bool
  | [] => true
  | x :: xs => x.flat && D.flatL xs
end
/-- what may be compared by == with anything of its kind -/
def D.cmp (d : D) : Bool := d.flat && SeqAt.shaped d.py
def eqD (x y : D) : Bool := PyData.eqv x.py y.py
section
variable {W : Wd} {H : Hp}
mutual
theorem Rep.dp (le : Same W.S H) : ∀ {v : V} {d : D}, Rep K W v d → d.flat = true → Dp K H v d.py
  | _, _, .non, _ => .non
  | _, _, .bl b, _ => .bl b
  | _, _, .int i, _ => .int i
  | _, _, .str x, _ => .str x
  | _, _, .lst _ _ h t, s => .lst (SqL.of (le _ _ h)) (RepL.dp le t s)
  | _, _, .tup _ h t, s => .tup (h.sq le) (RepL.dp le t s)
  | _, _, .dK _ _ _, s => by cases s
  | _, _, .dT _ _ _, s => by cases s
  | _, _, .obj _ _ _, s => by cases s
  | _, _, .stm _, s => by cases s
  | _, _, .scr _ _, s => by cases s
theorem RepL.dp (le : Same W.S H) : ∀ {v : List V} {d : List D}, RepL K W v d → D.flatL d = true → DpAll K H v (D.pyL d)
  | _, _, .nil, _ => .nil
  | _, _, .cons h t, s => by
    have s' := Bool.and_eq_true_iff.mp s
    exact .cons (Rep.dp le h s'.1) (RepL.dp le t s'.2)
end
end
def gEq : D → D → (D → Prop) → Prop := fun x y Q => x.cmp = true ∧ y.cmp = true ∧ Q (.bl (eqD x y))
def gNe : D → D → (D → Prop) → Prop := fun x y Q => x.cmp = true ∧ y.cmp = true ∧ Q (.bl (!eqD x y))
theorem op_eqA (hu : X.A.units + 64 < cLine) (hK : X.K = K := by rfl) : OpR X (compareOp .Eq) (rEqD K) := by subst hK; exact op_eqD hu
theorem op_neA (hu : X.A.units + 64 < cLine) (hK : X.K = K := by rfl) : OpR X (compareOp .NotEq) (rNeD K) := by subst hK; exact op_neD hu
theorem l_eq : DOp2 K (rEqD K) gEq := fun {W H x y dx dy Q Dq} ok rx ry h k => by
  obtain ⟨h1, h2, h3⟩ := h
  have a1 := Bool.and_eq_true_iff.mp h1
  have a2 := Bool.and_eq_true_iff.mp h2
  exact ⟨dx.py, dy.py, rx.dp ok.le a1.1, ry.dp ok.le a2.1, a1.2, a2.2, k _ _ _ _ (Go.refl ok) (.bl _) h3⟩
theorem l_ne : DOp2 K (rNeD K) gNe := fun {W H x y dx dy Q Dq} ok rx ry h k => by
  obtain ⟨h1, h2, h3⟩ := h
  have a1 := Bool.and_eq_true_iff.mp h1
  have a2 := Bool.and_eq_true_iff.mp h2
  exact ⟨dx.py, dy.py, rx.dp ok.le a1.1, ry.dp ok.le a2.1, a1.2, a2.2, k _ _ _ _ (Go.refl ok) (.bl _) h3⟩
/-! ### in, not in a list or tuple -/
def inD (x : D) (ys : List D) : Bool := ys.any fun y => eqD y x
def gIn (neg : Bool) : D → D → (D → Prop) → Prop := fun x y Q => match y with
  | .lst _ ys => x.cmp = true ∧ D.cmp (.tup ys) = true ∧ Q (.bl (if neg then !inD x ys else inD x ys))
  | .tup ys => x.cmp = true ∧ D.cmp (.tup ys) = true ∧ Q (.bl (if neg then !inD x ys else inD x ys))
  | _ => False
theorem pyL_any {f : PyData → Bool} : ∀ ys : List D, (D.pyL ys).any f = ys.any fun y => f y.py
  | [] => rfl
  | y :: ys => by rw [D.pyL, List.any_cons, List.any_cons, pyL_any ys]
def rInD (K : PySem.W.Frag) (neg : Bool) : R2 := fun x y H Q => ∃ p d xs, y = .ref p ∧ Dp K H x d ∧ SeqAt.shaped d = true ∧ PyData.canLayAll0 xs = true ∧ ((∃ vs, SqL K H p vs ∧ DpAll K H vs xs) ∨ ∃ vs, SqT K H p vs ∧ DpAll K H vs xs) ∧
  Q (.bl (if neg then !(xs.any fun y => PyData.eqv y d) else xs.any fun y => PyData.eqv y d)) H
theorem op_inA (hu : X.A.units + 64 < cLine) (hu2 : X.A.units + 65 < cLine) (hK : X.K = K := by rfl) : OpR X (compareOp .In) (rInD K false) := by
  subst hK
  intro pins s σ H x y v u Q I rx ry h
  obtain ⟨p, d, xs, rfl, hd, sd, cx, h, q⟩ := h
  cases ry
  obtain ⟨as, r1⟩ := Dp.reads I d x v hd rx
  have room : X.A.units + 1 + min (PyData.depthAll xs) d.depth < cLine := by
    have h1 := SeqAt.depth_of_shaped sd
    have h2 : min (PyData.depthAll xs) d.depth ≤ d.depth := Nat.min_le_right _ _
    omega
  rcases h with ⟨vs, hs, ha⟩ | ⟨vs, hs, ha⟩
  · obtain ⟨bs, r2⟩ := Dp.reads I (.list xs) (.ref p) (.ref p) (.lst hs ha) rfl
    exact SeqAt.in_list_reads r2 r1 cx (SeqAt.canLay_of_shaped sd) room ⟨.bl _, H, I, rfl, q⟩
  · obtain ⟨bs, r2⟩ := Dp.reads I (.tuple xs) (.ref p) (.ref p) (.tup hs ha) rfl
    exact SeqAt.in_tuple_reads r2 r1 cx (SeqAt.canLay_of_shaped sd) room ⟨.bl _, H, I, rfl, q⟩
theorem op_ninA (hu : X.A.units + 64 < cLine) (hu2 : X.A.units + 65 < cLine) (hK : X.K = K := by rfl) : OpR X (compareOp .NotIn) (rInD K true) := by
  subst hK
  intro pins s σ H x y v u Q I rx ry h
  obtain ⟨p, d, xs, rfl, hd, sd, cx, h, q⟩ := h
  cases ry
  obtain ⟨as, r1⟩ := Dp.reads I d x v hd rx
  have room : X.A.units + 1 + min (PyData.depthAll xs) d.depth < cLine := by
    have h1 := SeqAt.depth_of_shaped sd
    have h2 : min (PyData.depthAll xs) d.depth ≤ d.depth := Nat.min_le_right _ _
    omega
  rcases h with ⟨vs, hs, ha⟩ | ⟨vs, hs, ha⟩
  · obtain ⟨bs, r2⟩ := Dp.reads I (.list xs) (.ref p) (.ref p) (.lst hs ha) rfl
    exact SeqAt.notIn_list_reads r2 r1 cx (SeqAt.canLay_of_shaped sd) room ⟨.bl _, H, I, rfl, q⟩
  · obtain ⟨bs, r2⟩ := Dp.reads I (.tuple xs) (.ref p) (.ref p) (.tup hs ha) rfl
    exact SeqAt.notIn_tuple_reads r2 r1 cx (SeqAt.canLay_of_shaped sd) room ⟨.bl _, H, I, rfl, q⟩
theorem cmp_items {ys : List D} (h : D.cmp (.tup ys) = true) : D.flatL ys = true ∧ PyData.canLayAll0 (D.pyL ys) = true := by
  have a := Bool.and_eq_true_iff.mp h
  refine ⟨a.1, ?_⟩
  have z := SeqAt.canLay_of_shaped a.2
  exact z
theorem l_inN {neg : Bool} : DOp2 K (rInD K neg) (gIn neg) := fun {W H x y dx dy Q Dq} ok rx ry h k => by
  cases ry with
  | @lst n a xs ds n1 z1 e1 l1 =>
    obtain ⟨h1, h2, h3⟩ := h
    have a1 := Bool.and_eq_true_iff.mp h1
    obtain ⟨f2, c2⟩ := cmp_items h2
    refine ⟨a, dx.py, D.pyL ds, rfl, rx.dp ok.le a1.1, a1.2, c2, .inl ⟨xs, SqL.of (ok.le _ _ e1), l1.dp ok.le f2⟩, k _ _ _ _ (Go.refl ok) (.bl _) ?_⟩
    rw [pyL_any]
    exact h3
  | @tup a xs ds z1 e1 l1 =>
    obtain ⟨h1, h2, h3⟩ := h
    have a1 := Bool.and_eq_true_iff.mp h1
    obtain ⟨f2, c2⟩ := cmp_items h2
    refine ⟨a, dx.py, D.pyL ds, rfl, rx.dp ok.le a1.1, a1.2, c2, .inr ⟨xs, e1.sq ok.le, l1.dp ok.le f2⟩, k _ _ _ _ (Go.refl ok) (.bl _) ?_⟩
    rw [pyL_any]
    exact h3
  | _ => exact h.elim
theorem l_in : DOp2 K (rInD K false) (gIn false) := l_inN
theorem l_nin : DOp2 K (rInD K true) (gIn true) := l_inN
/-! ### is None -/
def isNon : D → Bool
  | .non => true
  | _ => false
def gIsN : D → D → (D → Prop) → Prop := fun x y Q => match y with
  | .non => Q (.bl (isNon x))
  | _ => False
def gNotN : D → D → (D → Prop) → Prop := fun x y Q => match y with
  | .non => Q (.bl (!isNon x))
  | _ => False
theorem Rep.isNon {W : Wd} {v : V} {d : D} (r : Rep K W v d) : decide (v = .non) = DL.isNon d := by cases r <;> rfl
theorem l_isN : DOp2 K (fun x y H Q => y = .non ∧ Q (.bl (decide (x = .non))) H) gIsN := fun {W H x y dx dy Q Dq} ok rx ry h k => by
  cases ry with
  | non => exact ⟨rfl, k _ _ _ _ (Go.refl ok) (.bl _) (by rw [rx.isNon]; exact h)⟩
  | _ => exact h.elim
theorem l_notN : DOp2 K (fun x y H Q => y = .non ∧ Q (.bl (!decide (x = .non))) H) gNotN := fun {W H x y dx dy Q Dq} ok rx ry h k => by
  cases ry with
  | non => exact ⟨rfl, k _ _ _ _ (Go.refl ok) (.bl _) (by rw [rx.isNon]; exact h)⟩
  | _ => exact h.elim
/-! ### -x; truth -/
def dNeg (f : DTE) : DTE := fun ρ Q => f ρ fun d => match d with
  | .int i => Q (.int (-i))
  | _ => False
theorem de_neg (h : DE X c e f) : DE X c (.UnaryOp .USub e pos) (dNeg f) := by
  obtain ⟨t, p, v⟩ := h
  refine ⟨_, pe_un un_neg p, ⟨fun eo en q k => v.run eo en q fun x d W' H' g r q' => ?_⟩⟩
  cases r with
  | int i => exact ⟨i, rfl, k _ _ W' H' g (.int _) q'⟩
  | _ => exact False.elim q'
def dTruth (f : DTE) : DTT := fun ρ Q => f ρ fun d => match d with
  | .non => Q false
  | .bl b => Q b
  | .int i => Q (i != 0)
  | .str y => y.length ≤ sizeLine ∧ Q ((y.length : Int) != 0)
  | .lst _ ds => Q (!ds.isEmpty)
  | .tup ds => Q (!ds.isEmpty)
  | _ => False
theorem RepL.empty {W : Wd} {xs : List V} {ds : List D} (l : RepL K W xs ds) : (!xs.isEmpty) = !ds.isEmpty := by cases l <;> rfl
theorem dt_truth (h : DE X c e f) (he : ∀ whole, isTrue e X.env whole = (do let v ← whole; standAt e.pos; holding [v] (truthy v))) (hK : X.K = c.K := by rfl) : DT X c e (dTruth f) := by
  obtain ⟨t, p, v⟩ := h
  refine ⟨_, pt_truth p he, ?_⟩
  rw [hK]
  refine ⟨fun eo en q k => v.run eo en q fun x d W' H' g r q' => ?_⟩
  cases r with
  | non => exact ⟨false, rfl, k _ W' H' g q'⟩
  | bl b => exact ⟨b, rfl, k _ W' H' g q'⟩
  | int i => exact ⟨_, rfl, k _ W' H' g q'⟩
  | str y => exact ⟨_, ⟨q'.1, rfl⟩, k _ W' H' g q'.2⟩
  | lst _ _ e l => exact ⟨_, .inl ⟨_, SqL.of (g.ok.le _ _ e), l.empty.symm⟩, k _ W' H' g q'⟩
  | tup _ e l => exact ⟨_, .inr (.inl ⟨_, e.sq g.ok.le, l.empty.symm⟩), k _ W' H' g q'⟩
  | _ => exact False.elim q'
end
end DL

set_option Elab.async false
set_option linter.all false
set_option maxRecDepth 100000
set_option maxHeartbeats 2000000
/-! Dicts: read, changed, made. -/
namespace DL
open PySem PySem.Spec PyProof.Rows L2 LW RZ
def kD : Key → D
  | .inl i => .int i
  | .inr x => .str x
def key1 : D → D → Bool
  | .int i, .int j => i == j
  | .str x, .str y => x == y
  | _, _ => false
def keyL : List D → List D → Bool
  | [], [] => true
  | a :: as, b :: bs => key1 a b && keyL as bs
  | _, _ => false
/-- two keys are alike -/
def keyEq : D → D → Bool
  | .tup a, .tup b => keyL a b
  | a, b => key1 a b
/-- an int or a text -/
def isK1 : D → Bool
  | .int _ => true
  | .str _ => true
  | _ => false
/-- a key of a dict of this kind -/
def isKey : Bool → D → Bool
  | false, d => isK1 d
  | true, .tup (d :: ds) => isK1 d && ds.all isK1
  | true, _ => false
def findK (es : List (D × D)) (y : D) : Option D := (es.find? fun p => keyEq p.1 y).map (·.2)
def putD (es : List (D × D)) (y z : D) : List (D × D) := if (es.any fun p => keyEq p.1 y) = true then es.map (fun p => if keyEq p.1 y = true then (p.1, z) else p) else es ++ [(y, z)]
section
variable {K : PySem.W.Frag} {W : Wd} {H : Hp}
theorem kD_eq (a b : Key) : keyEq (kD a) (kD b) = decide (a = b) := by
  cases a with
  | inl i =>
    cases b with
    | inl j => rw [key_ll]; rfl
    | inr y => rw [key_lr]; rfl
  | inr x =>
    cases b with
    | inl j => rw [key_rl]; rfl
    | inr y => rw [key_rr]; show (x == y) = _; rw [Bool.beq_eq_decide_eq]
theorem kD_1 (a b : Key) : key1 (kD a) (kD b) = decide (a = b) := by
  rw [← kD_eq]
  cases a <;> cases b <;> rfl
theorem kDs_eq : ∀ (a b : List Key), keyL (a.map kD) (b.map kD) = decide (a = b)
  | [], [] => by simp [keyL]
  | [], b :: bs => by simp [keyL]
  | a :: as, [] => by simp [keyL]
  | a :: as, b :: bs => by
    rw [List.map_cons, List.map_cons, keyL, kD_1, kDs_eq as bs]
    by_cases h1 : a = b <;> by_cases h2 : as = bs <;> simp [h1, h2]
theorem rep_key {k : Key} {v : V} (r : Rep K W v (kD k)) : v = kV k := by
  cases k <;> (cases r; rfl)
theorem rep_ks : ∀ {k : List Key} {ks : List D}, RepL K W (k.map kV) ks → ks = k.map kD
  | [], _, .nil => rfl
  | .inl i :: k, _, .cons r t => by cases r; rw [rep_ks t]; rfl
  | .inr i :: k, _, .cons r t => by cases r; rw [rep_ks t]; rfl
theorem rep_ks' : ∀ {k : List Key} {xs : List V}, RepL K W xs (k.map kD) → xs = k.map kV
  | [], _, .nil => rfl
  | _ :: k, _, .cons r t => by rw [rep_key r, rep_ks' t]; rfl
theorem isK1_of {d : D} (h : isK1 d = true) : ∃ k, d = kD k := by
  cases d with
  | int i => exact ⟨.inl i, rfl⟩
  | str x => exact ⟨.inr x, rfl⟩
  | _ => cases h
theorem isKs_of : ∀ {ds : List D}, ds.all isK1 = true → ∃ k : List Key, ds = k.map kD
  | [], _ => ⟨[], rfl⟩
  | d :: ds, h => by
    rw [List.all_cons, Bool.and_eq_true] at h
    obtain ⟨k, rfl⟩ := isK1_of h.1
    obtain ⟨ks, rfl⟩ := isKs_of h.2
    exact ⟨k :: ks, rfl⟩
theorem RepK.val : ∀ {kvs : List (Key × V)} {es : List (D × D)}, RepK K W kvs es → ∀ k : Key, (valV kvs k = none ∧ findK es (kD k) = none) ∨ ∃ v d, valV kvs k = some v ∧ findK es (kD k) = some d ∧ Rep K W v d
  | _, _, .nil, k => .inl ⟨rfl, rfl⟩
  | _, _, .int (i := i) (v := v) (d := d) (kvs := kvs) (es := es) r t, k => by
    by_cases e : Sum.inl i = k
    · exact .inr ⟨v, d, valV_pos e, by rw [← e]; simp [findK, List.find?_cons, keyEq, key1, kD], r⟩
    · have ne : keyEq (.int i) (kD k) = false := (kD_eq (.inl i) k).trans (decide_eq_false e)
      rw [valV_neg e, show findK ((.int i, d) :: es) (kD k) = findK es (kD k) by simp [findK, List.find?_cons, ne]]
      exact RepK.val t k
  | _, _, .str (x := x) (v := v) (d := d) (kvs := kvs) (es := es) r t, k => by
    by_cases e : Sum.inr x = k
    · exact .inr ⟨v, d, valV_pos e, by rw [← e]; simp [findK, List.find?_cons, keyEq, key1, kD], r⟩
    · have ne : keyEq (.str x) (kD k) = false := (kD_eq (.inr x) k).trans (decide_eq_false e)
      rw [valV_neg e, show findK ((.str x, d) :: es) (kD k) = findK es (kD k) by simp [findK, List.find?_cons, ne]]
      exact RepK.val t k
theorem RepT.val : ∀ {kvs : List (List Key × V)} {es : List (D × D)}, RepT K W kvs es → ∀ k : List Key, (valV kvs k = none ∧ findK es (.tup (k.map kD)) = none) ∨ ∃ v d, valV kvs k = some v ∧ findK es (.tup (k.map kD)) = some d ∧ Rep K W v d
  | _, _, .nil, k => .inl ⟨rfl, rfl⟩
  | _, _, .cons (k := k0) (ks := ks) (v := v) (d := d) (kvs := kvs) (es := es) rk r t, k => by
    obtain rfl := rep_ks rk
    have e0 : keyEq (.tup (k0.map kD)) (.tup (k.map kD)) = decide (k0 = k) := kDs_eq k0 k
    by_cases e : k0 = k
    · rw [decide_eq_true e] at e0
      exact .inr ⟨v, d, valV_pos e, by simp [findK, List.find?_cons, e0], r⟩
    · rw [decide_eq_false e] at e0
      rw [valV_neg e, show findK ((.tup (k0.map kD), d) :: es) (.tup (k.map kD)) = findK es (.tup (k.map kD)) by simp [findK, List.find?_cons, e0]]
      exact RepT.val t k
theorem RepK.any {k : Key} : ∀ {kvs : List (Key × V)} {es : List (D × D)}, RepK K W kvs es → (es.any fun p => keyEq p.1 (kD k)) = kvs.any fun p => decide (p.1 = k)
  | _, _, .nil => rfl
  | _, _, .int (i := i) r t => by rw [List.any_cons, List.any_cons, RepK.any t]; exact congrArg (· || _) (kD_eq (.inl i) k)
  | _, _, .str (x := x) r t => by rw [List.any_cons, List.any_cons, RepK.any t]; exact congrArg (· || _) (kD_eq (.inr x) k)
theorem RepT.any {k : List Key} : ∀ {kvs : List (List Key × V)} {es : List (D × D)}, RepT K W kvs es → (es.any fun p => keyEq p.1 (.tup (k.map kD))) = kvs.any fun p => decide (p.1 = k)
  | _, _, .nil => rfl
  | _, _, .cons (k := k0) rk r t => by
    obtain rfl := rep_ks rk
    rw [List.any_cons, List.any_cons, RepT.any t]
    exact congrArg (· || _) (kDs_eq k0 k)
theorem RepK.repl {k : Key} {v : V} {d : D} (rv : Rep K W v d) : ∀ {kvs : List (Key × V)} {es : List (D × D)}, RepK K W kvs es → RepK K W (kvs.map fun kv => if kv.1 = k then (kv.1, v) else kv) (es.map fun p => if keyEq p.1 (kD k) = true then (p.1, d) else p)
  | _, _, .nil => .nil
  | _, _, .int (i := i) r t => by
    rw [List.map_cons, List.map_cons]
    have e0 : keyEq (.int i) (kD k) = decide (Sum.inl i = k) := kD_eq (.inl i) k
    by_cases e : Sum.inl i = k
    · rw [if_pos e, if_pos (by rw [e0]; exact decide_eq_true e)]
      exact .int rv (RepK.repl rv t)
    · rw [if_neg e, if_neg (by rw [e0, decide_eq_false e]; exact Bool.false_ne_true)]
      exact .int r (RepK.repl rv t)
  | _, _, .str (x := x) r t => by
    rw [List.map_cons, List.map_cons]
    have e0 : keyEq (.str x) (kD k) = decide (Sum.inr x = k) := kD_eq (.inr x) k
    by_cases e : Sum.inr x = k
    · rw [if_pos e, if_pos (by rw [e0]; exact decide_eq_true e)]
      exact .str rv (RepK.repl rv t)
    · rw [if_neg e, if_neg (by rw [e0, decide_eq_false e]; exact Bool.false_ne_true)]
      exact .str r (RepK.repl rv t)
theorem RepK.snoc {k : Key} {v : V} {d : D} (rv : Rep K W v d) : ∀ {kvs : List (Key × V)} {es : List (D × D)}, RepK K W kvs es → RepK K W (kvs ++ [(k, v)]) (es ++ [(kD k, d)])
  | _, _, .nil => by
    cases k with
    | inl i => exact .int rv .nil
    | inr x => exact .str rv .nil
  | _, _, .int r t => .int r (RepK.snoc rv t)
  | _, _, .str r t => .str r (RepK.snoc rv t)
theorem RepK.put {k : Key} {v : V} {d : D} (rv : Rep K W v d) {kvs : List (Key × V)} {es : List (D × D)} (r : RepK K W kvs es) : RepK K W (putK kvs k v) (putD es (kD k) d) := by
  unfold putK putD
  rw [r.any]
  split
  · exact r.repl rv
  · exact r.snoc rv
theorem rep_kl : ∀ k : List Key, RepL K W (k.map kV) (k.map kD)
  | [] => .nil
  | .inl i :: k => .cons (.int i) (rep_kl k)
  | .inr x :: k => .cons (.str x) (rep_kl k)
theorem RepT.repl {k : List Key} {v : V} {d : D} (rv : Rep K W v d) : ∀ {kvs : List (List Key × V)} {es : List (D × D)}, RepT K W kvs es → RepT K W (kvs.map fun kv => if kv.1 = k then (kv.1, v) else kv) (es.map fun p => if keyEq p.1 (.tup (k.map kD)) = true then (p.1, d) else p)
  | _, _, .nil => .nil
  | _, _, .cons (k := k0) rk r t => by
    obtain rfl := rep_ks rk
    rw [List.map_cons, List.map_cons]
    have e0 : keyEq (.tup (k0.map kD)) (.tup (k.map kD)) = decide (k0 = k) := kDs_eq k0 k
    by_cases e : k0 = k
    · rw [if_pos e, if_pos (by rw [e0]; exact decide_eq_true e)]
      exact .cons rk rv (RepT.repl rv t)
    · rw [if_neg e, if_neg (by rw [e0, decide_eq_false e]; exact Bool.false_ne_true)]
      exact .cons rk r (RepT.repl rv t)
theorem RepT.snoc {k : List Key} {v : V} {d : D} (rv : Rep K W v d) : ∀ {kvs : List (List Key × V)} {es : List (D × D)}, RepT K W kvs es → RepT K W (kvs ++ [(k, v)]) (es ++ [(.tup (k.map kD), d)])
  | _, _, .nil => .cons (rep_kl k) rv .nil
  | _, _, .cons rk r t => .cons rk r (RepT.snoc rv t)
theorem RepT.put {k : List Key} {v : V} {d : D} (rv : Rep K W v d) {kvs : List (List Key × V)} {es : List (D × D)} (r : RepT K W kvs es) : RepT K W (putK kvs k v) (putD es (.tup (k.map kD)) d) := by
  unfold putK putD
  rw [r.any]
  split
  · exact r.repl rv
  · exact r.snoc rv
theorem putK_len {κ : Type} [DecidableEq κ] {kvs : List (κ × V)} {k : κ} {v : V} (h : kvs.length < sizeLine) : (putK kvs k v).length ≤ sizeLine := by
  unfold putK
  split
  · rw [List.length_map]; omega
  · rw [List.length_append]; exact h
theorem RepK.len : ∀ {kvs : List (Key × V)} {es : List (D × D)}, RepK K W kvs es → kvs.length = es.length
  | _, _, .nil => rfl
  | _, _, .int _ t => by simp [RepK.len t]
  | _, _, .str _ t => by simp [RepK.len t]
theorem RepT.len : ∀ {kvs : List (List Key × V)} {es : List (D × D)}, RepT K W kvs es → kvs.length = es.length
  | _, _, .nil => rfl
  | _, _, .cons _ _ t => by simp [RepT.len t]
/-- how a dict's datum is read at a key -/
theorem dget_of {a : Addr} {y : V} {t : Bool} {es : List (D × D)} {dy : D} (le : Same W.S H) (rx : Rep K W (.ref a) (.dct t es)) (ry : Rep K W y dy) (hk : isKey t dy = true) :
    (findK es dy = none ∧ DGet H a y none) ∨ ∃ v d, findK es dy = some d ∧ DGet H a y (some v) ∧ Rep K W v d := by
  cases rx with
  | dK z rd rk =>
    obtain ⟨k, rfl⟩ := isK1_of hk
    obtain rfl := rep_key ry
    rcases rk.val k with ⟨h1, h2⟩ | ⟨v, d, h1, h2, r⟩
    · exact .inl ⟨h2, .inl ⟨_, k, rdS le rd, rfl, h1.symm⟩⟩
    · exact .inr ⟨v, d, h2, .inl ⟨_, k, rdS le rd, rfl, h1.symm⟩, r⟩
  | dT z rd rk =>
    cases dy with
    | tup ds =>
      cases ds with
      | nil => cases hk
      | cons d0 ds =>
        obtain ⟨k, ek⟩ := isKs_of (ds := d0 :: ds) hk
        rw [ek] at ry ⊢
        cases ry with
        | tup z2 hu l2 =>
          have ex := rep_ks' l2
          subst ex
          have tr := hu.resolve_right fun z => by
            have := z.1
            cases k with
            | nil => cases ek
            | cons k0 ks => cases this
          rcases rk.val k with ⟨h1, h2⟩ | ⟨v, d, h1, h2, r⟩
          · exact .inl ⟨h2, .inr ⟨_, k, _, rdS le rd, rfl, le _ _ tr, h1.symm⟩⟩
          · exact .inr ⟨v, d, h2, .inr ⟨_, k, _, rdS le rd, rfl, le _ _ tr, h1.symm⟩, r⟩
    | _ => cases hk
end
section
variable {X : Cx} {c : Cn} {K : PySem.W.Frag} {o i e e2 : Expr} {f fd fk fv fx : DTE} {pos apos cpos p : Pos}
def gGet : D → D → (D → Prop) → Prop := fun x y Q => match x with
  | .dct t es => isKey t y = true ∧ match findK es y with
    | some d => Q d
    | none => False
  | _ => False
theorem de_dget (hu : X.A.units + 1 < cLine) (ho : DE X c o fd) (hi : DE X c i fk) (hs : NoSl i) : DE X c (.Subscript o i pos) (dOp gGet fd fk) := by
  obtain ⟨t1, p1, v1⟩ := ho
  obtain ⟨t2, p2, v2⟩ := hi
  refine ⟨_, pe_dget hu p1 p2 hs, ⟨fun {W0 W H σ ρ Q Dq} eo en q k => v1.run eo en q fun x dx W1 H1 g1 r1 q1 => v2.run eo (en.go g1) q1 fun y dy W2 H2 g2 r2 q2 => ?_⟩⟩
  cases dx with
  | dct t es =>
    obtain ⟨hk, q2⟩ := q2
    have ra : ∃ a, x = .ref a := by cases r1 <;> exact ⟨_, rfl⟩
    obtain ⟨a, rfl⟩ := ra
    rcases dget_of g2.ok.le (r1.mono g2.ext) r2 hk with ⟨h1, h2⟩ | ⟨v, d, h1, h2, r⟩
    · rw [h1] at q2; exact q2.elim
    · rw [h1] at q2
      exact ⟨a, v, rfl, h2, k v d W2 H2 (g1.trans g2) r q2⟩
  | _ => exact q2.elim
def gDin (neg : Bool) : D → D → (D → Prop) → Prop := fun y x Q => match x with
  | .dct t es => isKey t y = true ∧ Q (.bl (if neg then !(findK es y).isSome else (findK es y).isSome))
  | _ => False
theorem Ev.din {t1 t2 : TE} (v1 : Ev c t1 fk) (v2 : Ev c t2 fd) : Ev c (tDIn t1 t2) (dOp (gDin false) fk fd) := ⟨fun {W0 W H σ ρ Q Dq} eo en q k => v1.run eo en q fun y dy W1 H1 g1 r1 q1 => v2.run eo (en.go g1) q1 fun x dx W2 H2 g2 r2 q2 => by
  cases dx with
  | dct t es =>
    obtain ⟨hk, q2⟩ := q2
    have ra : ∃ a, x = .ref a := by cases r2 <;> exact ⟨_, rfl⟩
    obtain ⟨a, rfl⟩ := ra
    rcases dget_of g2.ok.le r2 (r1.mono g2.ext) hk with ⟨h1, h2⟩ | ⟨v, d, h1, h2, r⟩
    · rw [h1] at q2
      exact ⟨a, none, rfl, h2, k _ _ W2 H2 (g1.trans g2) (.bl _) q2⟩
    · rw [h1] at q2
      exact ⟨a, some v, rfl, h2, k _ _ W2 H2 (g1.trans g2) (.bl _) q2⟩
  | _ => exact q2.elim⟩
theorem Ev.dnin {t1 t2 : TE} (v1 : Ev c t1 fk) (v2 : Ev c t2 fd) : Ev c (tDNotIn t1 t2) (dOp (gDin true) fk fd) := ⟨fun {W0 W H σ ρ Q Dq} eo en q k => v1.run eo en q fun y dy W1 H1 g1 r1 q1 => v2.run eo (en.go g1) q1 fun x dx W2 H2 g2 r2 q2 => by
  cases dx with
  | dct t es =>
    obtain ⟨hk, q2⟩ := q2
    have ra : ∃ a, x = .ref a := by cases r2 <;> exact ⟨_, rfl⟩
    obtain ⟨a, rfl⟩ := ra
    rcases dget_of g2.ok.le r2 (r1.mono g2.ext) hk with ⟨h1, h2⟩ | ⟨v, d, h1, h2, r⟩
    · rw [h1] at q2
      exact ⟨a, none, rfl, h2, k _ _ W2 H2 (g1.trans g2) (.bl _) q2⟩
    · rw [h1] at q2
      exact ⟨a, some v, rfl, h2, k _ _ W2 H2 (g1.trans g2) (.bl _) q2⟩
  | _ => exact q2.elim⟩
theorem de_din (hu : X.A.units + 1 < cLine) (hi : DE X c i fk) (ho : DE X c o fd) (h1 : behindInMarks .In o = false := by rfl) : DE X c (.Compare i [.In] [o] pos) (dOp (gDin false) fk fd) := by
  obtain ⟨t1, p1, v1⟩ := hi
  obtain ⟨t2, p2, v2⟩ := ho
  exact ⟨_, pe_cmp (pc_din hu p1 p2) h1, v1.din v2⟩
theorem de_dnin (hu : X.A.units + 1 < cLine) (hi : DE X c i fk) (ho : DE X c o fd) (h1 : behindInMarks .NotIn o = false := by rfl) : DE X c (.Compare i [.NotIn] [o] pos) (dOp (gDin true) fk fd) := by
  obtain ⟨t1, p1, v1⟩ := hi
  obtain ⟨t2, p2, v2⟩ := ho
  exact ⟨_, pe_cmp (pc_dnotin hu p1 p2) h1, v1.dnin v2⟩
theorem dt_din (hu : X.A.units + 1 < cLine) (hi : DE X c i fk) (ho : DE X c o fd) (h1 : behindInMarks .In o = false := by rfl) : DT X c (.Compare i [.In] [o] pos) (dB (dOp (gDin false) fk fd)) := by
  obtain ⟨t1, p1, v1⟩ := hi
  obtain ⟨t2, p2, v2⟩ := ho
  exact ⟨_, pt_cmp (pc_din hu p1 p2) h1, Tv.of' (v1.din v2)⟩
theorem dt_dnin (hu : X.A.units + 1 < cLine) (hi : DE X c i fk) (ho : DE X c o fd) (h1 : behindInMarks .NotIn o = false := by rfl) : DT X c (.Compare i [.NotIn] [o] pos) (dB (dOp (gDin true) fk fd)) := by
  obtain ⟨t1, p1, v1⟩ := hi
  obtain ⟨t2, p2, v2⟩ := ho
  exact ⟨_, pt_cmp (pc_dnotin hu p1 p2) h1, Tv.of' (v1.dnin v2)⟩
/-- d.get(k, x) -/
def dGet2 (fd fk fx : DTE) : DTE := fun ρ Q => fd ρ fun d => match d with
  | .dct t es => fk ρ fun y => fx ρ fun z => isKey t y = true ∧ Q ((findK es y).getD z)
  | _ => False
/-- d.get(k) -/
def dGet1 (fd fk : DTE) : DTE := fun ρ Q => fd ρ fun d => match d with
  | .dct t es => fk ρ fun y => isKey t y = true ∧ Q ((findK es y).getD .non)
  | _ => False
theorem hu1 {k : Nat} {A : Around} (hr : Room k A) : A.units + 1 < cLine := by have := hr.units; omega
theorem u65 {k : Nat} {A : Around} (hr : Room k A) : A.units + 65 < cLine := by have := hr.un; omega
theorem Rep.isD {W : Wd} {H : Hp} (le : Same W.S H) {x : V} {t : Bool} {es : List (D × D)} (r : Rep K W x (.dct t es)) : ∃ a, x = .ref a ∧ IsD H a := by
  cases r with
  | dK _ rd _ => exact ⟨_, rfl, .inl ⟨_, rdS le rd⟩⟩
  | dT _ rd _ => exact ⟨_, rfl, .inr ⟨_, rdS le rd⟩⟩
theorem de_dget2 (hu : X.A.units + 1 < cLine) (ho : DE X c o fd) (he : DE X c e fk) (hf : DE X c e2 fx) (m : M2 X o "get" apos e e2 cpos) : DE X c (.Call (.Attribute o "get" apos) [e, e2] [] cpos) (dGet2 fd fk fx) := by
  obtain ⟨t1, p1, v1⟩ := ho
  obtain ⟨t2, p2, v2⟩ := he
  obtain ⟨t3, p3, v3⟩ := hf
  refine ⟨_, pe_dget2 hu p1 p2 p3 m, ⟨fun {W0 W H σ ρ Q Dq} eo en q k => v1.run eo en q fun x dx W1 H1 g1 r1 q1 => ?_⟩⟩
  cases dx with
  | dct t es =>
    obtain ⟨a, rfl, isd⟩ := r1.isD g1.ok.le
    have q1' : fk _ fun y => fx _ fun z => isKey t y = true ∧ Dq ((findK es y).getD z) := q1
    refine ⟨a, rfl, isd, v2.run eo (en.go g1) q1' fun y dy W2 H2 g2 r2 q2 => v3.run eo ((en.go g1).go g2) q2 fun z dz W3 H3 g3 r3 q3 => ?_⟩
    obtain ⟨hk, q3⟩ := q3
    rcases dget_of g3.ok.le (r1.mono (g2.ext.trans g3.ext)) (r2.mono g3.ext) hk with ⟨h1, h2⟩ | ⟨v, d, h1, h2, r⟩
    · rw [h1] at q3
      exact ⟨none, h2, k z dz W3 H3 ((g1.trans g2).trans g3) r3 q3⟩
    · rw [h1] at q3
      exact ⟨some v, h2, k v d W3 H3 ((g1.trans g2).trans g3) r q3⟩
  | _ => exact q1.elim
theorem de_dget1 (hu : X.A.units + 1 < cLine) (ho : DE X c o fd) (he : DE X c e fk) (hbase : attributeBase o "get" X.env (eval o X.env) = eval o X.env := by rfl)
    (hfew : ((backTo cpos (starEach [e] X.env)).all (fun x => !x.1) && (backToKw cpos (keywordEach [] X.env)).all (fun x => x.1.isSome) && decide (([e] : List Expr).length + ([] : List Keyword).length + (if ([] : List Keyword).isEmpty then 0 else 1) < 30)) = true := by rfl)
    (hline : (apos.endLine == cpos.line) = true := by rfl) (htr : backTo cpos (starEach [e] X.env) = [(false, eval e X.env)] := by rfl) : DE X c (.Call (.Attribute o "get" apos) [e] [] cpos) (dGet1 fd fk) := by
  obtain ⟨t1, p1, v1⟩ := ho
  obtain ⟨t2, p2, v2⟩ := he
  refine ⟨_, pe_dget1 hu p1 p2 ⟨hbase, hfew, hline, htr⟩, ⟨fun {W0 W H σ ρ Q Dq} eo en q k => v1.run eo en q fun x dx W1 H1 g1 r1 q1 => ?_⟩⟩
  cases dx with
  | dct t es =>
    obtain ⟨a, rfl, isd⟩ := r1.isD g1.ok.le
    have q1' : fk _ fun y => isKey t y = true ∧ Dq ((findK es y).getD .non) := q1
    refine ⟨a, rfl, isd, v2.run eo (en.go g1) q1' fun y dy W2 H2 g2 r2 q2 => ?_⟩
    obtain ⟨hk, q3⟩ := q2
    rcases dget_of g2.ok.le (r1.mono g2.ext) r2 hk with ⟨h1, h2⟩ | ⟨v, d, h1, h2, r⟩
    · rw [h1] at q3
      exact ⟨none, h2, k .non .non W2 H2 (g1.trans g2) .non q3⟩
    · rw [h1] at q3
      exact ⟨some v, h2, k v d W2 H2 (g1.trans g2) r q3⟩
  | _ => exact q1.elim
/-! ### new dicts -/
def fNew (t : Bool) : Env' → (Ent → Prop) → Prop := fun _ Q => Q (.od t [])
theorem df_newK : DF X c (.Dict [] [] pos) (fNew false) := by
  refine ⟨_, pe_dnewK, ⟨fun {W0 W H σ ρ Q Dq} eo en q k a na => ?_⟩⟩
  obtain ⟨n1, n2⟩ := en.ok.gone na
  exact k a (.od false []) _ _ ((Go.refl en.ok).notOwned na) (Go.newO en.ok na (by intro x z; cases z)) rfl ⟨a, rfl, n1, n2, .inl ⟨rfl, [], upd_same, Nat.zero_le _, .nil⟩⟩ q
theorem df_newT : DF X c (.Dict [] [] pos) (fNew true) := by
  refine ⟨_, pe_dnewT, ⟨fun {W0 W H σ ρ Q Dq} eo en q k a na => ?_⟩⟩
  obtain ⟨n1, n2⟩ := en.ok.gone na
  exact k a (.od true []) _ _ ((Go.refl en.ok).notOwned na) (Go.newO en.ok na (by intro x z; cases z)) rfl ⟨a, rfl, n1, n2, .inr ⟨rfl, [], upd_same, Nat.zero_le _, .nil⟩⟩ q
/-- d[k] = v, d a dict that this frame holds alone -/
def dPut (j : Nat) (fk fv : DTE) : DTS := fun E ρ => fv ρ fun z => match ρ[j]? with
  | some (.od t es) => fk ρ fun y => isKey t y = true ∧ es.length < sizeLine ∧ E.nx (ρ.set j (.od t (putD es y z)))
  | _ => False
theorem ds_put (j : Nat) {x : Str} {value : Expr} {pos' : Pos} (hu : X.A.units + 1 < cLine) (hi : DE X c i fk) (hv : DE X c value fv) (hN : X.N[j]? = some x := by rfl) (hvis : Vis X.env.scope x := by first | exact Or.inl rfl | exact Or.inr (Or.inl rfl) | exact Or.inr (Or.inr rfl))
    (hs : swapsWith value (some (.Subscript (.Name x p) i pos')) pos.line X.env = pure false := by rfl) (hd : (x == ("__debug__" : Str)) = false := by decide) (hcd : (x == ("__classdict__" : Str)) = false := by decide) :
    DS X c (.Assign [.Subscript (.Name x p) i pos'] value pos) (dPut j fk fv) := by
  obtain ⟨t1, p1, v1⟩ := hi
  obtain ⟨t2, p2, v2⟩ := hv
  refine ⟨_, ps_dput hu (pe_var hN hvis hd hcd) p1 p2 hs, ⟨fun {W0 W H σ ρ En Dd} eo en q k => v2.run eo en q fun z dz W1 H1 g1 r1 q1 => ?_⟩⟩
  have en1 := en.go g1
  cases sl : ρ[j]? with
  | none => rw [sl] at q1; exact q1.elim
  | some u =>
    rw [sl] at q1
    cases u with
    | od t es =>
      obtain ⟨a, ea, s1, t1', hh⟩ := en1.slot j _ sl
      refine ⟨.ref a, ea, v1.run eo en1 q1 fun y dy W2 H2 g2 r2 q2 => ?_⟩
      obtain ⟨hk, hz, q2⟩ := q2
      have en2 := en1.go g2
      rcases hh with ⟨rfl, kvs, h1, hl, rk⟩ | ⟨rfl, kvs, h1, hl, rk⟩
      · obtain ⟨s2, t2', h2⟩ := g2.own a _ (.here s1 t1' h1 rfl) h1
        obtain ⟨kk, rfl⟩ := isK1_of hk
        obtain rfl := rep_key r2
        have lt : kvs.length < sizeLine := by rw [rk.len]; exact hz
        refine ⟨a, _, rfl, .inl ⟨kvs, kk, h2, rfl, lt, rfl⟩, k.nx _ _ _ _ (en2.touch (e := .od false (putD es (kD kk) dz)) ⟨ea, _, sl, rfl⟩ (by rw [h2]; intro x z; cases z) (by rw [h2]; intro C dx fs z; cases z) (by intro x z; cases z)
          ⟨a, rfl, s2, t2', .inl ⟨rfl, _, upd_same, putK_len lt, (rk.mono g2.ext).put (r1.mono g2.ext)⟩⟩) q2⟩
      · obtain ⟨s2, t2', h2⟩ := g2.own a _ (.here s1 t1' h1 rfl) h1
        have lt : kvs.length < sizeLine := by rw [rk.len]; exact hz
        cases dy with
        | tup ds =>
          cases ds with
          | nil => cases hk
          | cons d0 ds =>
            obtain ⟨kk, ek⟩ := isKs_of (ds := d0 :: ds) hk
            rw [ek] at r2 q2
            cases r2 with
            | tup z2 hu2 l2 =>
              have ex := rep_ks' l2
              subst ex
              have tr := hu2.resolve_right fun z => by
                have := z.1
                cases kk with
                | nil => cases ek
                | cons k0 ks => cases this
              exact ⟨a, _, rfl, .inr ⟨kvs, kk, _, h2, rfl, g2.ok.le _ _ tr, lt, rfl⟩, k.nx _ _ _ _ (en2.touch (e := .od true (putD es (.tup (kk.map kD)) dz)) ⟨ea, _, sl, rfl⟩ (by rw [h2]; intro x z; cases z) (by rw [h2]; intro C dx fs z; cases z) (by intro x z; cases z)
                ⟨a, rfl, s2, t2', .inr ⟨rfl, _, upd_same, putK_len lt, (rk.mono g2.ext).put (r1.mono g2.ext)⟩⟩) q2⟩
        | _ => cases hk
    | _ => exact q1.elim
end
end DL

set_option Elab.async false
set_option linter.all false
set_option maxRecDepth 100000
set_option maxHeartbeats 2000000
/-! Instances: fields read and set, properties, methods, __init__, the making of an instance. -/
namespace DL
open PySem PySem.Spec PyProof.Rows L2 LW RZ
section
variable {K : PySem.W.Frag} {W W' : Wd}
theorem RepF.some : ∀ {fs : List (Str × V)} {es : List (Str × D)}, RepF K W fs es → ∀ {f : Str} {d : D}, es.lookup f = some d → ∃ v, fs.lookup f = some v ∧ Rep K W v d
  | _, _, .nil, f, d, e => by cases e
  | _, _, .cons (x := x) h t, f, d, e => by
    rw [List.lookup_cons] at e
    rw [List.lookup_cons]
    cases z : f == x with
    | true => rw [z] at e; cases e; exact ⟨_, rfl, h⟩
    | false => rw [z] at e; exact RepF.some t e
theorem RepF.none : ∀ {fs : List (Str × V)} {es : List (Str × D)}, RepF K W fs es → ∀ {f : Str}, es.lookup f = none → fs.lookup f = none
  | _, _, .nil, f, e => rfl
  | _, _, .cons (x := x) h t, f, e => by
    rw [List.lookup_cons] at e
    rw [List.lookup_cons]
    cases z : f == x with
    | true => rw [z] at e; cases e
    | false => rw [z] at e; exact RepF.none t e
def putFD (f : Str) (v : D) : List (Str × D) → List (Str × D)
  | [] => [(f, v)]
  | (g, x) :: r => if g = f then (g, v) :: r else (g, x) :: putFD f v r
theorem RepF.put {f : Str} {v : V} {d : D} (r : Rep K W v d) : ∀ {fs : List (Str × V)} {es : List (Str × D)}, RepF K W fs es → RepF K W (putF f v fs) (putFD f d es)
  | _, _, .nil => .cons r .nil
  | _, _, .cons (x := x) h t => by
    unfold putF putFD
    by_cases e : x = f
    · rw [if_pos e, if_pos e]; exact .cons r t
    · rw [if_neg e, if_neg e]; exact .cons h (RepF.put r t)
theorem RepF.len : ∀ {fs : List (Str × V)} {es : List (Str × D)}, RepF K W fs es → fs.length = es.length
  | _, _, .nil => rfl
  | _, _, .cons _ t => by simp [RepF.len t]
end
section
variable {W0 W W' : Wd} {H H' : Hp} {σ : L2.St} {ρ : Env'} {K : PySem.W.Frag}
/-- a field of what slot i alone holds is set -/
theorem EnvOk.touchI (en : EnvOk K W0 W H σ ρ) {i : Nat} {l C dx : Addr} {fs fs' : List (Str × V)} {e : Ent} (h : HasOwn σ ρ i l) (hl : H l = some (.ins C dx fs)) (so : SlotOk K W (upd H l (.ins C dx fs')) (some (some (.ref l))) e) :
    EnvOk K W0 W (upd H l (.ins C dx fs')) σ (ρ.set i e) := by
  obtain ⟨u, eu, s, t, mu⟩ := en.holds h
  have nl : ∀ x, H l ≠ some (.own x) := fun x z => by rw [hl] at z; cases z
  refine ⟨en.ext, ⟨fun b v e => ?_, fun m tm => ?_, en.ok.own, fun b a e => ?_⟩, by rw [List.length_set]; exact en.len, fun j u q => ?_, fun j k a hj hk => ?_⟩
  · rw [upd_ne fun z => by rw [z, s] at e; cases e]
    exact en.ok.le b v e
  · obtain ⟨h1, x, y, z, q⟩ := en.ok.st m tm
    exact ⟨h1, x, y, z, by rw [upd_ne fun z => t (by rw [← z]; exact tm)]; exact q⟩
  · by_cases z : b = l
    · rw [z, upd_same] at e
      cases e
    · rw [upd_ne z] at e
      obtain ⟨C2, dx2, fs2, q⟩ := en.ok.dic b a e
      by_cases z2 : a = l
      · exact ⟨C, dx, fs', by rw [z2, upd_same]⟩
      · exact ⟨C2, dx2, fs2, by rw [upd_ne z2]; exact q⟩
  · rcases getSet q with ⟨rfl, rfl, lt⟩ | ⟨ne, q⟩
    · rw [h.1]; exact so
    · refine (en.slot j u q).other en.ok (fun ou z => ne (en.apart j i l ⟨z, u, q, ou⟩ h)) nl
  · have tell : ∀ {m : Nat} {a : Addr}, HasOwn σ (ρ.set i e) m a → HasOwn σ ρ m a := fun {m a} hm => by
      obtain ⟨h1, u, h2, h3⟩ := hm
      rcases getSet h2 with ⟨rfl, rfl, lt⟩ | ⟨ne, h2⟩
      · obtain ⟨h4, e4, h5, h6⟩ := h
        exact ⟨h1, e4, h5, h6⟩
      · exact ⟨h1, u, h2, h3⟩
    exact en.apart j k a (tell hj) (tell hk)
end
section
variable {X : Cx} {c : Cn} {C : Addr} {f : Str} {e : Expr} {fe : DTE} {pos pos' p : Pos}
/-! ### fields -/
def dFld (C : Addr) (f : Str) (fe : DTE) : DTE := fun ρ Q => fe ρ fun d => match d with
  | .obj C' fs => C' = C ∧ ∃ v, fs.lookup f = some v ∧ Q v
  | _ => False
/-- e.f, e an instance that is shared -/
theorem de_fld (n : NoAttr X.K C f) (he : DE X c e fe) (hab : attributeBase e f X.env (eval e X.env) = eval e X.env := by rfl) (hK : X.K = c.K := by rfl) : DE X c (.Attribute e f pos) (dFld C f fe) := by
  obtain ⟨te, pe, ve⟩ := he
  refine ⟨_, pe_fld pe hab, ⟨fun {W0 W H σ ρ Q Dq} eo en q k => ?_⟩⟩
  refine ve.run eo en q fun v d W1 H1 g1 r1 q1 => ?_
  cases r1 with
  | obj co s t =>
    obtain ⟨rfl, d, l, q⟩ := q1
    obtain ⟨w, lw, rw'⟩ := t.some l
    exact ⟨_, _, _, _, w, rfl, g1.ok.le _ _ s, by rw [hK]; exact co.cl, n, lw, k w d W1 H1 g1 rw' q⟩
  | _ => exact q1.elim
def dFldO (i : Nat) (C : Addr) (f : Str) : DTE := fun ρ Q => match ρ[i]? with
  | some (.oi _ C' fs) => C' = C ∧ ∃ v, fs.lookup f = some v ∧ Q v
  | _ => False
/-- self.f, self an instance that this frame alone holds -/
theorem de_fldO (i : Nat) {x : Str} (n : NoAttr X.K C f) (hN : X.N[i]? = some x := by rfl) (hv : Vis X.env.scope x := by first | exact Or.inl rfl | exact Or.inr (Or.inl rfl) | exact Or.inr (Or.inr rfl))
    (hab : attributeBase (.Name x p) f X.env (eval (.Name x p) X.env) = eval (.Name x p) X.env := by rfl) (hK : X.K = c.K := by rfl) (hd : (x == ("__debug__" : Str)) = false := by decide) (hcd : (x == ("__classdict__" : Str)) = false := by decide) :
    DE X c (.Attribute (.Name x p) f pos) (dFldO i C f) := by
  refine ⟨_, pe_fld (pe_var hN hv hd hcd) hab, ⟨fun {W0 W H σ ρ Q Dq} eo en q k => ?_⟩⟩
  unfold dFldO at q
  cases z : ρ[i]? with
  | none => rw [z] at q; exact q.elim
  | some u =>
    rw [z] at q
    cases u with
    | oi a C' fs =>
      obtain ⟨rfl, d, l, q⟩ := q
      obtain ⟨co, dx, vs, ea, s1, t1, h1, hd1, r⟩ := en.slot i _ z
      obtain ⟨w, lw, rw'⟩ := r.some l
      exact ⟨.ref a, ea, a, _, dx, vs, w, rfl, h1, by rw [hK]; exact co.cl, n, lw, k w d W H (Go.refl en.ok) rw' q⟩
    | _ => exact q.elim
def dFldSet (i : Nat) (C : Addr) (f : Str) (fe : DTE) : DTS := fun D ρ => fe ρ fun d => match ρ[i]? with
  | some (.oi a C' fs) => C' = C ∧ fs.length < 1000 ∧ D.nx (ρ.set i (.oi a C' (putFD f d fs)))
  | _ => False
/-- self.f = e -/
theorem ds_fld (i : Nat) {x : Str} {fe : DTE} (n : NoAttr X.K C f) (he : DE X c e fe) (hN : X.N[i]? = some x := by rfl) (hv : Vis X.env.scope x := by first | exact Or.inl rfl | exact Or.inr (Or.inl rfl) | exact Or.inr (Or.inr rfl))
    (hs : swapsWith e (some (.Attribute (.Name x p) f pos')) pos.line X.env = pure false := by rfl) (hK : X.K = c.K := by rfl) (hd : (x == ("__debug__" : Str)) = false := by decide) (hcd : (x == ("__classdict__" : Str)) = false := by decide) :
    DS X c (.Assign [.Attribute (.Name x p) f pos'] e pos) (dFldSet i C f fe) := by
  obtain ⟨te, pe, ve⟩ := he
  refine ⟨_, ps_fld (pe_var hN hv hd hcd) pe hs, ⟨fun {W0 W H σ ρ En Dd} eo en q k => ?_⟩⟩
  refine ve.run eo en q fun v d W1 H1 g1 r1 q1 => ?_
  cases z : ρ[i]? with
  | none => rw [z] at q1; exact q1.elim
  | some u =>
    rw [z] at q1
    cases u with
    | oi a C' fs =>
      obtain ⟨rfl, lt, q⟩ := q1
      have en1 := en.go g1
      obtain ⟨co, dx, vs, ea, s1, t1, h1, hd1, r⟩ := en1.slot i _ z
      refine ⟨.ref a, ea, a, _, dx, vs, rfl, h1, by rw [hK]; exact co.cl, n, by rw [r.len]; exact lt, ?_⟩
      have ne : dx ≠ a := fun z => by rw [z, h1] at hd1; cases hd1
      refine k.nx σ _ W1 _ (en1.touchI (l := a) ⟨ea, _, z, rfl⟩ h1 ?_) q
      exact ⟨co, dx, _, rfl, s1, t1, upd_same, by rw [upd_ne ne]; exact hd1, r.put r1⟩
    | _ => exact q1.elim
end
/-! ### properties, methods -/
section
variable {X : Cx} {c : Cn} {C : Addr} {f m : Str} {e o : Expr} {es : List Expr} {fe : DTE} {fa : DTA} {pos apos : Pos} {k j : Nat} {ps : List Str} {g : SpD} {dds : List D}
/-- C's property x reads the field f -/
def Prt (P : Program) (w : World) (K : PySem.W.Frag) (mg : Str → Option Value) (base : Heap) (C : Addr) (x f : Str) : Prop :=
  Cls K C ∧ ∃ p ga fd, PropOf K C x p ga ∧ FnOk P w K mg base (L2.CX P w) 1 ga fd ["self"] (getSp C f) ∧ Binds K fd ["self"] []
def noE : XK := fun _ _ _ => False
theorem passNo {X : Cx} : Passes (L2.CX X.prog X.w) X noE := passN fun _ _ _ h => h
theorem de_prop {x : Str} (P : Prt X.prog X.w X.K X.mg X.base C x f) (hr : Room j X.A) (hj : 2 ≤ j) (he : DE X c e fe) (hab : attributeBase e x X.env (eval e X.env) = eval e X.env := by rfl) (hK : X.K = c.K := by rfl) :
    DE X c (.Attribute e x pos) (dFld C f fe) := by
  obtain ⟨cl, p, ga, fd, hp, F, hb⟩ := P
  obtain ⟨te, pe, ve⟩ := he
  refine ⟨_, pe_prop (E := noE) pe cl hp F (hr.mono hj) hb .nil (passNo (X := X.nox)) hab, ⟨fun {W0 W H σ ρ Q Dq} eo en q k => ?_⟩⟩
  refine ve.run eo en q fun v d W1 H1 g1 r1 q1 => ?_
  cases r1 with
  | obj co s t =>
    obtain ⟨rfl, d, l, q⟩ := q1
    obtain ⟨w, lw, rw'⟩ := t.some l
    have h1 := g1.ok.le _ _ s
    exact ⟨_, _, _, rfl, h1, _, _, _, w, rfl, h1, lw, k w d W1 H1 g1 rw' q⟩
  | _ => exact q1.elim
/-- C's method m, as its callers know it (ps: with self) -/
def Mth (P : Program) (w : World) (K : PySem.W.Frag) (mg : Str → Option Value) (base : Heap) (C : Addr) (m : Str) (k : Nat) (ps : List Str) (g : SpD) : Prop :=
  Cls K C ∧ ∃ f fd, Meth K C m f ∧ FnD P w K mg base k f fd ps g ∧ Binds K fd ps []
theorem pe_methG {CX : CXT} {f : Addr} {fd : FuncData} {sp : Sp} {dvs : List V} {ds : List Value} {E : XK} {ta : TE} {t : TA} {pl : Sem Bool} (he : PE X o ta) (cl : Cls X.K C) (hm : Meth X.K C m f) (F : FnG X.prog X.w X.K X.mg X.base CX k f fd ps sp) (hgd : X.A.guards = some []) (hr : Room k X.A) (hb : Binds X.K fd ps ds) (hd : Vals dvs ds) (hx : Passes CX X E) (ha : PA X (e :: es) t)
    (hst : starEach (e :: es) X.env = (false, eval e X.env) :: starEach es X.env := by rfl) (hpl : (backTo pos (starEach es X.env)).any (·.1) = false := by rfl)
    (ht : eval (.Call (.Attribute o m apos) (e :: es) [] pos) X.env = (do
      let ov ← eval o X.env
      standAt apos.atName
      let (f, first) ← holding [ov] (getMethod ov m pl)
      callWith pos f first (backTo pos (starEach (e :: es) X.env)) (backToKw pos (keywordEach [] X.env))) := by rfl) :
    PE X (.Call (.Attribute o m apos) (e :: es) [] pos) (tMeth C m sp dvs E ta t) := by
  refine ⟨fun pins s σ H Q I h => ?_⟩
  refine PySem.W.methodCall_KW (pl := pl) (thn (he.run pins s σ H _ I h) fun u s1 ⟨x, H1, I1, rx, a, dx, fs, ex, ea, l, q⟩ => ?_) ht
  subst ex
  obtain rfl : u = Value.ref a := rx
  refine getmeth_ok I1 ea cl hm l ?_
  refine PySem.W.callWith_K (first := [.ref a]) (h₀ := X.base) I.ok.mod.kin hm.kp (thn (ha.run pos pins s1 σ H1 _ I1 q) fun us s2 ⟨vs, H2, I2, r, q2⟩ => ⟨I2.kIn, ?_⟩) hst hpl
  exact run_fnG (us := .ref a :: us) (vs := .ref a :: vs) F hgd hr hb hd hx I2 (.cons rfl r) q2
def dMth (De : Xn → Prop) (C : Addr) (m : Str) (g : SpD) (fe : DTE) (fa : DTA) : DTE := fun ρ Q => fe ρ fun d => match d with
  | .obj C' fs => C' = C ∧ fs.lookup m = none ∧ fa ρ fun ds => g (.obj C' fs :: ds) Q De
  | _ => False
/-- o.m(e, ..) -/
theorem de_mth {pl : Sem Bool} (M : Mth X.prog X.w X.K X.mg X.base C m k ps g) (hgd : X.A.guards = some []) (hr : Room j X.A) (hj : k ≤ j) (hx : Passes (L2.CX X.prog X.w) X c.E) (he : DE X c o fe) (ha : DA X c (e :: es) fa) (hK : X.K = c.K := by rfl)
    (hst : starEach (e :: es) X.env = (false, eval e X.env) :: starEach es X.env := by rfl) (hpl : (backTo pos (starEach es X.env)).any (·.1) = false := by rfl)
    (ht : eval (.Call (.Attribute o m apos) (e :: es) [] pos) X.env = (do
      let ov ← eval o X.env
      standAt apos.atName
      let (f, first) ← holding [ov] (getMethod ov m pl)
      callWith pos f first (backTo pos (starEach (e :: es) X.env)) (backToKw pos (keywordEach [] X.env))) := by rfl) :
    DE X c (.Call (.Attribute o m apos) (e :: es) [] pos) (dMth c.De C m g fe fa) := by
  obtain ⟨cl, f, fd, hm, F, hb⟩ := M
  obtain ⟨te, pe, ve⟩ := he
  obtain ⟨ta, pa, va⟩ := ha
  refine ⟨_, pe_methG (E := c.E) pe cl hm F hgd (hr.mono hj) hb .nil hx pa hst hpl ht, ⟨fun {W0 W H σ ρ Q Dq} eo en q k => ?_⟩⟩
  refine ve.run eo en q fun v d W1 H1 g1 r1 q1 => ?_
  cases r1 with
  | obj co s t =>
    obtain ⟨rfl, l, q⟩ := q1
    have h1 := g1.ok.le _ _ s
    refine ⟨_, _, _, rfl, h1, t.none l, va.run (eo.mono (en.ext.trans g1.ext)) (en.go g1).base q fun vs ds W2 H2 g2 r2 q2 => ?_⟩
    rw [List.append_nil]
    rw [hK]
    refine ⟨W2, _, Dq, c.De, g2.ok, .cons (.obj co (g2.ext.s _ _ s) (t.mono g2.ext)) r2, q2, fun v d W3 H3 g3 r3 q3 => k v d W3 H3 ((g1.trans g2).trans g3) r3 q3, fun C dx x W3 H3 g3 rx q3 => eo C dx x W3 H3 (((en.ext.trans g1.ext).trans g2.ext).trans g3.ext) g3.ok rx q3⟩
  | _ => exact q1.elim
end
/-! ### __init__ -/
abbrev SpI := List D → (List (Str × D) → Prop) → (Xn → Prop) → Prop
section
variable {P : Program} {w : World} {K : PySem.W.Frag} {mg : Str → Option Value} {base : Heap} {C : Addr}
/-- __init__ of a new instance, as the maker sees it -/
def spI (K : PySem.W.Frag) (C : Addr) (g : SpI) : Sp := fun vs H Q E => ∃ W H0 ds Dq De a dx vs', vs = .ref a :: vs' ∧ H = upd (upd H0 dx (.own a)) a (.ins C dx []) ∧ H0 a = none ∧ H0 dx = none ∧ dx ≠ a ∧ Ok W H0 ∧ ClsOk K C ∧ RepL K W vs' ds ∧ g ds Dq De ∧
  (∀ dx2 fs es W' H', Go W H0 W' H' → W'.S a = none → ¬ W'.T a → H' a = some (.ins C dx2 fs) → H' dx2 = some (.own a) → RepF K W' fs es → Dq es → Q .non H') ∧ ∀ C2 d x W' H', Go W H0 W' H' → RepX K W' C2 d x → De x → E C2 d H'
/-- .. as its body shows it -/
def spIB (K : PySem.W.Frag) (C : Addr) (g : SpI) : Sp := fun vs H Q E => ∃ W H0 ds Dq De a dx vs', vs = .ref a :: vs' ∧ H = upd (upd H0 dx (.own a)) a (.ins C dx []) ∧ H0 a = none ∧ H0 dx = none ∧ dx ≠ a ∧ Ok W H0 ∧ ClsOk K C ∧ RepL K W vs' ds ∧ g ds Dq De ∧
  (∀ dx2 fs es W' H', Ext W W' → Ok W' H' → W'.S a = none → ¬ W'.T a → H' a = some (.ins C dx2 fs) → H' dx2 = some (.own a) → RepF K W' fs es → Dq es → Q .non H') ∧ ∀ C2 d x W' H', Ext W W' → Ok W' H' → RepX K W' C2 d x → De x → E C2 d H'
theorem notOwned_none {W : Wd} {H : Hp} {a : Addr} (n : H a = none) : ¬ Owned W H a := fun o => by
  cases o with
  | here s t e m => rw [n] at e; cases e
  | dict o e => rw [n] at e; cases e
theorem made_frm {W : Wd} {H0 : Hp} {a dx : Addr} (na : H0 a = none) (nd : H0 dx = none) (ne : dx ≠ a) : Frm (upd (upd H0 dx (.own a)) a (.ins C dx [])) (Owned W H0) := by
  have out : ∀ b, b ≠ a → b ≠ dx → upd (upd H0 dx (.own a)) a (.ins C dx []) b = H0 b := fun b h1 h2 => by rw [upd_ne h1, upd_ne h2]
  have no1 : ∀ b, Owned W H0 b → b ≠ a := fun b o z => notOwned_none na (z ▸ o)
  have no2 : ∀ b, Owned W H0 b → b ≠ dx := fun b o z => notOwned_none nd (z ▸ o)
  refine ⟨fun b o => ?_, fun x b o e => ?_⟩
  · obtain ⟨u, e, m⟩ := (Owned.frm (W := W) (H := H0)).mu b o
    exact ⟨u, by rw [out b (no1 b o) (no2 b o)]; exact e, m⟩
  · by_cases z : b = a
    · rw [z, upd_same] at e; cases e
    · rw [upd_ne z] at e
      by_cases z2 : b = dx
      · rw [z2, upd_same] at e
        cases e
        exact absurd rfl (no1 a o)
      · rw [upd_ne z2] at e
        exact .dict o e
theorem spI_less {g : SpI} {vs : List V} {H : Hp} {Q : VK} {E : XK} (h : spI K C g vs H Q E) : ∃ O : Addr → Prop, Frm H O ∧ spIB K C g vs (lessH H O) (fun v H' => (∀ b, O b → H' b = none) → Q v (joinH O H H')) (fun C d H' => (∀ b, O b → H' b = none) → E C d (joinH O H H')) := by
  obtain ⟨W, H0, ds, Dq, De, a, dx, vs', ev, eH, na, nd, ne, ok, co, rl, hg, hQ, hE⟩ := h
  have nO1 : ¬ Owned W H0 a := notOwned_none na
  have nO2 : ¬ Owned W H0 dx := notOwned_none nd
  have eL : lessH H (Owned W H0) = upd (upd (lessH H0 (Owned W H0)) dx (.own a)) a (.ins C dx []) := by
    funext b
    by_cases o : Owned W H0 b
    · rw [less_in o, upd_ne fun z => nO1 (by rw [← z]; exact o), upd_ne fun z => nO2 (by rw [← z]; exact o), less_in o]
    · rw [less_out o, eH]
      by_cases z : b = a
      · rw [z, upd_same, upd_same]
      · rw [upd_ne z, upd_ne z]
        by_cases z2 : b = dx
        · rw [z2, upd_same, upd_same]
        · rw [upd_ne z2, upd_ne z2, less_out o]
  have eJ : ∀ H', joinH (Owned W H0) H H' = joinH (Owned W H0) H0 H' := fun H' => by
    funext b
    by_cases o : Owned W H0 b
    · rw [join_in o, join_in o, eH, upd_ne fun z => nO1 (by rw [← z]; exact o), upd_ne fun z => nO2 (by rw [← z]; exact o)]
    · rw [join_out o, join_out o]
  refine ⟨Owned W H0, by rw [eH]; exact made_frm na nd ne, ?_⟩
  refine ⟨W, _, ds, Dq, De, a, dx, vs', ev, eL, less_none na, less_none nd, ne, ok_less ok, co, rl, hg, fun dx2 fs es W' H' ext ok' s t h1 h2 r q gone => ?_, fun C2 d x W' H' ext ok' r q gone => ?_⟩
  · rw [eJ]
    have n2 : ¬ Owned W H0 dx2 := fun o => by rw [gone dx2 o] at h2; cases h2
    exact hQ dx2 fs es W' _ (go_join ok ext ok' gone) s t (by rw [join_out nO1]; exact h1) (by rw [join_out n2]; exact h2) r q
  · rw [eJ]
    exact hE C2 d x W' _ (go_join ok ext ok' gone) r q
theorem fnI_of {k : Nat} {f : Addr} {fd : FuncData} {ps : List Str} {g : SpI} (F : FnG P w K mg base (L2.CX P w) k f fd ps (spIB K C g)) : FnG P w K mg base (L2.CX P w) k f fd ps (spI K C g) := by
  refine ⟨fun vs H Q E h => ?_, fun A outer s H args us vs Q E gd hr e0 hb hv h => ?_⟩
  · obtain ⟨O, F', q⟩ := spI_less h
    exact F.len _ _ _ _ q
  · obtain ⟨O, F', q⟩ := spI_less h
    refine codeAny_mono (F.run A outer s _ args us vs _ _ gd hr (Env0.less F' e0) hb hv q) fun r s' c => ?_
    exact cr_join F' e0.hok e0.frf c
def startI (N : List Str) (a C : Addr) (ds : List D) : Env' := (startD N (.non :: ds)).set 0 (.oi a C [])
theorem startD_no {N : List Str} {σ : L2.St} {ds : List D} {i : Nat} {a : Addr} (hi : HasOwn σ (startD N ds) i a) : False := by
  obtain ⟨_, e, he, ho⟩ := hi
  unfold startD at he
  by_cases lt : i < ds.length
  · rw [List.getElem?_append_left (by simpa using lt), List.getElem?_map, List.getElem?_eq_getElem lt] at he
    cases he
    cases ho
  · rw [List.getElem?_append_right (by simpa using lt), List.getElem?_replicate] at he
    split at he
    · cases he; cases ho
    · cases he
theorem made_ok {W : Wd} {H0 : Hp} {a dx : Addr} (ok : Ok W H0) (na : H0 a = none) (nd : H0 dx = none) (ne : dx ≠ a) : Ok W (upd (upd H0 dx (.own a)) a (.ins C dx [])) := by
  have out : ∀ b u, H0 b = some u → upd (upd H0 dx (.own a)) a (.ins C dx []) b = some u := fun b u e => by
    have h1 : b ≠ a := fun z => by rw [z, na] at e; cases e
    have h2 : b ≠ dx := fun z => by rw [z, nd] at e; cases e
    rw [upd_ne h1, upd_ne h2]; exact e
  refine ⟨fun b u e => out b u (ok.le b u e), fun l t => ?_, ok.own, fun b x e => ?_⟩
  · obtain ⟨s, x, y, z, q⟩ := ok.st l t
    exact ⟨s, x, y, z, out l _ q⟩
  · by_cases z : b = a
    · rw [z, upd_same] at e; cases e
    · rw [upd_ne z] at e
      by_cases z2 : b = dx
      · rw [z2, upd_same] at e
        cases e
        exact ⟨C, dx, [], upd_same⟩
      · rw [upd_ne z2] at e
        obtain ⟨C2, dx2, fs2, q⟩ := ok.dic b x e
        exact ⟨C2, dx2, fs2, out x _ q⟩
/-- THE RULE for an __init__ -/
theorem okI {x qual : Str} {params : Arguments} {body : List Stmt} {scope : Scope} {dvs : List V} {kws : List (Str × V)} {f : Addr} {fd : FuncData} {N ps : List Str} {k : Nat} {g : SpI} (F : FunD K x qual params body scope dvs kws f fd) (S : FnScope N ps scope) (hN : ps.length ≤ N.length) (len : ∀ ds Q De, g ds Q De → ds.length + 1 = ps.length)
    (hbody : ∀ (a : Addr) (cdv : Value) (A : Around) (outer : List Env) (s : Shared) (H : Hp) (E : XK) (De : Xn → Prop), (A.deeper (envOfC qual scope s.heap.objs.size f cdv)).guards = some [] → Room k (A.deeper (envOfC qual scope s.heap.objs.size f cdv)) →
      ∃ gb, DSs (cxOf (L2.CX P w) P w K mg base N qual scope f cdv A outer s H E) ⟨K, E, De⟩ body gb ∧ ∀ ds Dq, g ds Dq De → gb { nx := fun ρ => ∃ es, ρ[0]? = some (.oi a C es) ∧ Dq es, rt := fun _ => False } (startI N a C ds)) : FnG P w K mg base (L2.CX P w) (k + 1) f fd ps (spI K C g) := by
  refine fnI_of ?_
  obtain ⟨oc, od, dV, kV, doc, pm, an, cdv, ct, osl, rfl, lk, hcd, _, _⟩ := F.ex
  have lenB : ∀ vs H Q E, spIB K C g vs H Q E → vs.length = ps.length := fun vs H Q E h => by
    obtain ⟨W, H0, ds, Dq, De, a, dx, vs', ev, eH, na, nd, ne, ok, co, rl, hg, _⟩ := h
    rw [ev, List.length_cons, rl.len]
    exact len ds Dq De hg
  constructor
  · exact lenB
  · intro A outer s H args us vs Q E gd room env0 bnd rel prom
    have inK : K.In s.heap := env0.mod.kin.keeps fun a u q => (env0.bs a u q).1
    have noLim : s.heap.NoLimit := env0.mod.nolimit.keeps fun a u q => (env0.bs a u q).1
    have count := lenB vs H Q E prom
    have kinds : ∀ y ∈ ps.zip us, scope.names.lookup y.1 = some .local ∨ (scope.names.lookup y.1 = some .cell ∧
        ((cellsFrom (s.heap.objs.size + 1) scope.names []).lookup y.1).isSome = true) := by
      rintro ⟨y, u⟩ mem
      cases S.par y (List.of_mem_zip mem).1 with
      | inl q => exact Or.inl q
      | inr q => exact Or.inr ⟨q, PySem.W.cellsFrom_some _ _ _ (Or.inl q)⟩
    apply codeAny_call_function room.depth (inK _ _ lk) rfl S.co S.gen rfl (PySem.W.codeRec_of inK hcd)
    apply bnd
    apply wpAny_newFunctionEnv_cells S.kind kinds
    intro env henv s1 ic
    subst henv
    refine And.intro (noLim.keeps ic.toInCall.keep) (codeAny_func ?_)
    obtain ⟨W, H0, ds, Dq, De, a, dx, vs', rfl, rfl, na, nd, ne, ok, co, rl, hg, hQ, hE⟩ := prom
    obtain ⟨gb, ⟨t, body, sv⟩, goal⟩ := hbody a cdv A outer s (upd (upd H0 dx (.own a)) a (.ins C dx [])) E De gd (room.deeper _)
    have inv := inv_start (CX := L2.CX P w) (P := P) (w := w) (K := K) (mg := mg) (base := base) (f := f) (E := E) S room.hd env0 count rel ic
    have ok1 := made_ok (C := C) ok na nd ne
    have gn := ok.gone na
    have en0 : EnvOk K W W (upd (upd H0 dx (.own a)) a (.ins C dx [])) (L2.start N (.non :: vs')) (startD N (.non :: ds)) := start_env ok1 (.cons .non rl) (by rw [← count] at hN; exact hN)
    have en1 : EnvOk K W W (upd (upd H0 dx (.own a)) a (.ins C dx [])) ((L2.start N (.non :: vs')).set 0 (some (.ref a))) (startI N a C ds) := en0.setO (G := H0) (i := 0) (e := .oi a C []) (fun j hj => startD_no hj) ⟨co, dx, [], rfl, gn.1, gn.2, upd_same, by rw [upd_ne ne, upd_same], .nil⟩
    have es : (L2.start N (.non :: vs')).set 0 (some (.ref a)) = L2.start N (.ref a :: vs') := rfl
    rw [es] at en1
    have read := sv.run (W0 := W) (D := { nx := fun _ H' => Q .non H', rt := Q }) (fun C dx x W' H' ext ok' rx q => hE C dx x W' H' ext ok' rx q) en1 (goal ds Dq hg)
      ⟨fun σ ρ W' H' en ⟨es, e0, q⟩ => by
        obtain ⟨_, dx2, fs, ea, s1, t1, h1, hd1, r⟩ := en.slot 0 _ e0
        exact hQ dx2 fs es W' H' en.ext en.ok s1 t1 h1 hd1 r q, fun v d W' H' ext ok' r q => q.elim, fun _ _ _ _ _ q => q.elim, fun _ _ _ _ _ q => q.elim⟩
    apply wpAny_mono (body.run [] s1 (L2.start N (.ref a :: vs')) _ _ inv read)
    · intro fl s2 said
      cases fl with
      | ret u =>
        obtain ⟨v, σ2, H2, J, rv, q⟩ := said
        exact ⟨v, H2, J.os, J.bare, J.base, J.hok, rv, q⟩
      | next =>
        obtain ⟨σ2, H2, J, q⟩ := said
        exact ⟨V.non, H2, J.os, J.bare, J.base, J.hok, rfl, q⟩
      | brk =>
        obtain ⟨_, _, _, q⟩ := said
        exact q.elim
      | cont =>
        obtain ⟨_, _, _, q⟩ := said
        exact q.elim
    · intro e s2 said
      exact said
end
end DL

set_option Elab.async false
set_option linter.all false
set_option maxRecDepth 100000
set_option maxHeartbeats 2000000
/-! The making of an instance. -/
namespace DL
open PySem PySem.Spec PyProof.Rows L2 LW RZ
section
variable {X : Cx} {CX : CXT} {k n : Nat} {f C : Addr} {fd : FuncData} {ps ks : List Str} {sp : Sp} {E : XK} {x : Str} {p pos : Pos} {e : Expr} {es : List Expr} {kws : List Keyword} {t tk : TA} {g : List Value → List Value → List Value} {gV : List V → List V → List V} {dvs : List V} {ds : List Value}
theorem run_makeG {pins : List (Addr × Obj)} {σ : L2.St} {H : Hp} {s : Shared} {Q : VK} {us : List Value} {vs : List V} (M : Mk X.K C f) (F : FnG X.prog X.w X.K X.mg X.base CX k f fd ps sp) (hgd : X.A.guards = some []) (hr : Room (k + 1) X.A) (hb : Binds X.K fd ps ds) (hd : Vals dvs ds)
    (hx : Passes CX X E) (I : Inv X pins σ H s) (r : Vals vs us)
    (h : ∀ x dx, H x = none → H dx = none → dx ≠ x → sp (.ref x :: (vs ++ dvs)) (upd (upd H dx (.own x)) x (.ins C dx [])) (fun v H2 => v = .non ∧ Q (.ref x) H2) E) :
    wpAny (model X.prog X.w) X.A (call (.ref C) us) (EP X pins σ Q) X.xe s := by
  have hq := h (s.heap.objs.size + 1) s.heap.objs.size (I.hok.fresh (Nat.le_succ _)) (I.hok.fresh (Nat.le_refl _)) (Nat.ne_of_lt (Nat.lt_succ_self _))
  have I2 := Inv.made (C := C) I
  have r2 : Vals (V.ref (s.heap.objs.size + 1) :: (vs ++ dvs)) (Value.ref (s.heap.objs.size + 1) :: (us ++ ds)) := .cons rfl (r.append hd)
  have hl : (Value.ref (s.heap.objs.size + 1) :: us ++ ds).length = ps.length := by
    have e := r2.length
    rw [F.len _ _ _ _ hq] at e
    exact e.symm
  refine wpAny_call (make_map (f := f) I.kIn M.makes M.init (beq_iff_eq.mp M.fn) (codeAny_mono (F.run _ X.stack _ _ ⟨Value.ref (s.heap.objs.size + 1) :: us, []⟩ (Value.ref (s.heap.objs.size + 1) :: (us ++ ds)) _ _ E (by exact hgd) (hr.make C us [])
    (I2.env0.make C us []) (hb _ (Value.ref (s.heap.objs.size + 1) :: us) I2.kIn hl) r2 hq) fun r s' hq' => ?_))
  cases r with
  | error e => exact hx pins σ _ _ e s' I2 hq'
  | ok fl =>
    cases fl with
    | ret u =>
      obtain ⟨v, H', I3, rv, ev, q3⟩ := I2.after hq'
      subst ev
      exact ⟨rv, ⟨V.ref (s.heap.objs.size + 1), H', I3, rfl, q3⟩⟩
    | next => exact False.elim hq'
    | brk => exact False.elim hq'
    | cont => exact False.elim hq'
theorem pe_makeG (M : Mk X.K C f) (F : FnG X.prog X.w X.K X.mg X.base CX k f fd ps sp) (hgd : X.A.guards = some []) (hr : Room (k + 1) X.A) (hg : Gl X x) (hm : X.mg x = some (.ref C)) (hb : Binds X.K fd ps ds) (hd : Vals dvs ds) (hx : Passes CX X E)
    (ha : PA X (e :: es) t) (hdb : (x == ("__debug__" : Str)) = false := by decide) (he : starEach (e :: es) X.env = (false, eval e X.env) :: starEach es X.env := by rfl) (hpl : (backTo pos (starEach es X.env)).any (·.1) = false := by rfl) :
    PE X (.Call (.Name x p) (e :: es) [] pos) (tMake C sp dvs E t) := by
  refine ⟨fun pins s σ H Q I h => ?_⟩
  refine wpAny_Call_Name_kw (ld_glob I hg hm ?_ hdb)
  refine PySem.W.callWith_K (h₀ := X.base) I.ok.mod.kin M.kp (thn (ha.run pos pins s σ H _ I h) fun us s1 ⟨vs, H1, I1, r, q⟩ => ⟨I1.kIn, ?_⟩) he hpl
  exact run_makeG M F hgd hr hb hd hx I1 r q
theorem run_makeKG {pins : List (Addr × Obj)} {σ : L2.St} {H : Hp} {s : Shared} {Q : VK} {us ws : List Value} {vs zs : List V} (M : Mk X.K C f) (F : FnG X.prog X.w X.K X.mg X.base CX k f fd ps sp) (hgd : X.A.guards = some []) (hr : Room (k + 1) X.A) (hb : KBn X.K fd ps (n + 1) ks g gV) (hx : Passes CX X E)
    (I : Inv X pins σ H s) (r : Vals vs us) (rz : Vals zs ws) (l1 : vs.length = n) (l2 : zs.length = ks.length)
    (h : ∀ x dx, H x = none → H dx = none → dx ≠ x → sp (gV (.ref x :: vs) zs) (upd (upd H dx (.own x)) x (.ins C dx [])) (fun v H2 => v = .non ∧ Q (.ref x) H2) E) :
    wpAny (model X.prog X.w) X.A (call (.ref C) us (ks.zip ws)) (EP X pins σ Q) X.xe s := by
  have hq := h (s.heap.objs.size + 1) s.heap.objs.size (I.hok.fresh (Nat.le_succ _)) (I.hok.fresh (Nat.le_refl _)) (Nat.ne_of_lt (Nat.lt_succ_self _))
  have I2 := Inv.made (C := C) I
  have r1 : Vals (V.ref (s.heap.objs.size + 1) :: vs) (Value.ref (s.heap.objs.size + 1) :: us) := .cons rfl r
  have r2 := hb.rel r1 rz
  have n1 : (Value.ref (s.heap.objs.size + 1) :: us).length = n + 1 := by
    rw [List.length_cons, ← r.length, l1]
  refine wpAny_call (make_map (f := f) I.kIn M.makes M.init (beq_iff_eq.mp M.fn) (codeAny_mono (F.run _ X.stack _ _ ⟨Value.ref (s.heap.objs.size + 1) :: us, ks.zip ws⟩ (g (Value.ref (s.heap.objs.size + 1) :: us) ws) _ _ E (by exact hgd) (hr.make C us (ks.zip ws))
    (I2.env0.make C us (ks.zip ws)) (hb.to _ (Value.ref (s.heap.objs.size + 1) :: us) ws I2.kIn n1 (rz.length.symm.trans l2)) r2 hq) fun r s' hq' => ?_))
  cases r with
  | error e => exact hx pins σ _ _ e s' I2 hq'
  | ok fl =>
    cases fl with
    | ret u =>
      obtain ⟨v, H', I3, rv, ev, q3⟩ := I2.after hq'
      subst ev
      exact ⟨rv, ⟨V.ref (s.heap.objs.size + 1), H', I3, rfl, q3⟩⟩
    | next => exact False.elim hq'
    | brk => exact False.elim hq'
    | cont => exact False.elim hq'
theorem pe_makeKG (M : Mk X.K C f) (F : FnG X.prog X.w X.K X.mg X.base CX k f fd ps sp) (hgd : X.A.guards = some []) (hr : Room (k + 1) X.A) (hg : Gl X x) (hm : X.mg x = some (.ref C)) (hb : KBn X.K fd ps (n + 1) ks g gV) (hx : Passes CX X E) (ha : PA X (e :: es) t) (hkw : PK X kws tk)
    (hall : (backToKw pos (keywordEach kws X.env)).all (·.1.isSome) = true := by rfl) (hks : (backToKw pos (keywordEach kws X.env)).filterMap (·.1) = ks := by rfl) (hdb : (x == ("__debug__" : Str)) = false := by decide)
    (he : starEach (e :: es) X.env = (false, eval e X.env) :: starEach es X.env := by rfl) (hpl : ((backTo pos (starEach (e :: es) X.env)).any (·.1) || (backToKw pos (keywordEach kws X.env)).any (·.1.isNone)) = false := by rfl) :
    PE X (.Call (.Name x p) (e :: es) kws pos) (tMakeK C n ks.length sp gV E t tk) := by
  refine ⟨fun pins s σ H Q I h => ?_⟩
  refine wpAny_Call_Name_kw (ld_glob I hg hm ?_ hdb)
  refine PySem.W.callWith_KW (h₀ := X.base) I.ok.mod.kin M.kp hall (thn (ha.run pos pins s σ H _ I h) fun us s1 ⟨vs, H1, I1, r, q⟩ => ?_) hpl he
  refine thn (hkw.run pos pins s1 σ H1 _ I1 q) fun ws s2 ⟨zs, H2, I2, rz, l1, l2, q2⟩ => ⟨I2.kIn, ?_⟩
  rw [hks]
  exact run_makeKG M F hgd hr hb hx I2 r rz l1 l2 q2
end
/-! ### over data -/
section
variable {P : Program} {w : World} {K : PySem.W.Frag} {mg : Str → Option Value} {base : Heap}
/-- the class x as its makers know it; B: what is known of the binding of its __init__ -/
def Ini (P : Program) (w : World) (K : PySem.W.Frag) (mg : Str → Option Value) (base : Heap) (x : Str) (C : Addr) (k : Nat) (ps : List Str) (B : FuncData → Prop) (g : SpI) : Prop :=
  ∃ f fd, FnG P w K mg base (L2.CX P w) k f fd ps (spI K C g) ∧ Mk K C f ∧ ClsOk K C ∧ mg x = some (.ref C) ∧ B fd
end
section
variable {X : Cx} {c : Cn} {k j n : Nat} {C : Addr} {ps ks : List Str} {B : FuncData → Prop} {g : SpI} {x : Str} {p pos : Pos} {e : Expr} {es : List Expr} {kws : List Keyword} {fa fk : DTA}
def DK (X : Cx) (c : Cn) (kws : List Keyword) (f : DTA) : Prop := ∃ ta, PK X kws ta ∧ Av c ta f
def dNilA : DTA := fun _ Q => Q []
def dConsA (f : DTE) (g : DTA) : DTA := fun ρ Q => f ρ fun d => g ρ fun ds => Q (d :: ds)
theorem Av.nil : Av c tNil dNilA := ⟨fun _ en q k => k [] [] _ _ (Go.refl en.ok) .nil q⟩
theorem Av.cons {te : TE} {ta : TA} {f : DTE} {g : DTA} (h1 : Ev c te f) (h2 : Av c ta g) : Av c (tCons te ta) (dConsA f g) :=
  ⟨fun {W0 W H σ ρ Q Dq} eo en q k => h1.run eo en q fun v d W1 H1 g1 r1 q1 => h2.run eo (en.go g1) q1 fun vs ds W2 H2 g2 r2 q2 => k (v :: vs) (d :: ds) W2 H2 (g1.trans g2) (.cons (r1.mono g2.ext) r2) q2⟩
theorem dk_nil : DK X c [] dNilA := ⟨_, pk_nil, Av.nil⟩
theorem dk_cons {nm : Option Str} {kpos : Pos} {f : DTE} (h1 : DE X c e f) (h2 : DK X c kws fk) : DK X c (⟨nm, e, kpos⟩ :: kws) (dConsA f fk) := by
  obtain ⟨te, pe, ve⟩ := h1
  obtain ⟨ta, pa, va⟩ := h2
  exact ⟨_, pk_cons pe pa, Av.cons ve va⟩
/-- what a maker sees of the new instance: as a new object that nobody holds -/
theorem made_new {W : Wd} {H : Hp} {De : Xn → Prop} {ds : List D} {vs' : List V} {a dx : Addr} {Q : VK} {E : XK} {W0 : Wd} {Dq : Ent → Prop} (eo : (Cn.mk c.K E De).Eok W0) (ok : Ok W H) (ext : Ext W0 W) (na : H a = none) (nd : H dx = none) (ne : dx ≠ a) (co : ClsOk c.K C) (rl : RepL c.K W vs' ds)
    (hg : g ds (fun es => ∀ a, Dq (.oi a C es)) De) (k : ∀ a e W' H', ¬ Owned W H a → Go W H W' H' → e.own = true → SlotOk c.K W' H' (some (some (.ref a))) e → Dq e → Q (.ref a) H') :
    spI c.K C g (.ref a :: vs') (upd (upd H dx (.own a)) a (.ins C dx [])) (fun v H2 => v = .non ∧ Q (.ref a) H2) E := by
  refine ⟨W, H, ds, _, De, a, dx, vs', rfl, rfl, na, nd, ne, ok, co, rl, hg, fun dx2 fs es W' H' gg s t h1 h2 r q => ⟨rfl, k a (.oi a C es) W' H' (notOwned_none na) gg rfl ⟨co, dx2, fs, rfl, s, t, h1, h2, r⟩ (q a)⟩, fun C2 d x W' H' gg rx q => eo C2 d x W' H' (ext.trans gg.ext) gg.ok rx q⟩
def fMake (De : Xn → Prop) (C : Addr) (g : SpI) (dds : List D) (fa : DTA) : Env' → (Ent → Prop) → Prop := fun ρ Q => fa ρ fun ds => g (ds ++ dds) (fun es => ∀ a, Q (.oi a C es)) De
/-- C(e, ..) -/
theorem df_make {dvs : List V} {dds : List D} (I : Ini X.prog X.w X.K X.mg X.base x C k ps B g) (hB : ∀ fd, B fd → ∃ ds, Vals dvs ds ∧ Binds X.K fd ps ds) (hD : ∀ W, RepL X.K W dvs dds) (hgd : X.A.guards = some []) (hr : Room j X.A) (hj : k + 1 ≤ j) (hg : Gl X x) (hx : Passes (L2.CX X.prog X.w) X c.E)
    (ha : DA X c (e :: es) fa) (hK : X.K = c.K := by rfl) (hdb : (x == ("__debug__" : Str)) = false := by decide) (he : starEach (e :: es) X.env = (false, eval e X.env) :: starEach es X.env := by rfl) (hpl : (backTo pos (starEach es X.env)).any (·.1) = false := by rfl) :
    DF X c (.Call (.Name x p) (e :: es) [] pos) (fMake c.De C g dds fa) := by
  obtain ⟨f, fd, F, M, co, hm, b⟩ := I
  obtain ⟨ds, hv, hb⟩ := hB fd b
  obtain ⟨ta, pa, va⟩ := ha
  refine ⟨_, pe_makeG (E := c.E) M F hgd (hr.mono hj) hg hm hb hv hx pa hdb he hpl, ⟨fun {W0 W H σ ρ Q Dq} eo en q k => ?_⟩⟩
  refine va.run eo en q fun vs ds W1 H1 g1 r1 q1 a dx na nd ne => ?_
  rw [hK] at co ⊢
  refine made_new (c := c) (De := c.De) (W0 := W0) eo g1.ok (en.ext.trans g1.ext) na nd ne co (r1.app (by rw [← hK]; exact hD W1)) q1 fun a e W' H' no g2 ow so q => k a e W' H' (fun o => no (g1.owned o)) (g1.trans g2) ow so q
def fMakeK (De : Xn → Prop) (C : Addr) (n m : Nat) (g : SpI) (gD : List D → List D → List D) (fa fk : DTA) : Env' → (Ent → Prop) → Prop :=
  fun ρ Q => fa ρ fun ds => fk ρ fun zs => ds.length = n ∧ zs.length = m ∧ g (gD ds zs) (fun es => ∀ a, Q (.oi a C es)) De
/-- C(e, .., k = v, ..) -/
theorem df_makeK {gV : List V → List V → List V} {gD : List D → List D → List D} (I : Ini X.prog X.w X.K X.mg X.base x C k ps B g) (hB : ∀ fd, B fd → ∃ g', KBn X.K fd ps (n + 1) ks g' gV)
    (hD : ∀ (W : Wd) (a : Addr) (vs zs : List V) (ds es : List D), RepL X.K W vs ds → RepL X.K W zs es → ∃ us, gV (.ref a :: vs) zs = .ref a :: us ∧ RepL X.K W us (gD ds es)) (hgd : X.A.guards = some []) (hr : Room j X.A) (hj : k + 1 ≤ j) (hg : Gl X x) (hx : Passes (L2.CX X.prog X.w) X c.E)
    (ha : DA X c (e :: es) fa) (hkw : DK X c kws fk) (hK : X.K = c.K := by rfl) (hall : (backToKw pos (keywordEach kws X.env)).all (·.1.isSome) = true := by rfl) (hks : (backToKw pos (keywordEach kws X.env)).filterMap (·.1) = ks := by rfl) (hdb : (x == ("__debug__" : Str)) = false := by decide)
    (he : starEach (e :: es) X.env = (false, eval e X.env) :: starEach es X.env := by rfl) (hpl : ((backTo pos (starEach (e :: es) X.env)).any (·.1) || (backToKw pos (keywordEach kws X.env)).any (·.1.isNone)) = false := by rfl) :
    DF X c (.Call (.Name x p) (e :: es) kws pos) (fMakeK c.De C n ks.length g gD fa fk) := by
  obtain ⟨f, fd, F, M, co, hm, b⟩ := I
  obtain ⟨g', hb⟩ := hB fd b
  obtain ⟨ta, pa, va⟩ := ha
  obtain ⟨tk, pk, vk⟩ := hkw
  refine ⟨_, pe_makeKG (E := c.E) M F hgd (hr.mono hj) hg hm hb hx pa pk hall hks hdb he hpl, ⟨fun {W0 W H σ ρ Q Dq} eo en q k => ?_⟩⟩
  refine va.run eo en q fun vs ds W1 H1 g1 r1 q1 => vk.run eo (en.go g1) q1 fun zs es W2 H2 g2 r2 q2 => ⟨by rw [r1.len]; exact q2.1, by rw [r2.len]; exact q2.2.1, fun a dx na nd ne => ?_⟩
  obtain ⟨us, eu, ru⟩ := hD W2 a vs zs ds es (by rw [hK]; exact r1.mono g2.ext) (by rw [hK]; exact r2)
  rw [eu]
  rw [hK] at co ru ⊢
  refine made_new (c := c) (De := c.De) (W0 := W0) eo g2.ok ((en.ext.trans g1.ext).trans g2.ext) na nd ne co ru q2.2.2 fun a e W' H' no g3 ow so q => k a e W' H' (fun o => no (g2.owned (g1.owned o))) ((g1.trans g2).trans g3) ow so q
end
end DL

set_option Elab.async false
set_option linter.all false
set_option maxRecDepth 100000
set_option maxHeartbeats 2000000
/-! len, in, ==, !=, str of instances of own classes. -/
namespace PySem.W
open PySem PySem.Calls PyProof.Rows Builtin
section
variable {prog : Program} {w : World} {A : Around} {E : Value → Shared → Prop} {s : Shared} {K : Frag} {x C L f : Addr} {h₀ : Heap} {m : Str → Option Value} {ox : Obj} {od : Option Obj} {b tb : Value}
theorem ifBound_B {M : Model} {args : List Value} {Q : Option Value → Shared → Prop} {name : Str} {id : String} (X : K.In s.heap) (I : InstAt s.heap x ox C od) (hs : findIn K (.ref C) name = some (some (.builtin id))) (hb : ∀ self, bindSpecial (.builtin id) self = pure (.builtin id, [self]))
    (h : wpAny M A (call (.builtin id) (.ref x :: args)) (fun v => Q (some v)) E s) : wpAny M A (callSpecialIfBound? (.ref x) name args) Q E s := by
  simp only [callSpecialIfBound?, bindSpecialIfBound?]
  refine wpAny_holding (wpAny_bind (wpAny_bind (wpAny_bind (I.type.here ((looks_findIn X hs).here ?_)))))
  simp only [hb]
  refine wpAny_bind (wpAny_askSetting (wpAny_ite ?_))
  have fin : wpAny M A (call (.builtin id) ([.ref x] ++ args) >>= fun v => pure (some v)) Q E s := wpAny_bind (wpAny_mono h (fun v s' h' => wpAny_pure h') fun _ _ h' => h')
  split
  · exact wpAny_bind (wpAny_pure (wpAny_pure (by exact fin)))
  · exact wpAny_tryCatch (wpAny_bind (wpAny_pure (wpAny_pure (by exact fin))))
theorem ne_K {Q : Value → Shared → Prop} (hu : A.units < cLine) (hu1 : A.in1.units < cLine) (X : K.In s.heap) (I : InstAt s.heap x ox C od) (hb : Looks (model prog w) s.heap (typeOf b) tb) (hn : notFirst K C tb = true)
    (hs : findIn K (.ref C) "__ne__" = some (some (.builtin "object.__ne__"))) (he : findIn K (.ref C) "__eq__" = some (some (.ref f))) (hf : isFn K (.ref f) = true) (hm : mroIn K C (.type "object") = some true)
    (h : wpAny (model prog w) A.in1 (call (.ref f) [.ref x, b]) (fun v s' => ∃ r, v = .bool r ∧ Q (.bool (!r)) s') E s) : wpAny (model prog w) A (richCompare .NotEq (.ref x) b) Q E s := by
  have inst : Looks (model prog w) s.heap (isInstance (.ref x) (.type "object")) true := I.type.andThen (looks_mroIn X hm)
  have body : wpAny (model prog w) A (call (.builtin "object.__ne__") [.ref x, b]) (fun v s' => ∃ r, v = .bool r ∧ Q (.bool r) s') E s := by
    refine wpAny_call (codeAny_call_builtin F.cmp_object.ne.plain F.cmpEntry_ne (@PySem.W.check_slot (model prog w) _ _ _ "object.__ne__" "object" "__ne__" (.ref x) [b] [] _ F.cmpKind_ne F.cmpSplit_ne inst (F.cmpArgs_ne _ _) ?_))
    unfold Builtin.«object.__ne__»
    refine wpAny_bind (m := slotArgs _ _ _) (wpAny_pure ?_)
    refine wpAny_bind (wpAny_cRoomFor hu1 ?_)
    refine wpAny_bind (ifBound_K X I he hf (wpAny_mono h (fun v s' z => ?_) fun _ _ e => e))
    obtain ⟨r, rfl, q⟩ := z
    exact wpAny_bind (wpAny_truthy_bool (wpAny_pure ⟨!r, rfl, q⟩))
  have one : wpAny (model prog w) A (tryCompare (.ref x) "__ne__" b) (fun r s' => ∃ v, r = some v ∧ Q v s') E s := by
    unfold tryCompare
    refine wpAny_bind (ifBound_B X I hs F.cmp_object.ne.bind (wpAny_mono body (fun v s' hv => ?_) fun _ _ e => e))
    obtain ⟨r, rfl, q⟩ := hv
    exact wpAny_pure ⟨_, rfl, q⟩
  unfold richCompare
  simp only [oneThing_ref]
  refine wpAny_holding (wpAny_bind (wpAny_cRoomFor hu ?_))
  refine wpAny_bind (I.type.here (wpAny_bind (hb.here ?_)))
  split
  · rename_i q
    have e : subIn K tb (.ref C) = some false := by
      rcases Bool.or_eq_true_iff.mp hn with e | e
      · rw [beq_iff_eq.mp e] at q; simp at q
      · exact beq_iff_eq.mp e
    refine wpAny_bind ((looks_subIn X e).here ?_)
    simp only [Bool.false_eq_true, if_false]
    refine wpAny_bind (wpAny_mono one (fun r s' z => ?_) fun _ _ e => e)
    obtain ⟨v, rfl, hq⟩ := z
    exact wpAny_pure hq
  · refine wpAny_bind (wpAny_pure ?_)
    simp only [Bool.false_eq_true, if_false]
    refine wpAny_bind (wpAny_mono one (fun r s' z => ?_) fun _ _ e => e)
    obtain ⟨v, rfl, hq⟩ := z
    exact wpAny_pure hq
end
end PySem.W
namespace DL
open PySem PySem.Spec PyProof.Rows L2 LW RZ
def noX : Xn → Prop := fun _ => False
/-- C's special method nm, as its callers know it -/
def Spc (P : Program) (w : World) (K : PySem.W.Frag) (mg : Str → Option Value) (base : Heap) (C : Addr) (nm : Str) (k : Nat) (ps : List Str) (g : SpD) : Prop :=
  Cls K C ∧ ∃ f fd, PySem.W.findIn K (.ref C) nm = some (some (.ref f)) ∧ PySem.W.isFn K (.ref f) = true ∧ FnD P w K mg base k f fd ps g ∧ Binds K fd ps []
section
variable {X : Cx} {CX : CXT} {k j : Nat} {f C : Addr} {fd : FuncData} {ps : List Str} {sp : Sp} {E : XK} {K : PySem.W.Frag} {g : SpD} {c : Cn}
theorem run_at {pins : List (Addr × Obj)} {σ : L2.St} {H : Hp} {s : Shared} {Q : VK} {us : List Value} {vs : List V} {A : Around} (F : FnG X.prog X.w X.K X.mg X.base CX k f fd ps sp) (gd : A.guards = some []) (fr : A.frames = X.A.frames) (hr : Room k A) (hb : Binds X.K fd ps []) (hx : Passes CX X E)
    (I : Inv X pins σ H s) (r : Vals vs us) (h : sp vs H Q E) : wpAny (model X.prog X.w) A (call (.ref f) us) (EP X pins σ Q) X.xe s := by
  have hl : us.length = ps.length := by rw [← r.length]; exact F.len _ _ _ _ h
  have e0 : Env0 X.prog X.w X.K X.mg X.base A X.stack s H := by
    have e := I.env0
    exact ⟨by rw [fr]; exact e.frames, e.mod, e.bs, e.bsz, e.funs, e.frf, e.hok, e.bare⟩
  have bt := hb s us I.kIn (by simpa using hl)
  refine wpAny_call (codeAny_mono (F.run A X.stack s H ⟨us, []⟩ us vs Q E gd hr e0 (by simpa using bt) r h) fun r s' hq => ?_)
  cases r with
  | error e => exact hx pins σ H s e s' I hq
  | ok fl =>
    cases fl with
    | ret u => exact I.after hq
    | next => exact False.elim hq
    | brk => exact False.elim hq
    | cont => exact False.elim hq
/-- len(x) -/
def rLenO (C : Addr) (sp : Sp) : List V → Hp → VK → Prop := fun xs H Q => ∃ a dx fs, xs = [.ref a] ∧ H a = some (.ins C dx fs) ∧ sp [.ref a] H (fun v H' => ∃ n : Int, v = .int n ∧ 0 ≤ n ∧ n < 2 ^ 63 ∧ Q (.int n) H') noE
theorem call_lenO (hs : PySem.W.findIn X.K (.ref C) "__len__" = some (some (.ref f))) (hf : PySem.W.isFn X.K (.ref f) = true) (F : FnG X.prog X.w X.K X.mg X.base (L2.CX X.prog X.w) k f fd ps sp) (hgd : X.A.guards = some []) (hr : Room (k + 1) X.A) (hb : Binds X.K fd ps []) :
    CallR X (.builtin "len") (rLenO C sp) := by
  intro pins s σ H xs us Q I r h
  obtain ⟨a, dx, fs, rfl, ea, q⟩ := h
  obtain ⟨u, rfl, ru⟩ := vals1 r
  obtain rfl : u = Value.ref a := ru
  obtain ⟨mA, J, _⟩ := ins_get I.hok ea
  obtain ⟨od, J, _⟩ := J.look
  obtain ⟨m, hF⟩ := I.fr
  refine PySem.W.len_K hF I.ok.mod.kin J hs hf (wpAny_mono (run_at (A := X.A.in1) F (by exact hgd) rfl hr.in1 hb passNo I (Paired.cons (show L2.RelV (V.ref a) (Value.ref a) from rfl) .nil) q) (fun u s' z => ?_) fun _ _ e => e)
  obtain ⟨v, H', I', rv, n, rfl, n0, n1, q'⟩ := z
  obtain ⟨t, rfl⟩ := (show ∃ t, u = Value.int n t from rv)
  exact ⟨⟨n0, n1⟩, .int n, H', I'.tok _, ⟨_, rfl⟩, q'⟩
def gLenO (C : Addr) (g : SpD) : List D → (D → Prop) → Prop := fun ds Q => match ds with
  | [.obj C' fs] => C' = C ∧ g [.obj C' fs] (fun r => ∃ n : Int, r = .int n ∧ 0 ≤ n ∧ n < 2 ^ 63 ∧ Q (.int n)) noX
  | _ => False
theorem l_lenO : DCall K (rLenO C (spD K g)) (gLenO C g) := fun {W H xs ds Q Dq} ok r h k => by
  unfold gLenO at h
  split at h
  · rename_i C' fs
    cases r with
    | cons r1 r2 =>
      cases r2
      cases r1 with
      | obj co s t =>
        obtain ⟨rfl, q⟩ := h
        refine ⟨_, _, _, rfl, ok.le _ _ s, W, _, _, noX, ok, .cons (.obj co s t) .nil, q, fun v d W' H' gg rr ⟨n, e, n0, n1, q⟩ => ?_, fun _ _ _ _ _ _ _ z => z.elim⟩
        subst e
        cases rr
        exact ⟨n, rfl, n0, n1, k _ _ W' H' gg (.int n) q⟩
  · exact h.elim
/-- str(x) -/
def rStrO (C : Addr) (sp : Sp) : List V → Hp → VK → Prop := fun xs H Q => ∃ a dx fs, xs = [.ref a] ∧ H a = some (.ins C dx fs) ∧ sp [.ref a] H (fun v H' => ∃ n : Str, v = .str n ∧ Q (.str n) H') noE
theorem call_strO (hs : PySem.W.findIn X.K (.ref C) "__str__" = some (some (.ref f))) (hf : PySem.W.isFn X.K (.ref f) = true) (F : FnG X.prog X.w X.K X.mg X.base (L2.CX X.prog X.w) k f fd ps sp) (hgd : X.A.guards = some []) (hr : Room (k + 2) X.A) (hb : Binds X.K fd ps []) :
    CallR X (.type "str") (rStrO C sp) := by
  intro pins s σ H xs us Q I r h
  obtain ⟨a, dx, fs, rfl, ea, q⟩ := h
  obtain ⟨u, rfl, ru⟩ := vals1 r
  obtain rfl : u = Value.ref a := ru
  obtain ⟨mA, J, _⟩ := ins_get I.hok ea
  obtain ⟨od, J, _⟩ := J.look
  refine PySem.W.kso_call hr.in1.in1.units0 I.kIn J hs hf (wpAny_mono (run_at (A := X.A.in1.in1) F (by exact hgd) rfl hr.in1.in1 hb passNo I (Paired.cons (show L2.RelV (V.ref a) (Value.ref a) from rfl) .nil) q) (fun u s' z => ?_) fun _ _ e => e)
  obtain ⟨v, H', I', rv, n, rfl, q'⟩ := z
  obtain ⟨t, rfl⟩ := (show ∃ t, u = Value.str n t from rv)
  exact ⟨.str n, H', I', ⟨_, rfl⟩, q'⟩
def gStrO (C : Addr) (g : SpD) : List D → (D → Prop) → Prop := fun ds Q => match ds with
  | [.obj C' fs] => C' = C ∧ g [.obj C' fs] (fun r => ∃ n : Str, r = .str n ∧ Q (.str n)) noX
  | _ => False
theorem l_strO : DCall K (rStrO C (spD K g)) (gStrO C g) := fun {W H xs ds Q Dq} ok r h k => by
  unfold gStrO at h
  split at h
  · rename_i C' fs
    cases r with
    | cons r1 r2 =>
      cases r2
      cases r1 with
      | obj co s t =>
        obtain ⟨rfl, q⟩ := h
        refine ⟨_, _, _, rfl, ok.le _ _ s, W, _, _, noX, ok, .cons (.obj co s t) .nil, q, fun v d W' H' gg rr ⟨n, e, q⟩ => ?_, fun _ _ _ _ _ _ _ z => z.elim⟩
        subst e
        cases rr
        exact ⟨n, rfl, k _ _ W' H' gg (.str n) q⟩
  · exact h.elim
/-- v in x -/
def rInO (C : Addr) (sp : Sp) (f : Bool → Bool) : R2 := fun x y H Q => ∃ a dx fs, y = .ref a ∧ H a = some (.ins C dx fs) ∧ sp [.ref a, x] H (fun v H' => ∃ b : Bool, v = .bl b ∧ Q (.bl (f b)) H') noE
theorem op_inO (hs : PySem.W.findIn X.K (.ref C) "__contains__" = some (some (.ref f))) (hf : PySem.W.isFn X.K (.ref f) = true) (F : FnG X.prog X.w X.K X.mg X.base (L2.CX X.prog X.w) k f fd ps sp) (hgd : X.A.guards = some []) (hr : Room k X.A) (hb : Binds X.K fd ps []) :
    OpR X (compareOp .In) (rInO C sp id) := by
  intro pins s σ H x y v u Q I rx ry h
  obtain ⟨a, dx, fs, rfl, ea, q⟩ := h
  obtain rfl : u = Value.ref a := ry
  obtain ⟨mA, J, _⟩ := ins_get I.hok ea
  obtain ⟨od, J, _⟩ := J.look
  obtain ⟨m, hF⟩ := I.fr
  refine PySem.W.in_K hF I.ok.mod.kin J hs hf (wpAny_mono (run_at (A := X.A) F hgd rfl hr hb passNo I (Paired.cons (show L2.RelV (V.ref a) (Value.ref a) from rfl) (.cons rx .nil)) q) (fun u s' z => ?_) fun _ _ e => e)
  obtain ⟨v, H', I', rv, b, rfl, q'⟩ := z
  cases (show u = Value.bool b from rv)
  exact wpAny_truthy_bool ⟨.bl b, H', I', rfl, q'⟩
theorem op_ninO (hs : PySem.W.findIn X.K (.ref C) "__contains__" = some (some (.ref f))) (hf : PySem.W.isFn X.K (.ref f) = true) (F : FnG X.prog X.w X.K X.mg X.base (L2.CX X.prog X.w) k f fd ps sp) (hgd : X.A.guards = some []) (hr : Room k X.A) (hb : Binds X.K fd ps []) :
    OpR X (compareOp .NotIn) (rInO C sp not) := by
  intro pins s σ H x y v u Q I rx ry h
  obtain ⟨a, dx, fs, rfl, ea, q⟩ := h
  obtain rfl : u = Value.ref a := ry
  obtain ⟨mA, J, _⟩ := ins_get I.hok ea
  obtain ⟨od, J, _⟩ := J.look
  obtain ⟨m, hF⟩ := I.fr
  refine PySem.W.notIn_K hF I.ok.mod.kin J hs hf (wpAny_mono (run_at (A := X.A) F hgd rfl hr hb passNo I (Paired.cons (show L2.RelV (V.ref a) (Value.ref a) from rfl) (.cons rx .nil)) q) (fun u s' z => ?_) fun _ _ e => e)
  obtain ⟨v, H', I', rv, b, rfl, q'⟩ := z
  cases (show u = Value.bool b from rv)
  exact wpAny_truthy_bool ⟨.bl (!b), H', I', rfl, q'⟩
def gInO (C : Addr) (g : SpD) (f : Bool → Bool) : D → D → (D → Prop) → Prop := fun x y Q => match y with
  | .obj C' fs => C' = C ∧ g [.obj C' fs, x] (fun r => ∃ b : Bool, r = .bl b ∧ Q (.bl (f b))) noX
  | _ => False
theorem l_inO {f : Bool → Bool} : DOp2 K (rInO C (spD K g) f) (gInO C g f) := fun {W H x y dx dy Q Dq} ok rx ry h k => by
  cases ry with
  | obj co s t =>
    obtain ⟨rfl, q⟩ := h
    refine ⟨_, _, _, rfl, ok.le _ _ s, W, _, _, noX, ok, .cons (.obj co s t) (.cons rx .nil), q, fun v d W' H' gg rr ⟨n, e, q⟩ => ?_, fun _ _ _ _ _ _ _ z => z.elim⟩
    subst e
    cases rr
    exact ⟨n, rfl, k _ _ W' H' gg (.bl _) q⟩
  | _ => exact h.elim
/-- x == y, x != y, x an instance -/
def rEqO (K : PySem.W.Frag) (C : Addr) (sp : Sp) (f : Bool → Bool) : R2 := fun x y H Q => ∃ a dx fs t, x = .ref a ∧ H a = some (.ins C dx fs) ∧ TyZ K H y t ∧ PySem.W.notFirst K C t = true ∧ sp [.ref a, y] H (fun v H' => ∃ b : Bool, v = .bl b ∧ Q (.bl (f b)) H') noE
theorem looks_TyZ {pins : List (Addr × Obj)} {σ : L2.St} {H : Hp} {s : Shared} {x : V} {u t : Value} (I : Inv X pins σ H s) (rx : RelV x u) (ty : TyZ X.K H x t) : PySem.W.Looks (model X.prog X.w) s.heap (typeOf u) t := by
  rcases ty with ty | ⟨a, o, kvs, rfl, rfl, ea⟩
  · obtain ⟨P, Z, p, _⟩ := kit_of I rx ty
    exact Z.ty _ _ I.kIn p
  · cases (show u = Value.ref a from rx)
    obtain ⟨_, _, _, xs, _, ob, es, ep, h1, h2, _⟩ := I.hok a _ ea
    exact (PySem.W.kitx_dict (K := X.K) (a := a)).ty _ _ I.kIn ⟨ob, h1, h2.1⟩
theorem op_eqO (hs : PySem.W.findIn X.K (.ref C) "__eq__" = some (some (.ref f))) (hf : PySem.W.isFn X.K (.ref f) = true) (F : FnG X.prog X.w X.K X.mg X.base (L2.CX X.prog X.w) k f fd ps sp) (hgd : X.A.guards = some []) (hr : Room k X.A) (hb : Binds X.K fd ps []) (hK : X.K = K := by rfl) :
    OpR X (compareOp .Eq) (rEqO K C sp id) := by
  subst hK
  intro pins s σ H x y v u Q I rx ry h
  obtain ⟨a, dx, fs, t, rfl, ea, ty, nf, q⟩ := h
  obtain rfl : v = Value.ref a := rx
  obtain ⟨mA, J, _⟩ := ins_get I.hok ea
  obtain ⟨od, J, _⟩ := J.look
  obtain ⟨m, hF⟩ := I.fr
  refine PySem.W.cmp_K (op := .Eq) hr.units0 hF I.ok.mod.kin J (looks_TyZ I ry ty) nf hs hf (wpAny_mono (run_at (A := X.A) F hgd rfl hr hb passNo I (Paired.cons (show L2.RelV (V.ref a) (Value.ref a) from rfl) (.cons ry .nil)) q) (fun u s' z => ?_) fun _ _ e => e)
  obtain ⟨v, H', I', rv, b, rfl, q'⟩ := z
  cases (show u = Value.bool b from rv)
  exact ⟨.bl b, H', I', rfl, q'⟩
theorem op_neO (hn : PySem.W.findIn X.K (.ref C) "__ne__" = some (some (.builtin "object.__ne__"))) (hm : PySem.W.mroIn X.K C (.type "object") = some true) (hs : PySem.W.findIn X.K (.ref C) "__eq__" = some (some (.ref f))) (hf : PySem.W.isFn X.K (.ref f) = true) (F : FnG X.prog X.w X.K X.mg X.base (L2.CX X.prog X.w) k f fd ps sp) (hgd : X.A.guards = some []) (hr : Room (k + 1) X.A) (hb : Binds X.K fd ps []) (hK : X.K = K := by rfl) :
    OpR X (compareOp .NotEq) (rEqO K C sp not) := by
  subst hK
  intro pins s σ H x y v u Q I rx ry h
  obtain ⟨a, dx, fs, t, rfl, ea, ty, nf, q⟩ := h
  obtain rfl : v = Value.ref a := rx
  obtain ⟨mA, J, _⟩ := ins_get I.hok ea
  obtain ⟨od, J, _⟩ := J.look
  refine PySem.W.ne_K hr.units0 hr.in1.units0 I.kIn J (looks_TyZ I ry ty) nf hn hs hf hm (wpAny_mono (run_at (A := X.A.in1) F (by exact hgd) rfl hr.in1 hb passNo I (Paired.cons (show L2.RelV (V.ref a) (Value.ref a) from rfl) (.cons ry .nil)) q) (fun u s' z => ?_) fun _ _ e => e)
  obtain ⟨v, H', I', rv, b, rfl, q'⟩ := z
  cases (show u = Value.bool b from rv)
  exact ⟨b, rfl, .bl (!b), H', I', rfl, q'⟩
theorem not_first (d : D) (h : ∀ C' fs, d = .obj C' fs → C' = C) : PySem.W.notFirst K C (clsD d) = true := by
  have b : ∀ T ∈ ["NoneType", "bool", "int", "str", "list", "tuple", "dict"], PySem.W.subIn K (.type T) (.ref C) = some false := by
    intro T hT
    simp only [List.mem_cons, List.mem_nil_iff, or_false] at hT
    rcases hT with rfl | rfl | rfl | rfl | rfl | rfl | rfl <;> kernel_rfl
  cases d with
  | obj C' fs =>
    rw [h C' fs rfl]
    show PySem.W.notFirst K C (Value.ref C) = true
    simp [PySem.W.notFirst]
  | _ => simp [PySem.W.notFirst, clsD, b]
def gEqO (C : Addr) (g : SpD) (f : Bool → Bool) : D → D → (D → Prop) → Prop := fun x y Q => match x with
  | .obj C' fs => C' = C ∧ (∀ C' fs, y = .obj C' fs → C' = C) ∧ g [.obj C' fs, y] (fun r => ∃ b : Bool, r = .bl b ∧ Q (.bl (f b))) noX
  | _ => False
theorem l_eqO {f : Bool → Bool} : DOp2 K (rEqO K C (spD K g) f) (gEqO C g f) := fun {W H x y dx dy Q Dq} ok rx ry h k => by
  cases rx with
  | obj co s t =>
    obtain ⟨rfl, hy, q⟩ := h
    refine ⟨_, _, _, clsD dy, rfl, ok.le _ _ s, ry.ty ok, not_first dy hy, W, _, _, noX, ok, .cons (.obj co s t) (.cons ry .nil), q, fun v d W' H' gg rr ⟨n, e, q⟩ => ?_, fun _ _ _ _ _ _ _ z => z.elim⟩
    subst e
    cases rr
    exact ⟨n, rfl, k _ _ W' H' gg (.bl _) q⟩
  | _ => exact h.elim
end
end DL

set_option Elab.async false
set_option linter.all false
set_option maxRecDepth 100000
set_option maxHeartbeats 2000000
/-! Special methods of own classes as expressions. -/
namespace DL
open PySem PySem.Spec PyProof.Rows L2 LW RZ
section
variable {X : Cx} {c : Cn} {k j : Nat} {C : Addr} {ps : List Str} {g : SpD} {x : Str} {e a b : Expr} {es : List Expr} {fa fb : DTE} {fs : DTA} {p pos : Pos}
theorem de_lenO (S : Spc X.prog X.w X.K X.mg X.base C "__len__" k ps g) (hgd : X.A.guards = some []) (hr : Room j X.A) (hj : k + 1 ≤ j) (hg : Gl X "len") (hm : X.mg "len" = none) (ha : DA X c (e :: es) fs) (hK : X.K = c.K := by rfl)
    (he : starEach (e :: es) X.env = (false, eval e X.env) :: starEach es X.env := by rfl) (hpl : (backTo pos (starEach es X.env)).any (·.1) = false := by rfl) : DE X c (.Call (.Name "len" p) (e :: es) [] pos) (dCall (gLenO C g) fs) := by
  obtain ⟨cl, f, fd, h1, h2, F, hb⟩ := S
  exact de_callB (call_lenO h1 h2 F hgd (hr.mono hj) hb) (by rw [← hK]; exact l_lenO) hg hm (by decide +kernel) ha (he := he) (hpl := hpl)
theorem de_strO (S : Spc X.prog X.w X.K X.mg X.base C "__str__" k ps g) (hgd : X.A.guards = some []) (hr : Room j X.A) (hj : k + 2 ≤ j) (hg : Gl X "str") (hm : X.mg "str" = none) (ha : DA X c (e :: es) fs) (hK : X.K = c.K := by rfl)
    (he : starEach (e :: es) X.env = (false, eval e X.env) :: starEach es X.env := by rfl) (hpl : (backTo pos (starEach es X.env)).any (·.1) = false := by rfl) : DE X c (.Call (.Name "str" p) (e :: es) [] pos) (dCall (gStrO C g) fs) := by
  obtain ⟨cl, f, fd, h1, h2, F, hb⟩ := S
  exact de_callTy (call_strO h1 h2 F hgd (hr.mono hj) hb) (by rw [← hK]; exact l_strO) hg hm (by decide +kernel) ha (he := he) (hpl := hpl)
theorem de_inO (S : Spc X.prog X.w X.K X.mg X.base C "__contains__" k ps g) (hgd : X.A.guards = some []) (hr : Room j X.A) (hj : k ≤ j) (ha : DE X c a fa) (hb' : DE X c b fb) (hK : X.K = c.K := by rfl) (hm : behindInMarks .In b = false := by rfl) : DE X c (.Compare a [.In] [b] pos) (dOp (gInO C g id) fa fb) := by
  obtain ⟨cl, f, fd, h1, h2, F, hb⟩ := S
  exact de_cmp (op_inO h1 h2 F hgd (hr.mono hj) hb) (by rw [← hK]; exact l_inO) ha hb' hm
theorem de_ninO (S : Spc X.prog X.w X.K X.mg X.base C "__contains__" k ps g) (hgd : X.A.guards = some []) (hr : Room j X.A) (hj : k ≤ j) (ha : DE X c a fa) (hb' : DE X c b fb) (hK : X.K = c.K := by rfl) (hm : behindInMarks .NotIn b = false := by rfl) : DE X c (.Compare a [.NotIn] [b] pos) (dOp (gInO C g not) fa fb) := by
  obtain ⟨cl, f, fd, h1, h2, F, hb⟩ := S
  exact de_cmp (op_ninO h1 h2 F hgd (hr.mono hj) hb) (by rw [← hK]; exact l_inO) ha hb' hm
theorem de_eqO (S : Spc X.prog X.w X.K X.mg X.base C "__eq__" k ps g) (hgd : X.A.guards = some []) (hr : Room j X.A) (hj : k ≤ j) (ha : DE X c a fa) (hb' : DE X c b fb) (hK : X.K = c.K := by rfl) : DE X c (.Compare a [.Eq] [b] pos) (dOp (gEqO C g id) fa fb) := by
  obtain ⟨cl, f, fd, h1, h2, F, hb⟩ := S
  exact de_cmp (op_eqO h1 h2 F hgd (hr.mono hj) hb) (by rw [← hK]; exact l_eqO) ha hb' (nomark _)
theorem de_neO (S : Spc X.prog X.w X.K X.mg X.base C "__eq__" k ps g) (co : ClsOk X.K C) (hn : PySem.W.findIn X.K (.ref C) "__ne__" = some (some (.builtin "object.__ne__"))) (hgd : X.A.guards = some []) (hr : Room j X.A) (hj : k + 1 ≤ j) (ha : DE X c a fa) (hb' : DE X c b fb) (hK : X.K = c.K := by rfl) :
    DE X c (.Compare a [.NotEq] [b] pos) (dOp (gEqO C g not) fa fb) := by
  obtain ⟨cl, f, fd, h1, h2, F, hb⟩ := S
  exact de_cmp (op_neO hn co.hm h1 h2 F hgd (hr.mono hj) hb) (by rw [← hK]; exact l_eqO) ha hb' (nomark _)
end
end DL

set_option Elab.async false
set_option linter.all false
set_option maxRecDepth 100000
set_option maxHeartbeats 2000000
/-! Sets whose members are told by a key (texts, first of all): a set IS the list of its members in any order, no two alike. -/
namespace LS
open PySem PySem.Spec PyProof.Rows L2
/-- the list with one more, if it is not there -/
def ins {K : Type} [DecidableEq K] (k : K) (L : List K) : List K := if k ∈ L then L else k :: L
/-- all of them, one after another, into L -/
def insAll {K : Type} [DecidableEq K] : List K → List K → List K
  | [], L => L
  | k :: ks, L => insAll ks (ins k L)
section
variable {K : Type} [DecidableEq K]
theorem ins_nodup {k : K} {L : List K} (h : L.Nodup) : (ins k L).Nodup := by
  unfold ins
  split
  · exact h
  · exact List.nodup_cons.mpr ⟨by assumption, h⟩
theorem mem_ins {k x : K} {L : List K} : x ∈ ins k L ↔ x = k ∨ x ∈ L := by
  unfold ins
  split
  · exact ⟨.inr, fun h => h.elim (fun e => by rw [e]; assumption) id⟩
  · exact List.mem_cons
theorem ins_len {k : K} {L : List K} : (ins k L).length ≤ L.length + 1 := by
  unfold ins
  split
  · exact Nat.le_succ _
  · exact Nat.le_refl _
theorem mem_insAll {x : K} : ∀ {ks L : List K}, x ∈ insAll ks L ↔ x ∈ ks ∨ x ∈ L
  | [], L => by simp [insAll]
  | k :: ks, L => by
    rw [insAll, mem_insAll, mem_ins, List.mem_cons]
    constructor
    · rintro (h | h | h)
      · exact .inl (.inr h)
      · exact .inl (.inl h)
      · exact .inr h
    · rintro ((h | h) | h)
      · exact .inr (.inl h)
      · exact .inl h
      · exact .inr (.inr h)
theorem insAll_len : ∀ {ks L : List K}, (insAll ks L).length ≤ ks.length + L.length
  | [], L => by simp [insAll]
  | k :: ks, L => by
    have h := insAll_len (ks := ks) (L := ins k L)
    have h2 := ins_len (k := k) (L := L)
    rw [insAll, List.length_cons]
    omega
theorem insAll_nodup : ∀ {ks L : List K}, L.Nodup → (insAll ks L).Nodup
  | [], _, h => h
  | k :: ks, L, h => insAll_nodup (ks := ks) (ins_nodup h)
theorem insAll_app : ∀ {ks ls L : List K}, insAll (ks ++ ls) L = insAll ls (insAll ks L)
  | [], _, _ => rfl
  | k :: ks, ls, L => by rw [List.cons_append, insAll, insAll, insAll_app]
end

/-- tells the key of a value -/
structure Kf {P : Program} {w : World} {K : Type} [DecidableEq K] (knd : KeyKind P w K) where
  key : Value → K
  tells : ∀ k v, knd.is k v = true → key v = k
/-- entries and table hold the members L -/
structure Holds {P : Program} {w : World} {K : Type} [DecidableEq K] {knd : KeyKind P w K} (F : Kf knd) (es : Array (Int × Value)) (t : SetTable) (L : List K) : Prop where
  el : ElemsOf knd es.toList
  pm : (es.toList.map fun e => F.key e.2).Perm L
  nd : L.Nodup
  sz : L.length < scanBound
  ft : t.fits es.size = true
  ri : Ris t.place.toList
  ld : w.params.followText "set-order" = true ∨ t.led = true
/-- the set at a has the members L -/
def At {P : Program} {w : World} {K : Type} [DecidableEq K] {knd : KeyKind P w K} (F : Kf knd) (h : Heap) (a : Addr) (L : List K) : Prop :=
  ∃ o es ep t, h.get? a = some o ∧ o.ExactSet ∧ o.data = .set es ep t ∧ Holds F es t L
section
variable {P : Program} {w : World} {K : Type} [DecidableEq K] {knd : KeyKind P w K} {F : Kf knd} {A : Around} {E : Value → Shared → Prop} {s : Shared} {a : Addr} {L : List K} {es es' : Array (Int × Value)} {t t' : SetTable}
theorem Holds.size (H : Holds F es t L) : es.size = L.length := by
  have e := H.pm.length_eq
  rwa [List.length_map, Array.length_toList] at e
theorem Holds.small (H : Holds F es t L) : es.size < scanBound := by rw [H.size]; exact H.sz
theorem Holds.again (H : Holds F es t L) (p : es'.toList.Perm es.toList) (hf : t'.fits es'.size = true) (hr : Ris t'.place.toList) (hl : t'.led = t.led) : Holds F es' t' L :=
  ⟨H.el.perm p, (p.map _).trans H.pm, H.nd, H.sz, hf, hr, H.ld.imp id fun z => by rw [hl]; exact z⟩
theorem Holds.more (H : Holds F es t L) {k : K} {x : Value} (hk : knd.is k x = true) (hx : x.scannable = true) (hn : k ∉ L) (room : L.length + 1 < scanBound) (p : es'.toList.Perm (es.toList ++ [(knd.hash k, x)]))
    (hf : t'.fits es'.size = true) (hr : Ris t'.place.toList) (hl : t'.led = t.led) : Holds F es' t' (k :: L) :=
  ⟨(H.el.push hk hx).perm p, by
    refine (p.map _).trans ?_
    rw [List.map_append]
    refine List.perm_append_comm.trans ?_
    show ((F.key x) :: (es.toList.map fun e => F.key e.2)).Perm (k :: L)
    rw [F.tells k x hk]
    exact H.pm.cons k, List.nodup_cons.mpr ⟨hn, H.nd⟩, room, hf, hr, H.ld.imp id fun z => by rw [hl]; exact z⟩
theorem Holds.plainOff (H : Holds F es t L) : Holds F es { t with plain := false } L := ⟨H.el, H.pm, H.nd, H.sz, SetTable.fits_plain_off H.ft, H.ri, H.ld⟩
theorem Holds.is_iff (H : Holds F es t L) {e : Int × Value} (he : e ∈ es.toList) (k : K) : knd.is k e.2 = true ↔ F.key e.2 = k := by
  obtain ⟨⟨k0, h0, _⟩, _⟩ := H.el e he
  constructor
  · exact F.tells k e.2
  · intro q
    rw [F.tells k0 e.2 h0] at q
    rw [← q]
    exact h0
theorem Holds.mem (H : Holds F es t L) (k : K) : k ∈ L ↔ ∃ e ∈ es.toList, knd.is k e.2 = true := by
  rw [← H.pm.mem_iff, List.mem_map]
  exact ⟨fun ⟨e, he, q⟩ => ⟨e, he, (H.is_iff he k).2 q⟩, fun ⟨e, he, q⟩ => ⟨e, he, (H.is_iff he k).1 q⟩⟩
theorem At.kept {h h' : Heap} (R : At F h a L) (k : ∀ o, h.get? a = some o → h'.get? a = some o) : At F h' a L :=
  let ⟨o, es, ep, t, ho, r⟩ := R; ⟨o, es, ep, t, k o ho, r⟩
theorem At.perm {h : Heap} {M : List K} (R : At F h a L) (p : L.Perm M) : At F h a M :=
  let ⟨o, es, ep, t, ho, hx, hd, r⟩ := R; ⟨o, es, ep, t, ho, hx, hd, ⟨r.el, r.pm.trans p, p.nodup_iff.mp r.nd, by rw [← p.length_eq]; exact r.sz, r.ft, r.ri, r.ld⟩⟩
theorem At.setOf {h : Heap} (R : At F h a L) : h.SetOf knd a (fun k => decide (k ∈ L)) L.length :=
  let ⟨o, es, ep, t, ho, hx, hd, r⟩ := R
  ⟨o, es, ep, t, ho, hx, hd, r.el, fun k => by rw [decide_eq_true_eq]; exact r.mem k, r.small, r.ft, r.size⟩
theorem At.fresh {h : Heap} (o : Obj) (e : o = { cls := .type "set", dict := none, data := .set #[] 0 (.fresh 0 0 (!w.params.followText "set-order")) }) : At F (h.push o) h.objs.size [] := by
  subst e
  refine ⟨_, #[], 0, _, Heap.get?_push_size _ rfl, ⟨rfl, rfl, rfl⟩, rfl, fun e he => absurd he (by simp), by simp, List.nodup_nil, (show (0 : Nat) < scanBound by decide), rfl, List.Pairwise.nil, ?_⟩
  show _ ∨ (!w.params.followText "set-order") = true
  cases w.params.followText "set-order"
  · exact .inr rfl
  · exact .inl rfl
/-- entries stored anew -/
theorem At.put {h : Heap} {o : Obj} {ep : Nat} {t0 : SetTable} {es0 : Array (Int × Value)} (ho : h.get? a = some o) (hx : o.ExactSet) (hd : o.data = .set es0 ep t0) (H : Holds F es t L) :
    (h.update a (Obj.putSet es t)).get? a = some { o with data := .set es (ep + 1) t } ∧ At F (h.update a (Obj.putSet es t)) a L := by
  have g : (h.update a (Obj.putSet es t)).get? a = some { o with data := .set es (ep + 1) t } := by
    rw [← putSet_of es t hd]
    exact Heap.get?_update_self (Obj.putSet es t) ho (by rw [putSet_of es t hd]; rfl)
  exact ⟨g, _, es, ep + 1, t, g, hx, rfl, H⟩

/-! ### one more -/
theorem grow {g : Bool → Sem Unit} (hg : ∀ (b : Bool) (s₁ : Shared) (Q' : Unit → Shared → Prop), Q' () s₁ → wpAny (model P w) A (g b) Q' E s₁) {o : Obj} {es0 : Array (Int × Value)} {ep : Nat} {t0 : SetTable} (ho : s.heap.get? a = some o) (hx : o.ExactSet) (hd : o.data = .set es0 ep t0)
    (H : Holds F es t L) {dm : Bool} {R : Option Bool → Shared → Prop} (hR : ∀ h', Heap.SameBut a s.heap h' → At F h' a L → R (some true) { s with heap := h' }) :
    wpAny (model P w) A (storeSet a es t >>= fun _ => if (!dm && t.tooFull) = true then g (relayAll t es (SetTable.grown es.size)).2.2 >>= fun _ => storeSet a (relayAll t es (SetTable.grown es.size)).1 (relayAll t es (SetTable.grown es.size)).2.1 >>= fun _ => pure (some true)
      else pure (some true)) R E s := by
  obtain ⟨g1, a1⟩ := At.put ho hx hd H
  have b1 := Heap.SameBut.update s.heap a (Obj.putSet es t)
  refine wpAny_bind (wpAny_storeSet_of ho hd ?_ (fits_of_scanBound H.small))
  by_cases c : (!dm && t.tooFull) = true
  · rw [if_pos c]
    have H2 := H.again (relayAll_perm t es (SetTable.grown es.size)) (relayAll_fits t es (SetTable.grown es.size)) (relayAll_ris t es _) (relayAll_led t es _)
    refine wpAny_bind (hg _ _ _ (wpAny_bind (wpAny_storeSet_of g1 rfl (wpAny_pure ?_) (fits_of_scanBound H2.small))))
    exact hR _ (b1.trans (Heap.SameBut.update _ a _)) (At.put g1 hx rfl H2).2
  · rw [if_neg c]
    exact wpAny_pure (hR _ b1 a1)
theorem addHashed {k : K} {x : Value} {Q : Bool → Shared → Prop} (hk : knd.is k x = true) (hx : x.scannable = true) (R : At F s.heap a L) (room : L.length + 1 < scanBound)
    (hQ : ∀ (b : Bool) h', Heap.SameBut a s.heap h' → At F h' a (ins k L) → Q b { s with heap := h' }) : wpAny (model P w) A (setAddHashed a x (knd.hash k)) Q E s := by
  obtain ⟨o, es, ep, t, ho, hex, hd, H⟩ := R
  unfold setAddHashed setAddHashedIn
  refine wpAny_holding (wpAny_bind (wpAny_setState_of ho hd H.ft ?_))
  dsimp only
  rw [byScan_of hx H.small H.el]
  simp only [↓reduceIte]
  unfold setAddByScan
  refine wpAny_bind (wpAny_bind (wpAny_rule (wpAny_bind (wpAny_setScan_of hk ho hd H.ft H.el ?_))))
  cases hf : List.findIdx? (fun e => knd.is k e.2) es.toList with
  | some j =>
    obtain ⟨hj, pj, _⟩ := List.findIdx?_eq_some_iff_getElem.mp hf
    have hm : k ∈ L := (H.mem k).2 ⟨_, List.getElem_mem hj, pj⟩
    refine wpAny_pure (wpAny_pure (hQ _ s.heap (Heap.SameBut.refl a s.heap) ?_))
    unfold ins
    rw [if_pos hm]
    exact ⟨o, es, ep, t, ho, hex, hd, H⟩
  | none =>
    have hm : k ∉ L := fun z => by
      obtain ⟨e, he, q⟩ := (H.mem k).1 z
      rw [List.findIdx?_eq_none_iff.mp hf e he] at q
      cases q
    have ei : ins k L = k :: L := by unfold ins; rw [if_neg hm]
    rw [ei] at hQ
    dsimp only
    have pm := layNew_perm t es (knd.hash k) x
    have hf1 := layNew_fits t es (knd.hash k) x
    have hr1 := layNew_ris t es (knd.hash k) x H.ri
    have hl1 := layNew_led t es (knd.hash k) x
    generalize layNew t es (knd.hash k) x = Z at pm hf1 hr1 hl1 ⊢
    obtain ⟨es1, t1, dm, gv⟩ := Z
    dsimp only at pm hf1 hr1 hl1 ⊢
    rw [Array.toList_push] at pm
    have H1 := H.more hk hx hm room pm hf1 hr1 hl1
    refine wpAny_bind ?_
    have fin : ∀ h', Heap.SameBut a s.heap h' → At F h' a (k :: L) → wpAny (model P w) A (pure true) Q E { s with heap := h' } := fun h' sb r => wpAny_pure (hQ true h' sb r)
    have go : ∀ (b : Bool) {s₁ : Shared} {Q' : Unit → Shared → Prop}, Q' () s₁ → wpAny (model P w) A (match b with | true => rule "set.scan.the-table-gave-way" | false => pure ()) Q' E s₁ := fun b s₁ Q' q => by
      cases b
      · exact wpAny_pure q
      · exact wpAny_rule q
    refine go _ ?_
    split
    · refine wpAny_bind ?_
      rw [hashByValue_scannable 8 hx]
      refine wpAny_pure ?_
      refine grow (F := F) (fun b s₁ Q' q => by cases b <;> first | exact wpAny_pure q | exact wpAny_rule q) ho hex hd (L := k :: L) ?_ fun h' sb r => ?_
      · split
        · exact H1
        · exact H1.plainOff
      · dsimp only
        exact fin h' sb r
    · refine wpAny_bind (wpAny_pure ?_)
      simp only [↓reduceIte]
      refine grow (fun b s₁ Q' q => by cases b <;> first | exact wpAny_pure q | exact wpAny_rule q) ho hex hd H1 fun h' sb r => ?_
      dsimp only
      exact fin h' sb r
end
end LS

set_option Elab.async false
set_option linter.all false
set_option maxRecDepth 100000
set_option maxHeartbeats 3200000
/-! set(xs), sorted(a set): of members that are told by a key. -/
namespace LS
open PySem PySem.Spec PyProof.Rows L2
section
variable {P : Program} {w : World} {K : Type} [DecidableEq K] {knd : KeyKind P w K} {kf : Kf knd} {A : Around} {E : Value → Shared → Prop} {s : Shared} {a : Addr} {L : List K}
theorem insAll_next {ks : List K} {i : Nat} {k : K} (h : ks[i]? = some k) : insAll (ks.take (i + 1)) ([] : List K) = ins k (insAll (ks.take i) []) := by
  rw [List.take_add_one, h, Option.toList_some, insAll_app]
  rfl
/-- set.update's loop: the members of ks, one after another -/
theorem update_loop {I : Addr} {fp wr : List Addr} {G : Array GenState → Array GenState → Prop} {n : Nat} {Pv : Nat → Value → Prop} {St : Nat → Shared → Prop} {R : Result → Shared → Prop} (W : WalksS P w A.in1 I fp wr G n Pv St) (S : Addr) (hSf : S ∉ fp) (ks : List K)
    (hn : n = ks.length) (hb : ks.length + 1 < scanBound) (hval : ∀ i v, Pv i v → ∃ k : K, ks[i]? = some k ∧ knd.is k v = true ∧ v.scannable = true) :
    ∀ (m i : Nat) (s : Shared), n - i = m → i ≤ n → St i s → At kf s.heap S (insAll (ks.take i) []) → (∀ s', Moved (S :: wr) G s s' → At kf s'.heap S (insAll ks []) → R (.ok (.ret .none)) s') →
      codeAny (model P w) A (.builtin "set.update.loop" ⟨[.ref S, .ref I], []⟩) R s := by
  have hSw : S ∉ wr := fun h => hSf (W.sub _ h)
  have up : ∀ b ∈ wr, b ∈ S :: wr := fun b hb => List.mem_cons_of_mem _ hb
  intro m
  induction m with
  | zero =>
    intro i s hm hi st R0 hR
    obtain rfl : i = n := by omega
    refine codeAny_builtin F.entry_set_update_loop ?_
    rw [Around.under_plainId F.plain_set_update_loop _]
    show wpAny _ A.in1 (pyNext (.ref I) >>= _) _ _ s
    refine wpAny_bind (W.done s _ _ st fun s' mv => ?_)
    rw [hn, List.take_length] at R0
    exact wpAny_pure (hR s' (mv.mono up) (R0.kept fun o e => mv.heap S o hSw e))
  | succ m ih =>
    intro i s hm hi st R0 hR
    have hlt : i < n := by omega
    refine codeAny_builtin F.entry_set_update_loop ?_
    rw [Around.under_plainId F.plain_set_update_loop _]
    show wpAny _ A.in1 (pyNext (.ref I) >>= _) _ _ s
    refine wpAny_bind (W.item i s _ _ hlt st fun v s' pv st' mv => ?_)
    obtain ⟨k, hk, hv, hs⟩ := hval i v pv
    have R1 : At kf s'.heap S (insAll (ks.take i) []) := R0.kept fun o e => mv.heap S o hSw e
    show wpAny _ A.in1 (holding [v] (setAdd S v) >>= _) _ _ s'
    refine wpAny_bind (wpAny_holding ?_)
    unfold setAdd
    refine wpAny_holding (wpAny_bind (knd.pyHash hv ?_))
    have room : (insAll (ks.take i) ([] : List K)).length + 1 < scanBound := by
      have h1 := insAll_len (ks := ks.take i) (L := ([] : List K))
      rw [List.length_nil, List.length_take] at h1
      omega
    refine addHashed (s := { s' with toks := s'.toks + 1 }) hv hs R1 room fun b h' sb R2 => ?_
    rw [← insAll_next hk] at R2
    refine wpAny_pure ⟨plainId_quiet F.plain_set_update_loop _, ih (i + 1) _ (by omega) hlt (W.frame _ s' _ _ st' (Nat.le_succ _) fun b hb o e => ?_) R2 fun s'' mv2 R3 => ?_⟩
    · exact (sb.2 b fun z => hSf (z ▸ hb)).trans e
    · refine hR s'' (Moved.trans W.gtrans ((mv.mono up).then_heap (Nat.le_succ _) fun b o hb e => ?_) mv2) R3
      exact (sb.2 b fun z => hb (z ▸ List.mem_cons_self)).trans e

/-- the object that a new set is -/
abbrev newSetO (w : World) : Obj := { cls := .type "set", dict := none, data := .set #[] 0 (.fresh 0 0 (!w.params.followText "set-order")) }
/-- set(xs), xs a list or a tuple -/
theorem make (kf : Kf knd) {l : Addr} {items : Array Value} (ks : List K) {Q : Value → Shared → Prop} (hh : A.handled = none) (hl : s.heap.IsList l items ∨ s.heap.IsTuple l items) (hz : items.size = ks.length) (hb : ks.length + 1 < scanBound)
    (hval : ∀ (i : Nat) (v : Value), items[i]? = some v → ∃ k : K, ks[i]? = some k ∧ knd.is k v = true ∧ v.scannable = true)
    (h : ∀ (h' : Heap) (tk : Nat), At kf h' s.heap.objs.size (insAll ks []) → (∀ b o, s.heap.get? b = some o → h'.get? b = some o) → Q (.ref s.heap.objs.size) { s with heap := h', toks := tk }) :
    wpAny (model P w) A (call (.type "set") [.ref l]) Q E s := by
  obtain ⟨c, tl, hmro⟩ := F.called_set.mro
  have hmade := F.called_set.made
  have hsub := F.called_set.sub
  have h1 := F.called_set.notType
  have h2 := F.called_set.canCreate
  have hct := F.typeCall_set_1 (.ref l)
  refine wpAny_call (codeAny_of_tree ?_)
  show wpAny _ _ (callAny (.type "set") _) _ _ _
  refine wpAny_pure ⟨Code.quiet_builtin _ (by decide +kernel), codeAny_builtin F.entry_type_call ?_⟩
  rw [Around.under_plain (weight_type_call_type "set" [.ref l] []) rfl]
  repeat (any_goals (first | assumption | wp_step))
  refine codeAny_mono (code_set_led1 (.ref l) (E := E) (Q₁ := fun v s₁ => v = .ref s.heap.objs.size ∧ s₁ = { s with heap := s.heap.push (newSetO w) }) ⟨rfl, rfl⟩) fun r s₁ hr => ?_
  match r, hr with
  | .error e, hr => exact hr
  | .ok (.ret obj), ⟨e1, e2⟩ =>
    subst e1 e2
    have hS : (s.heap.push (newSetO w)).get? s.heap.objs.size = some (newSetO w) := Heap.get?_push_size _ rfl
    have hT : Shared.TypeIs { s with heap := s.heap.push (newSetO w) } (.ref s.heap.objs.size) "set" := ⟨_, hS, rfl⟩
    have hli := F.called_set.init.lookup
    have hbi := F.called_set.init.bind (.ref s.heap.objs.size)
    repeat (any_goals (first | assumption | wp_step))
    refine codeAny_mono (codeAny_call_builtin (R := wants (fun r s₂ => r = .none ∧ ∃ h' tk, s₂ = { s with heap := h', toks := tk } ∧ At kf h' s.heap.objs.size (insAll ks []) ∧ (∀ b o, s.heap.get? b = some o → h'.get? b = some o)) E) F.called_set.init.plain F.entry_set_init
      (check_set_init_1 hT ?_)) fun r₂ s₂ hr₂ => ?_
    · have hh3 : A.in1.in1.in1.handled = none := by simp [hh]
      have zS : (s.heap.push (newSetO w)).objs.size = s.heap.objs.size + 1 := Heap.size_push ..
      have done : ∀ {I : Addr} {s' : Shared}, I = s.heap.objs.size + 1 → ∀ {s0 : Shared}, Moved (s.heap.objs.size :: [I]) (fun a b => b = a) s0 s' → (∀ b o, s.heap.get? b = some o → s0.heap.get? b = some o) → s0.gens = s.gens → s0.drawn = s.drawn → s0.os = s.os → At kf s'.heap s.heap.objs.size (insAll ks []) →
          ∃ h' tk, s' = { s with heap := h', toks := tk } ∧ At kf h' s.heap.objs.size (insAll ks []) ∧ (∀ b o, s.heap.get? b = some o → h'.get? b = some o) := fun {I s'} eI {s0} mv k0 g0 d0 o0 R => by
        obtain ⟨h', g2, d2, tk', os2⟩ := s'
        have eg : g2 = s.gens := (show g2 = s0.gens from mv.gens).trans g0
        have ed : d2 = s.drawn := (show d2 = s0.drawn from mv.drawn).trans d0
        have eo : os2 = s.os := (show os2 = s0.os from mv.os).trans o0
        subst eg ed eo
        refine ⟨h', tk', rfl, R, fun b o e => mv.heap b o (fun z => ?_) (k0 b o e)⟩
        have lt := Heap.lt_size e
        rw [eI] at z
        simp only [List.mem_cons, List.not_mem_nil, or_false] at z
        rcases z with z | z
        · exact absurd lt (by rw [z]; exact Nat.lt_irrefl _)
        · exact absurd lt (by rw [z]; exact Nat.not_lt_of_le (Nat.le_succ _))
      rcases hl with hl | hl
      · obtain ⟨⟨cls, dd, dat, sl⟩, ho, hc, n, hd⟩ := hl
        simp only at hc hd
        subst hc hd
        have ho' : (s.heap.push (newSetO w)).get? l = some { cls := .type "list", dict := dd, data := .seq items n, slots := sl } := Heap.get?_push_of_some _ ho
        have u1 := F.sub_list_set
        have u2 := F.sub_list_frozenset
        have u3 : (Value.type "list" == Value.type "dict") = false := by decide
        have hl1 : (s.heap.push (newSetO w)).IsList l items := ⟨_, ho', rfl, n, rfl⟩
        have lt := Heap.lt_size ho
        have hne : l ≠ (s.heap.push (newSetO w)).objs.size := by rw [zS]; exact Nat.ne_of_lt (Nat.lt_succ_of_lt lt)
        unfold Builtin.«set.__init__» noKeywords Builtin.Frozenset.updateFrom
        generalize hPI : pyIter = PI
        wp_walk
        subst hPI
        refine wpAny_pyIter_list hl1 (wpAny_bind (wpAny_runValue ?_))
        refine update_loop (kf := kf) ((Walks.list hh3 _ l hne items).toS) s.heap.objs.size (by rw [zS]; simp only [List.mem_cons, List.not_mem_nil, or_false, not_or]; exact ⟨Nat.ne_of_lt (Nat.lt_succ_self _), Nat.ne_of_gt lt⟩) ks hz hb hval (items.size - 0) 0 _ rfl (Nat.zero_le _) ⟨⟨_, Heap.get?_push_size _ rfl, rfl, rfl⟩, hl1.push _⟩ ?_ fun s' mv R => ?_
        · rw [List.take_zero]
          exact (At.fresh _ rfl).kept fun o e => Heap.get?_push_of_some _ e
        · obtain ⟨h', tk, e, R', k'⟩ := done zS mv (fun b o e => Heap.get?_push_of_some _ (Heap.get?_push_of_some _ e)) rfl rfl rfl R
          show wpAny _ _ _ _ _ _
          refine wpAny_pure ?_
          show wpAny _ _ (ret Value.none) _ _ _
          exact wpAny_pure ⟨rfl, h', tk, e, R', k'⟩
      · obtain ⟨⟨cls, dd, dat, sl⟩, ho, hc, n, hd⟩ := hl
        simp only at hc hd
        subst hc hd
        have ho' : (s.heap.push (newSetO w)).get? l = some { cls := .type "tuple", dict := dd, data := .seq items n, slots := sl } := Heap.get?_push_of_some _ ho
        have u1 := F.sub_tuple_set
        have u2 := F.sub_tuple_frozenset
        have u3 : (Value.type "tuple" == Value.type "dict") = false := by decide
        have hl1 : (s.heap.push (newSetO w)).IsTuple l items := ⟨_, ho', rfl, n, rfl⟩
        have lt := Heap.lt_size ho
        have hne : l ≠ (s.heap.push (newSetO w)).objs.size := by rw [zS]; exact Nat.ne_of_lt (Nat.lt_succ_of_lt lt)
        unfold Builtin.«set.__init__» noKeywords Builtin.Frozenset.updateFrom
        generalize hPI : pyIter = PI
        wp_walk
        subst hPI
        refine wpAny_pyIter_tuple hl1 (wpAny_bind (wpAny_runValue ?_))
        refine update_loop (kf := kf) ((Walks.tuple hh3 _ l hne items).toS) s.heap.objs.size (by rw [zS]; simp only [List.mem_cons, List.not_mem_nil, or_false, not_or]; exact ⟨Nat.ne_of_lt (Nat.lt_succ_self _), Nat.ne_of_gt lt⟩) ks hz hb hval (items.size - 0) 0 _ rfl (Nat.zero_le _) ⟨⟨_, Heap.get?_push_size _ rfl, rfl, rfl⟩, hl1.push _⟩ ?_ fun s' mv R => ?_
        · rw [List.take_zero]
          exact (At.fresh _ rfl).kept fun o e => Heap.get?_push_of_some _ e
        · obtain ⟨h', tk, e, R', k'⟩ := done zS mv (fun b o e => Heap.get?_push_of_some _ (Heap.get?_push_of_some _ e)) rfl rfl rfl R
          show wpAny _ _ _ _ _ _
          refine wpAny_pure ?_
          show wpAny _ _ (ret Value.none) _ _ _
          exact wpAny_pure ⟨rfl, h', tk, e, R', k'⟩
    · match r₂, hr₂ with
      | .error e, hr₂ => exact hr₂
      | .ok (.ret r), ⟨e1, h', tk, e2, R', k'⟩ =>
        subst e1 e2
        repeat (any_goals (first | assumption | wp_step))
        exact h _ _ R' k'
      | .ok .next, hr₂ => exact hr₂.elim
      | .ok .brk, hr₂ => exact hr₂.elim
      | .ok .cont, hr₂ => exact hr₂.elim
  | .ok .next, hr => exact hr.elim
  | .ok .brk, hr => exact hr.elim
  | .ok .cont, hr => exact hr.elim
end
end LS

set_option Elab.async false
set_option linter.all false
set_option maxRecDepth 100000
set_option maxHeartbeats 3200000
/-! Sets of texts: tracked, sorted, made by comprehensions. -/
namespace LS
open PySem PySem.Spec PyProof.Rows L2
/-- texts -/
def keyT : Value → Str
  | .str k _ => k
  | _ => Str.empty
def txt (P : Program) (w : World) : Kf (PySem.strKind P w) where
  key := keyT
  tells := fun k v h => by
    obtain ⟨t, rfl⟩ := Value.isStrOf_shape h
    rfl
theorem is_T (P : Program) (w : World) (k : Str) (t : Tok) : (PySem.strKind P w).is k (.str k t) = true := strKind_is P w k t
abbrev AtT (P : Program) (w : World) (h : Heap) (a : Addr) (L : List Str) : Prop := At (txt P w) h a L
theorem vals_T {P : Program} {w : World} {es : Array (Int × Value)} {t : SetTable} {L : List Str} (H : Holds (txt P w) es t L) {out : List Value} (p : out.Perm (es.toList.map (·.2))) :
    ∃ ks : List Str, ks.Perm L ∧ StrsAre out ks := by
  refine ⟨out.map keyT, ?_, ?_⟩
  · have q := p.map keyT
    rw [List.map_map] at q
    exact q.trans H.pm
  · have all : ∀ v ∈ out, ∃ k t, v = .str k t := fun v hv => by
      obtain ⟨e, he, q⟩ := List.mem_map.mp (p.mem_iff.mp hv)
      obtain ⟨⟨k, hk, _⟩, _⟩ := H.el e he
      obtain ⟨t, ht⟩ := Value.isStrOf_shape hk
      exact ⟨k, t, by rw [← q, ht]⟩
    clear p
    induction out with
    | nil => exact .nil
    | cons v out ih =>
      obtain ⟨k, t, rfl⟩ := all v List.mem_cons_self
      exact .cons k t (ih fun u hu => all u (List.mem_cons_of_mem _ hu))
/-- texts in their order -/
def strLe (a b : Str) : Bool := decide (a.cps.toList ≤ b.cps.toList)
theorem strLe_of : PySem.W.dataLe false (fun b : Str => PyData.str b) = strLe := PySem.W.dataLe_str id
theorem strLe_anti {a b : Str} (h1 : strLe a b = true) (h2 : strLe b a = true) : a = b := by
  have e : a.cps.toList = b.cps.toList := List.le_antisymm (of_decide_eq_true h1) (of_decide_eq_true h2)
  cases a
  cases b
  exact congrArg Str.mk (Array.toList_inj.mp e)
theorem strLe_trans (a b c : Str) (h1 : strLe a b = true) (h2 : strLe b c = true) : strLe a c = true := decide_eq_true (List.le_trans (of_decide_eq_true h1) (of_decide_eq_true h2))
theorem strLe_total (a b : Str) : (strLe a b || strLe b a) = true := by
  rw [Bool.or_eq_true]
  exact (List.le_total a.cps.toList b.cps.toList).imp decide_eq_true decide_eq_true
/-- sorted texts -/
def sortT (L : List Str) : List Str := L.mergeSort strLe
theorem sortT_perm (L : List Str) : (sortT L).Perm L := List.mergeSort_perm L strLe
theorem sortT_srt (L : List Str) : (sortT L).Pairwise fun a b => strLe a b = true := List.pairwise_mergeSort strLe_trans strLe_total L
theorem sortT_eq {L M : List Str} (p : L.Perm M) : sortT L = sortT M :=
  ((sortT_perm L).trans (p.trans (sortT_perm M).symm)).eq_of_pairwise (fun a b _ _ h1 h2 => strLe_anti h1 h2) (sortT_srt L) (sortT_srt M)
theorem mem_sortT {L : List Str} {x : Str} : x ∈ sortT L ↔ x ∈ L := (sortT_perm L).mem_iff
theorem each_T : ∀ {vs : List Value} {ks : List Str}, StrsAre vs ks → PySem.W.EachIs (fun v b => ∃ t, v = Value.str b t) vs ks
  | _, _, .nil => .nil
  | _, _, .cons k t h => .cons ⟨t, rfl⟩ (each_T h)
theorem strs_T : ∀ {vs : List Value} {ks : List Str}, PySem.W.EachIs (fun v b => ∃ t, v = Value.str b t) vs ks → StrsAre vs ks
  | _, _, .nil => .nil
  | _, _, .cons ⟨t, e⟩ h => by
    rw [e]
    exact .cons _ t (strs_T h)
section
variable {P : Program} {w : World} {A : Around} {E : Value → Shared → Prop} {s : Shared} {a : Addr} {L : List Str}
/-- found.add(k) -/
theorem call_addT {k : Str} {u : Tok} {Q : Value → Shared → Prop} (R : AtT P w s.heap a L) (room : L.length + 1 < scanBound) (hQ : ∀ h', Heap.SameBut a s.heap h' → AtT P w h' a (ins k L) → Q .none { s with heap := h', toks := s.toks + 1 }) :
    wpAny (model P w) A (call (.builtin "set.add") [.ref a, .str k u]) Q E s := by
  refine wpAny_call_entry F.slot_set_add R.setOf.typeIs F.entry_set_add ?_ (F.args_set_add_2 _ _)
  unfold Builtin.«set.add» Builtin.Frozenset.oneOther
  simp only [List.isEmpty_nil, bind_assoc]
  unfold Builtin.Frozenset.addrOf setAdd
  refine wpAny_bind (wpAny_pure ?_)
  try dsimp only
  refine wpAny_bind (wpAny_pure ?_)
  try dsimp only
  refine wpAny_bind (wpAny_holding (wpAny_bind ((PySem.strKind P w).pyHash (is_T P w k u) ?_)))
  refine addHashed (s := { s with toks := s.toks + 1 }) (is_T P w k u) rfl R room fun b h' sb r => ?_
  show wpAny _ _ (ret Value.none) _ _ _
  exact wpAny_pure ⟨_, rfl, hQ h' sb r⟩
/-- sorted(found) -/
theorem sorted_T {Q : Value → Shared → Prop} (R : AtT P w s.heap a L) (hh : A.handled = none) (hu : A.units + 3 < cLine)
    (hQ : ∀ (s' : Shared) (p : Addr) (out : List Value), (∀ b o, s.heap.get? b = some o → s'.heap.get? b = some o) → s'.gens = s.gens → s'.os = s.os → s.heap.objs.size ≤ p → (∃ n, s'.heap.get? p = some (seqObj "list" out.toArray n)) → StrsAre out (sortT L) → Q (.ref p) s') :
    wpAny (model P w) A (call (.builtin "sorted") [.ref a]) Q E s := by
  obtain ⟨o, es, ep, t, ho, hx, hd, H⟩ := R
  refine Calls.call_function_entry kind_sorted plain_sorted entry_sorted (args_sorted1 _) ?_
  unfold Builtin.«sorted»
  refine wpAny_bind (m := checkCount "sorted" 1 1 _) (wpAny_pure ?_)
  refine wpAny_bind (collect_set (A := A.in1) hh ⟨o, ho, hx.1, hd⟩ H.ft H.small H.ri H.ld fun s1 vs k1 z1 g1 o1 pm => ?_)
  obtain ⟨ks, pk, hv⟩ := vals_T H pm
  have hl : ks.length < scanBound := by rw [pk.length_eq]; exact H.sz
  have hvl : vs.length = ks.length := StrsAre.len_eq hv
  have hz : ks.length ≤ sizeLine := fits_of_scanBound hl
  refine wpAny_bind (wpAny_newList ?_ (by rw [hvl]; exact hz))
  have hoL : (s1.heap.push (seqObj "list" vs.toArray 0)).get? s1.heap.objs.size = some (seqObj "list" vs.toArray 0) := Heap.get?_push_size _ rfl
  have each : PySem.W.EachIs (fun v b => ∃ t, v = Value.str b t) vs ks := each_T hv
  refine wpAny_bind (wpAny_holding (PySem.W.list_sort_data (enc := fun b : Str => PyData.str b) (R := fun v b => ∃ t, v = Value.str b t) hoL each (each.mono fun v b ⟨t, e⟩ => ⟨[], by rw [e]; exact .str _ _, by simp⟩)
    (PySem.W.AllAlike.of fun b b' => rfl) (PySem.W.Sortable.others fun b => ⟨by simp, by simp⟩) hz (fun b hb => ?_) fun out hl2 e2 => ?_))
  · have z : (PyData.str b).depth = 0 := by simp [PyData.depth]
    rw [z, PyProof.Rows.units_in1]
    omega
  obtain ⟨c, hc⟩ := sortedHeap_at (vs := vs) (out := out.toArray) hoL
  rw [strLe_of] at e2
  refine wpAny_pure ⟨_, rfl, hQ _ s1.heap.objs.size out (fun b u e => ?_) g1 o1 z1 ⟨c, hc⟩ ?_⟩
  · have q := k1 b u e
    have lt := Heap.lt_size q
    show (sortedHeap (s1.heap.push (seqObj "list" vs.toArray 0)) s1.heap.objs.size vs out.toArray).get? b = some u
    rw [sortedHeap_old (Nat.ne_of_lt lt) (by rw [size_push']; exact Nat.lt_succ_of_lt lt)]
    exact Heap.get?_push_of_some _ q
  · rw [← sortT_eq pk]
    exact strs_T e2
end
end LS

set_option Elab.async false
set_option linter.all false
set_option maxRecDepth 100000
set_option maxHeartbeats 3200000
/-! Sets of texts, tracked: set(xs), sorted, len, in. -/
namespace LS
open PySem PySem.Spec PyProof.Rows L2
/-- the set of texts at a, as a tracked thing -/
def TxO (P : Program) (w : World) (a : Addr) (L : List Str) : HO := .ext fun h => AtT P w h a L
theorem txO_new {P : Program} {w : World} {H : Hp} {h : Heap} {a : Addr} {L : List Str} (R : AtT P w h a L) : ObjOk P w H h a (TxO P w a L) := by
  have ⟨o, _, _, _, ho, _⟩ := R
  exact ⟨R, ⟨o, ho⟩, fun h1 h2 p k => At.kept p k⟩
section
variable {X : Cx} {pins : List (Addr × Obj)} {σ : L2.St} {H : Hp} {s : Shared}
theorem txO_get {a : Addr} {L : List Str} (I : Inv X pins σ H s) (ha : H a = some (TxO X.prog X.w a L)) : AtT X.prog X.w s.heap a L := (I.hok a _ ha).1
/-- a text put in -/
theorem addT_ok {E : Value → Shared → Prop} {D : Addr} {L : List Str} {y : Str} {u : Tok} {Q : Value → Shared → Prop} (I : Inv X pins σ H s) (hD : H D = some (TxO X.prog X.w D L)) (room : L.length + 1 < scanBound)
    (h : ∀ s', Inv X pins σ (upd H D (TxO X.prog X.w D (ins y L))) s' → Q .none s') : wpAny (model X.prog X.w) X.A (call (.builtin "set.add") [.ref D, .str y u]) Q E s := by
  refine call_addT (txO_get I hD) room fun h' sb R => ?_
  have ⟨o, _, _, _, ho, _⟩ := R
  exact h _ (I.write (e := D) (t' := s.toks + 1) (by rw [hD]; trivial) (.inl rfl) (fun b u hb hu => (sb.2 b hb).trans hu) ⟨o, ho⟩ (txO_new R))
/-- sorted(found) -/
def rSortT (P : Program) (w : World) : List V → Hp → VK → Prop := fun xs H Q => ∃ (a : Addr) (L : List Str), xs = [V.ref a] ∧ H a = some (TxO P w a L) ∧ ∀ p, H p = none → Q (.ref p) (upd H p (.lst ((sortT L).map V.str)))
theorem cr_sortT (hc : X.calm = true) (hu : X.A.units + 3 < cLine) : CallR X (.builtin "sorted") (rSortT X.prog X.w) := by
  intro pins s σ H xs us Q I r h
  obtain ⟨a, L, rfl, ha, q⟩ := h
  have R := txO_get I ha
  obtain rfl := Vals.ref1 r
  refine sorted_T R (I.ok.hd hc) hu fun s' p out k g o hp ⟨n, hg⟩ hi => ?_
  have hz : ((sortT L).map V.str).length ≤ sizeLine := by
    obtain ⟨_, _, _, _, _, _, _, Hd⟩ := R
    rw [List.length_map, (sortT_perm L).length_eq]
    exact fits_of_scanBound Hd.sz
  have hn : H p = none := I.hok.fresh hp
  have J : Inv X pins σ (upd H p (.lst ((sortT L).map V.str))) { s with heap := s'.heap, gens := s'.gens, drawn := s'.drawn, toks := s'.toks } :=
    I.call (ch := []) (Un.laid k hp hn) (I.hok.laid k hp ⟨hz, out, n, vals_of_strs hi, hg⟩) (by rw [g]; exact I.bare) (fun _ z => nomatch z)
  have e : s' = { s with heap := s'.heap, gens := s'.gens, drawn := s'.drawn, toks := s'.toks } := by
    cases s'
    cases s
    cases o
    rfl
  rw [e]
  exact ⟨.ref p, _, J, rfl, q p hn⟩
/-- set(xs) of a list or a tuple of texts -/
def rSetT (P : Program) (w : World) (K : PySem.W.Frag) : List V → Hp → VK → Prop := fun xs H Q => ∃ (l : Addr) (ys : List Str), xs = [V.ref l] ∧ (SqL K H l (ys.map V.str) ∨ SqT K H l (ys.map V.str)) ∧ ys.length + 1 < scanBound ∧ ∀ p, H p = none → Q (.ref p) (upd H p (TxO P w p (insAll ys [])))
theorem strs_get : ∀ {us : List Value} {ys : List Str}, StrsAre us ys → ∀ (i : Nat) (v : Value), us[i]? = some v → ∃ k t, ys[i]? = some k ∧ v = Value.str k t
  | _, _, .nil, i, v, h => by simp at h
  | _, _, .cons n t hr, 0, v, h => ⟨n, t, rfl, by simpa using h.symm⟩
  | _, _, .cons n t hr, i + 1, v, h => strs_get hr i v (by simpa using h)
theorem cr_setT (hc : X.calm = true) : CallR X (.type "set") (rSetT X.prog X.w X.K) := by
  intro pins s σ H xs us Q I r h
  obtain ⟨l, ys, rfl, hq, room, q⟩ := h
  obtain rfl := Vals.ref1 r
  have go : ∀ its : List Value, Vals (ys.map V.str) its → (s.heap.IsList l its.toArray ∨ s.heap.IsTuple l its.toArray) → wpAny (model X.prog X.w) X.A (call (.type "set") [.ref l]) (EP X pins σ Q) X.xe s := fun its rv hl => by
    have hS : StrsAre its ys := strsAre_of rv
    refine make (txt X.prog X.w) ys (I.ok.hd hc) hl (by rw [List.size_toArray, ← rv.length, List.length_map]) room (fun i v hv => ?_) fun h' tk R k => ?_
    · obtain ⟨y, t, hy, rfl⟩ := strs_get hS i v (by simpa using hv)
      exact ⟨y, hy, is_T _ _ y t, rfl⟩
    · have hn : H s.heap.objs.size = none := I.hok.fresh (Nat.le_refl _)
      exact ⟨.ref s.heap.objs.size, _, I.laid (t' := tk) k (Nat.le_refl _) (txO_new R), rfl, q _ hn⟩
  rcases hq with hq | hq
  · obtain ⟨its, rv, pl, _⟩ := I.list hq
    exact go its rv (.inl pl.isList)
  · obtain ⟨its, rv, pl, _⟩ := I.tuple hq
    exact go its rv (.inr pl)
/-- len(found) -/
def rLenT (P : Program) (w : World) : List V → Hp → VK → Prop := fun xs H Q => ∃ (a : Addr) (L : List Str), xs = [V.ref a] ∧ H a = some (TxO P w a L) ∧ Q (.int L.length) H
theorem cr_lenT : CallR X (.builtin "len") (rLenT X.prog X.w) := by
  intro pins s σ H xs us Q I r h
  obtain ⟨a, L, rfl, ha, q⟩ := h
  obtain rfl := Vals.ref1 r
  obtain ⟨o, es, ep, t, ho, hex, hd, Hd⟩ := txO_get I ha
  have hs := Hd.small
  refine call_len_set ho hex hd Hd.ft (by unfold scanBound at hs; omega) ⟨.int L.length, H, I.tok _, ⟨_, by rw [Hd.size]⟩, q⟩
/-- k in found, k not in found -/
def rInT (P : Program) (w : World) (f : Bool → Bool) : V → V → Hp → VK → Prop := fun x y H Q => ∃ k a L, x = V.str k ∧ y = V.ref a ∧ H a = some (TxO P w a L) ∧ Q (.bl (f (decide (k ∈ L)))) H
theorem or_inT : OpR X (compareOp .In) (rInT X.prog X.w id) := by
  intro pins s σ H x y v u Q I rx ry h
  obtain ⟨k, a, L, rfl, rfl, ha, q⟩ := h
  obtain ⟨tk, rfl⟩ := rx
  cases ry
  exact wpAny_inSet_of (is_T _ _ k tk) rfl (txO_get I ha).setOf ⟨.bl _, H, I.tok _, rfl, q⟩
theorem or_notinT : OpR X (compareOp .NotIn) (rInT X.prog X.w fun b => !b) := by
  intro pins s σ H x y v u Q I rx ry h
  obtain ⟨k, a, L, rfl, rfl, ha, q⟩ := h
  obtain ⟨tk, rfl⟩ := rx
  cases ry
  exact wpAny_notInSet_of (is_T _ _ k tk) rfl (txO_get I ha).setOf ⟨.bl _, H, I.tok _, rfl, q⟩
end
end LS

set_option Elab.async false
set_option linter.all false
set_option maxRecDepth 100000
set_option maxHeartbeats 3200000
/-! A set of texts made by a comprehension with two fors. -/
namespace LS
open PySem PySem.Spec PyProof.Rows L2
/-- {elt for t0 in i0 for t1 in i1} -/
abbrev SC2 (elt t0 i0 t1 i1 : Expr) (scope : Scope) (pos : Pos) : Expr := .SetComp elt [⟨t0, i0, [], 0⟩, ⟨t1, i1, [], 0⟩] scope pos
section
variable {prog : Program} {w : World} {A : Around} {R : Result → Shared → Prop} {s : Shared} {env : Env} {elt t0 i0 t1 i1 : Expr} {scope : Scope} {pos : Pos} {it acc : Value}
/-- the second clause's start -/
theorem start_in (h0 : codeAny (model prog w) A (.compLoop (SC2 elt t0 i0 t1 i1 scope pos) 1 it acc env) R s)
    (h : wpAny (model prog w) A (pyIter it) (fun u s' => codeAny (model prog w) A (.compLoop (SC2 elt t0 i0 t1 i1 scope pos) 1 u acc env) R s') (notedBy (model prog w) A env fun x s' => R (.error x) s') s) :
    codeAny (model prog w) A (.compStart (SC2 elt t0 i0 t1 i1 scope pos) 1 it acc env) R s := by
  refine codeAny_of_tree ?_
  show wpAny _ _ ((compStart (SC2 elt t0 i0 t1 i1 scope pos) 1 it acc env).onRaise (fun x => noteFrame x env >>= fun _ => standAt theWindowsPlace)) _ _ s
  refine wpAny_notedAt ?_
  unfold compStart
  show wpAny _ _ (ask >>= _) _ _ s
  refine wpAny_bind (wpAny_askSetting (wpAny_ite ?_))
  split
  · first
      | exact wpAny_pure ⟨rfl, h0⟩
      | exact wpAny_bind (wpAny_pure (wpAny_pure ⟨rfl, h0⟩))
  · refine wpAny_bind (wpAny_rule ?_)
    first
      | exact wpAny_bind (wpAny_standAt (wpAny_bind (wpAny_mono h (fun u s' h' => wpAny_pure ⟨rfl, h'⟩) fun _ _ x => x)))
      | (show wpAny _ _ (standAt i1.pos >>= _) _ _ s; exact wpAny_bind (wpAny_standAt (wpAny_bind (wpAny_mono h (fun u s' h' => wpAny_pure ⟨rfl, h'⟩) fun _ _ x => x))))
/-- the second clause's loop, a turn -/
theorem loop_in (I : Nat → Shared → Prop) (turn : ∀ n s, I n s → wpAny (model prog w) A (pyNext it) (fun r s₁ => match r with
      | none => R (.ok .next) s₁
      | some v => wpAny (model prog w) A (letOwnedTupleGo t1 it v) (fun _ s₂ => wpAny (model prog w) A (assign t1 env v) (fun _ s₃ => wpAny (model prog w) A (eval elt env) (fun y s₄ =>
          wpAny (model prog w) A (call (.builtin "set.add") [acc, y]) (fun _ s₅ => ∃ m, m < n ∧ I m s₅) (fun _ _ => False) s₄) (fun _ _ => False) s₃) (fun _ _ => False) s₂) (fun _ _ => False) s₁) (fun _ _ => False) s)
    (n : Nat) (h : I n s) : codeAny (model prog w) A (.compLoop (SC2 elt t0 i0 t1 i1 scope pos) 1 it acc env) R s := by
  refine codeAny_loop rfl I (fun n s hI => ?_) n h
  show wpAny _ A ((compTurn (SC2 elt t0 i0 t1 i1 scope pos) 1 it acc env).onRaise (fun x => noteFrame x env >>= fun _ => theTreesLotGoes x)) _ _ s
  refine wpAny_noted ?_
  show wpAny _ _ (standAt i1.pos >>= _) _ _ s
  refine wpAny_bind (wpAny_standAt (wpAny_bind (wpAny_mono (turn n s hI) (fun r s₁ h₁ => ?_) fun _ _ z => z.elim)))
  cases r with
  | none => exact wpAny_pure h₁
  | some v =>
    refine wpAny_bind (wpAny_mono h₁ (fun _ s₂ h₂ => ?_) fun _ _ z => z.elim)
    refine wpAny_bind (wpAny_mono h₂ (fun _ s₃ h₃ => ?_) fun _ _ z => z.elim)
    refine wpAny_bind (wpAny_pure ?_)
    exact wpAny_bind (wpAny_bind (wpAny_mono h₃ (fun y s₄ h₄ => wpAny_bind (wpAny_standAt (wpAny_bind (wpAny_mono h₄ (fun _ s₅ h₅ => wpAny_pure (wpAny_pure ⟨rfl, h₅⟩)) fun _ _ z => z.elim)))) fun _ _ z => z.elim))
/-- the first clause's loop, a turn -/
theorem loop_out (hs : ∀ x, foldedSetIterable i1 env x = pure x) (I : Nat → Shared → Prop) (turn : ∀ n s, I n s → wpAny (model prog w) A (pyNext it) (fun r s₁ => match r with
      | none => R (.ok .next) s₁
      | some v => wpAny (model prog w) A (letOwnedTupleGo t0 it v) (fun _ s₂ => wpAny (model prog w) A (assign t0 env v) (fun _ s₃ => wpAny (model prog w) A (eval i1 env) (fun x s₄ => wpAny (model prog w) A (pyIter x) (fun it1 s₅ =>
          codeAny (model prog w) A (.compStart (SC2 elt t0 i0 t1 i1 scope pos) 1 it1 acc env) (fun r s' => match r with
            | .ok _ => ∃ m, m < n ∧ I m s'
            | .error _ => False) s₅) (fun _ _ => False) s₄) (fun _ _ => False) s₃) (fun _ _ => False) s₂) (fun _ _ => False) s₁) (fun _ _ => False) s)
    (n : Nat) (h : I n s) : codeAny (model prog w) A (.compLoop (SC2 elt t0 i0 t1 i1 scope pos) 0 it acc env) R s := by
  refine codeAny_loop rfl I (fun n s hI => ?_) n h
  show wpAny _ A ((compTurn (SC2 elt t0 i0 t1 i1 scope pos) 0 it acc env).onRaise (fun x => noteFrame x env >>= fun _ => theTreesLotGoes x)) _ _ s
  refine wpAny_noted ?_
  show wpAny _ _ (standAt i0.pos >>= _) _ _ s
  refine wpAny_bind (wpAny_standAt (wpAny_bind (wpAny_mono (turn n s hI) (fun r s₁ h₁ => ?_) fun _ _ z => z.elim)))
  cases r with
  | none => exact wpAny_pure h₁
  | some v =>
    refine wpAny_bind (wpAny_mono h₁ (fun _ s₂ h₂ => ?_) fun _ _ z => z.elim)
    refine wpAny_bind (wpAny_mono h₂ (fun _ s₃ h₃ => ?_) fun _ _ z => z.elim)
    refine wpAny_bind (wpAny_pure ?_)
    refine wpAny_bind (wpAny_mono h₃ (fun x s₄ h₄ => ?_) fun _ _ z => z.elim)
    refine wpAny_bind (wpAny_standAt (wpAny_bind (wpAny_of_eq (hs x) (wpAny_bind (wpAny_holding (wpAny_mono h₄ (fun it1 s₅ h₅ => ?_) fun _ _ z => z.elim))))))
    refine wpAny_bind (wpAny_runOwn ?_)
    rw [Around.mark_none]
    refine codeAny_mono h₅ fun r s' hr => ?_
    match r, hr with
    | .error e, hr => exact hr.elim
    | .ok f, hr =>
      first
        | exact wpAny_pure ⟨rfl, hr⟩
        | exact wpAny_bind (wpAny_pure (wpAny_pure ⟨rfl, hr⟩))
end

/-- behind the first clause's store the second source's own loop, from which Nx is reached; vs: the block's names, vs1: those of the second target -/
def tSc2 (P : Program) (w : World) (wi : TI) (g : TG) (wi1 : TI) (g1 : TG) (te : TE) (vs vs1 : List Nat) : TE := fun σ H Q => wi σ H fun J H1 => ∀ D, H1 D = none → ∃ W : Nat → Nat → Hp → Prop, (∃ m, W 0 m (upd H1 D (TxO P w D []))) ∧ ∀ i m H, W i m H →
  (J.stop i H ∧ Q (.ref D) H) ∨ (J.go i H ∧ ∃ Nx : Hp → Prop, (∀ H', Nx H' → ∃ m', m' < m ∧ W (i + 1) m' H') ∧ ∀ x H', J.yld i H x H' → g x (wipe σ vs) H' fun σ2 H2 => wipe σ2 vs = wipe σ vs ∧
    wi1 σ2 H2 fun J1 H4 => ∃ W1 : Nat → Nat → Hp → Prop, (∃ m, W1 0 m H4) ∧ ∀ j k H, W1 j k H →
      (J1.stop j H ∧ Nx H) ∨ (J1.go j H ∧ ∃ Nx1 : Hp → Prop, (∀ H', Nx1 H' → ∃ k', k' < k ∧ W1 (j + 1) k' H') ∧ ∀ x H', J1.yld j H x H' → g1 x (wipe σ2 vs1) H' fun σ3 H5 => wipe σ3 vs1 = wipe σ2 vs1 ∧
        te σ3 H5 fun y H7 => ∃ c L, y = .str c ∧ H7 D = some (TxO P w D L) ∧ L.length + 1 < scanBound ∧ Nx1 (upd H7 D (TxO P w D (ins c L)))))
section
variable {X : Cx}
theorem sc2_core {pins : List (Addr × Obj)} {s : Shared} {σ : L2.St} {H : Hp} {Q : VK} {elt tg iter tg1 iter1 : Expr} {scope : Scope} {own : List (Str × Nat)} {vs1 : List Nat} {pos pos' : Pos} {wi wi1 : TI} {g g1 : TG} {te : TE} {use : Option (Value → Sem Unit)} {Qf : Value → Shared → Prop}
    (hc : X.calm = true) (hN : X.N.Nodup) (I : Inv X pins σ H s) (hi : PI X tg iter wi) (ok : BlkOk X.N X.env.scope scope own) (hv : ∀ i ∈ vs1, i ∈ own.map (·.2))
    (hb : ∀ (s : Shared) (H : Hp) (C : Addr) (cl : List (Str × Addr)) (fp : List Addr), PG (X.blk s H scope (compEnvC scope cl C X.env) fp) tg g ∧ PE (X.blk s H scope (compEnvC scope cl C X.env) fp) elt te ∧
      PI (X.blk s H scope (compEnvC scope cl C X.env) fp) tg1 iter1 wi1 ∧ PG (X.blk s H scope (compEnvC scope cl C X.env) fp) tg1 g1)
    (hs : ∀ x, foldedSetIterable iter X.env x = pure x) (hs1 : ∀ env x, foldedSetIterable iter1 env x = pure x)
    (h : tSc2 X.prog X.w wi g wi1 g1 te (own.map (·.2)) vs1 σ H Q)
    (hRR : ∀ D C s' m H', Inv X pins σ H' s' → Q (.ref D) H' → s'.heap.Ns C m → FpOk X pins H' C → compPost (model X.prog X.w) X.A X.xe use Qf (.ref D) C (.ok .next) s') :
    wpAny (model X.prog X.w) X.A (comprehension (SC2 elt tg iter tg1 iter1 scope pos) scope X.env pos' (newSet (.type "set")) false (eval iter X.env) use) Qf X.xe s := by
  have hfree : ∀ y ∈ scope.names, y.2 = .free → ∃ c, X.env.cells.lookup y.1 = some c := fun y hy e => (ok.free y hy e).elim (fun k => I.ok.has _ (.inl k)) fun k => I.ok.has _ (.inr k)
  refine wpAny_comprehension_free (use := use) rfl hs (closure_ok hfree) ok.kind (fun y hy e => by rw [ok.uniq y hy, e]) (thn (hi.run pins s σ H _ I h) fun xv s1 hx => thn hx fun itv s2 h2 => ?_)
  obtain ⟨it, fp, tn, J, H2, rfl, I2, T, st2, f2, q⟩ := h2
  refine PpSet.newSet_ok (newEnv_comp ?_)
  -- the new set
  obtain ⟨D, hD⟩ : ∃ D, D = s2.heap.objs.size := ⟨_, rfl⟩
  obtain ⟨s3, hs3⟩ : ∃ s3 : Shared, s3 = { s2 with heap := s2.heap.push (newSetO X.w) } := ⟨_, rfl⟩
  obtain ⟨H3, hH3⟩ : ∃ H3, H3 = upd H2 D (TxO X.prog X.w D []) := ⟨_, rfl⟩
  have hDn : H2 D = none := I2.hok.fresh (Nat.le_of_eq hD.symm)
  obtain ⟨W, ⟨m0, w0⟩, turn⟩ := q D hDn
  have I3 : Inv X pins σ H3 s3 := by
    rw [hs3, hH3]
    refine I2.laid (t' := s2.toks) (fun b o e => Heap.get?_push_of_some _ e) (Nat.le_of_eq hD.symm) ?_
    rw [hD]
    exact txO_new (At.fresh _ rfl)
  have f3 : ∀ b ∈ fp, FpOk X pins H3 b ∧ b < s3.heap.objs.size := fun b hb => by
    obtain ⟨o, e, _⟩ := T.obj _ _ st2 b hb
    have lt := Heap.lt_size e
    refine ⟨⟨?_, (f2 b hb).2⟩, by rw [hs3]; show b < (s2.heap.push _).objs.size; rw [Heap.size_push]; exact Nat.lt_succ_of_lt lt⟩
    rw [hH3, upd_ne (by rw [hD]; exact Nat.ne_of_lt lt)]
    exact (f2 b hb).1
  have st3 : tn 0 s3.heap := T.keep _ _ _ st2 fun b _ o e => by rw [hs3]; exact Heap.get?_push_of_some _ e
  rw [← hH3] at w0
  clear q
  -- the block
  have I4 := block_start I3 ok hN f3
  obtain ⟨pg, pe, pi1, pg1⟩ := hb s3 H3 s3.heap.objs.size (cellsFrom (s3.heap.objs.size + 1) scope.names (cloFrom X.env.cells scope.names [])) fp
  rw [← hs3, ← hD]
  show codeAny _ _ (.compStart (SC2 elt tg iter tg1 iter1 scope pos) 0 (.ref it) (.ref D) (compEnvC scope (cellsFrom (s3.heap.objs.size + 1) scope.names (cloFrom X.env.cells scope.names [])) s3.heap.objs.size X.env)) (compPost (model X.prog X.w) X.A X.xe use Qf (.ref D) s3.heap.objs.size) { s3 with heap := pushCells (s3.heap.push { cls := .type "dict", data := .dict #[] }) scope.names }
  generalize hce : compEnvC scope (cellsFrom (s3.heap.objs.size + 1) scope.names (cloFrom X.env.cells scope.names [])) s3.heap.objs.size X.env = ce at I4 pg pe pi1 pg1 ⊢
  have cL : ce.locals = s3.heap.objs.size := by rw [← hce]; rfl
  generalize hs4 : ({ s3 with heap := pushCells (s3.heap.push { cls := .type "dict", data := .dict #[] }) scope.names } : Shared) = s4 at I4 ⊢
  have st4 : tn 0 s4.heap := T.keep _ _ _ st3 fun b _ o e => by rw [← hs4]; exact pushCells_keeps _ _ _ _ (Heap.get?_push_of_some _ e)
  -- what a turn of the first loop finds
  have fpo : ∀ {σ' : L2.St} {H' : Hp} {s' : Shared}, Inv (X.blk s3 H3 scope ce fp) [] σ' H' s' → (∀ b ∈ fp, H' b = none) → ∀ b ∈ fp, FpOk (X.blk s3 H3 scope ce fp) [] H' b := fun {σ' H' s'} I' hn b hb =>
    ⟨hn b hb, (I'.ok.exf b hb).1, I'.ok.exfs b hb, .inl hb, fun x c e => (I'.ok.exf b hb).2 x c e, fun p hp => absurd (show p ∈ ([] : List (Addr × Obj)) ++ [] from hp) (by simp)⟩
  have nfp : ∀ b ∈ fp, H3 b = none := fun b hb => (f3 b hb).1.1
  have loop : codeAny (model X.prog X.w) X.A (.compLoop (SC2 elt tg iter tg1 iter1 scope pos) 0 (.ref it) (.ref D) ce) (compPost (model X.prog X.w) X.A X.xe use Qf (.ref D) s3.heap.objs.size) s4 := by
    refine loop_out (hs1 ce) (fun n s' => ∃ i H', Inv (X.blk s3 H3 scope ce fp) [] (wipe σ (own.map (·.2))) H' s' ∧ tn i s'.heap ∧ (∀ b ∈ fp, H' b = none) ∧ W i n H') ?_ m0 ⟨0, H3, I4, st4, nfp, w0⟩
    rintro n s5 ⟨i, H5, I5, st5, n5, w5⟩
    rcases turn i n H5 w5 with ⟨stop, qq⟩ | ⟨go, Nx, hNx, step⟩
    · refine thnF (T.done (X.blk s3 H3 scope ce fp) rfl rfl rfl hc i [] s5 _ H5 (fun _ _ => False) I5 (fpo I5 n5) st5 stop) fun r s6 ⟨hr, I6⟩ => ?_
      subst hr
      have I7 : Inv X pins σ H5 s6 := I3.call' (ch := fp) I6.os I6.base I6.hok I6.bare fun b hb => ⟨(f3 b hb).1.2.2.2.1, (f3 b hb).1.2.1, (f3 b hb).1.2.2.2.2.1, (f3 b hb).1.2.2.2.2.2⟩
      have nC : H5 s3.heap.objs.size = none := by
        rw [← cL]
        exact I6.free
      obtain ⟨m, hn, _⟩ := I6.loc
      have hn : s6.heap.Ns ce.locals m := hn
      rw [cL] at hn
      exact hRR D s3.heap.objs.size s6 m H5 I7 qq hn (I3.fpOk (Nat.le_refl _) nC)
    · refine thnF (T.item (X.blk s3 H3 scope ce fp) rfl rfl rfl hc i [] s5 _ H5 (fun _ _ => False) I5 (fpo I5 n5) st5 go) fun r s6 ⟨u, hr, h6⟩ => ?_
      subst hr
      refine thnF h6 fun _ s7 ⟨x, H7, I7, r7, y7, st7, n7⟩ => ?_
      have I7' := I7.pinned (fpo I7 n7) (T.obj _ _ st7)
      refine thnF (pg.run _ s7 _ H7 x u _ I7' r7 (step x H7 y7)) fun _ s8 ⟨σ8, H8, I8, hw8, q8⟩ => ?_
      obtain ⟨pn, hpn⟩ : ∃ pn, pn = [] ++ pinsAt fp s7.heap := ⟨_, rfl⟩
      rw [← hpn] at I8
      -- back to the first loop
      have back : ∀ {σ9 : L2.St} {s' : Shared} {H' : Hp}, Inv (X.blk s3 H3 scope ce fp) pn σ9 H' s' → (wipe σ (own.map (·.2))).length = σ9.length → (∀ (j : Nat) v, (wipe σ (own.map (·.2)))[j]? = some (some v) → σ9[j]? = some (some v)) → Nx H' →
          ∃ m, m < n ∧ ∃ i H', Inv (X.blk s3 H3 scope ce fp) [] (wipe σ (own.map (·.2))) H' s' ∧ tn i s'.heap ∧ (∀ b ∈ fp, H' b = none) ∧ W i m H' := fun {σ9 s' H'} I' hl hk nx => by
        obtain ⟨m', hm, w'⟩ := hNx H' nx
        rw [hpn] at I'
        have pin' : ∀ b ∈ fp, ∀ o, s7.heap.get? b = some o → s'.heap.get? b = some o ∧ H' b = none := fun b hb o e =>
          let z := I'.pin (b, o) (List.mem_append_right _ (List.mem_append_right _ (mem_pinsAt hb e)))
          ⟨z.1, z.2.1⟩
        refine ⟨m', hm, i + 1, H', (I'.unpinned (pins := [])).weak hl hk, T.keep _ _ _ st7 fun b hb o e => (pin' b hb o e).1, fun b hb => ?_, w'⟩
        obtain ⟨o, e, _⟩ := T.obj _ _ st7 b hb
        exact (pin' b hb o e).2
      have hl9 : (wipe σ (own.map (·.2))).length = (wipe σ8 vs1).length := by rw [wipe_length σ8 vs1, ← hw8, wipe_length]
      have hk9 : ∀ (j : Nat) v, (wipe σ (own.map (·.2)))[j]? = some (some v) → (wipe σ8 vs1)[j]? = some (some v) := fun j v e => by
        rw [← hw8] at e
        obtain ⟨e1, e2⟩ := wipe_some e
        rw [wipe_out fun z => e2 (hv j z)]
        exact e1
      refine thnF (pi1.run _ s8 σ8 H8 _ I8 q8) fun xv s9 hx => thnF hx fun itv s10 h10 => ?_
      obtain ⟨it1, fp1, tn1, J1, H10, rfl, I10, T1, st10, f10, W1, ⟨m1, w1⟩, turn1⟩ := h10
      have fpo1 : ∀ {H' : Hp}, (∀ b ∈ fp1, H' b = none) → ∀ b ∈ fp1, FpOk (X.blk s3 H3 scope ce fp) pn H' b := fun hn b hb => ⟨hn b hb, (f10 b hb).2⟩
      have loop1 : codeAny (model X.prog X.w) X.A (.compLoop (SC2 elt tg iter tg1 iter1 scope pos) 1 (.ref it1) (.ref D) ce) (fun r s' => match r with
          | .ok _ => ∃ m, m < n ∧ ∃ i H', Inv (X.blk s3 H3 scope ce fp) [] (wipe σ (own.map (·.2))) H' s' ∧ tn i s'.heap ∧ (∀ b ∈ fp, H' b = none) ∧ W i m H'
          | .error _ => False) s10 := by
        refine loop_in (fun k s' => ∃ j H', Inv (X.blk s3 H3 scope ce fp) pn (wipe σ8 vs1) H' s' ∧ tn1 j s'.heap ∧ (∀ b ∈ fp1, H' b = none) ∧ W1 j k H') ?_ m1 ⟨0, H10, I10.weak (wipe_length _ _) (fun j v e => (wipe_some e).1), st10, fun b hb => (f10 b hb).1, w1⟩
        rintro k s11 ⟨j, H11, I11, st11, n11, w11⟩
        rcases turn1 j k H11 w11 with ⟨stop1, nx1⟩ | ⟨go1, Nx1, hNx1, step1⟩
        · refine thnF (T1.done (X.blk s3 H3 scope ce fp) rfl rfl rfl hc j _ s11 (wipe σ8 vs1) H11 (fun _ _ => False) I11 (fpo1 n11) st11 stop1) fun r s12 ⟨hr, I12⟩ => ?_
          subst hr
          exact back I12 hl9 hk9 nx1
        · refine thnF (T1.item (X.blk s3 H3 scope ce fp) rfl rfl rfl hc j _ s11 (wipe σ8 vs1) H11 (fun _ _ => False) I11 (fpo1 n11) st11 go1) fun r s12 ⟨u1, hr, h12⟩ => ?_
          subst hr
          refine thnF h12 fun _ s13 ⟨x1, H13, I13, r13, y13, st13, n13⟩ => ?_
          have I13' := I13.pinned (fpo1 n13) (T1.obj _ _ st13)
          refine thnF (pg1.run _ s13 (wipe σ8 vs1) H13 x1 u1 _ I13' r13 (step1 x1 H13 y13)) fun _ s14 ⟨σ14, H14, I14, hw14, q14⟩ => ?_
          refine thnF (pe.run _ s14 σ14 H14 _ I14 q14) fun z s15 ⟨yv, H15, I15, r15, c, L, ey, hD15, room, nx⟩ => ?_
          subst ey
          obtain ⟨tk, rfl⟩ := r15
          refine addT_ok (X := (X.blk s3 H3 scope ce fp)) I15 hD15 room fun s16 I16 => ?_
          obtain ⟨m', hm, w'⟩ := hNx1 _ nx
          have pin' : ∀ b ∈ fp1, ∀ o, s13.heap.get? b = some o → s16.heap.get? b = some o ∧ (upd H15 D (TxO X.prog X.w D (ins c L))) b = none := fun b hb o e =>
            let z := I16.pin (b, o) (List.mem_append_right _ (List.mem_append_right _ (mem_pinsAt hb e)))
            ⟨z.1, z.2.1⟩
          refine ⟨m', hm, j + 1, _, I16.unpinned.weak (by rw [← hw14, wipe_length]) (fun j v e => by rw [← hw14] at e; exact (wipe_some e).1), T1.keep _ _ _ st13 fun b hb o e => (pin' b hb o e).1, fun b hb => ?_, w'⟩
          obtain ⟨o, e, _⟩ := T1.obj _ _ st13 b hb
          exact (pin' b hb o e).2
      exact start_in loop1 (T1.self X.A 0 _ _ _ st10 loop1)
  exact PpSet.codeAny_compStart_set loop (T.self X.A 0 _ _ _ st4 loop)
/-- as a value -/
theorem pe_sc2 {elt tg iter tg1 iter1 : Expr} {scope : Scope} {own : List (Str × Nat)} {vs1 : List Nat} {pos : Pos} {wi wi1 : TI} {g g1 : TG} {te : TE} (hc : X.calm = true) (hN : X.N.Nodup) (hi : PI X tg iter wi) (ok : BlkOk X.N X.env.scope scope own) (hv : ∀ i ∈ vs1, i ∈ own.map (·.2))
    (b1 : ∀ (s : Shared) (H : Hp) (C : Addr) (cl : List (Str × Addr)) (fp : List Addr), PG (X.blk s H scope (compEnvC scope cl C X.env) fp) tg g)
    (b2 : ∀ (s : Shared) (H : Hp) (C : Addr) (cl : List (Str × Addr)) (fp : List Addr), PE (X.blk s H scope (compEnvC scope cl C X.env) fp) elt te)
    (b3 : ∀ (s : Shared) (H : Hp) (C : Addr) (cl : List (Str × Addr)) (fp : List Addr), PI (X.blk s H scope (compEnvC scope cl C X.env) fp) tg1 iter1 wi1)
    (b4 : ∀ (s : Shared) (H : Hp) (C : Addr) (cl : List (Str × Addr)) (fp : List Addr), PG (X.blk s H scope (compEnvC scope cl C X.env) fp) tg1 g1)
    (hs : ∀ x, foldedSetIterable iter X.env x = pure x := by intro _; rfl) (hs1 : ∀ env x, foldedSetIterable iter1 env x = pure x := by intro _ _; rfl) :
    PE X (.SetComp elt [⟨tg, iter, [], 0⟩, ⟨tg1, iter1, [], 0⟩] scope pos) (tSc2 X.prog X.w wi g wi1 g1 te (own.map (·.2)) vs1) := by
  refine ⟨fun pins s σ H Q I h => ?_⟩
  rw [PpSet.eval_SetComp]
  refine sc2_core hc hN I hi ok hv (fun s H C cl fp => ⟨b1 s H C cl fp, b2 s H C cl fp, b3 s H C cl fp, b4 s H C cl fp⟩) hs hs1 h fun D C s' m H' I' q hn f => ⟨m, hn, fun h'' sb => ?_⟩
  obtain ⟨f0, f1, f2, f3, f4, f5⟩ := f
  exact ⟨.ref D, H', I'.turned (t' := s'.toks) (fun b o hb e => (sb.2 b hb).trans e) f0 f1 f3 f4 f5, rfl, q⟩
end
end LS

set_option Elab.async false
set_option linter.all false
set_option maxRecDepth 100000
set_option maxHeartbeats 3200000
/-! sorted(xs), xs a list or a tuple of data that are alike as far as they must be compared. -/
namespace PySem.W
open PySem PySem.Calls PyProof.Rows
/-- alike up to where they differ -/
def decL : List PyData → List PyData → Bool
  | x :: xs, y :: ys => alike x y && (!PyData.eqv x y || decL xs ys)
  | _, _ => true
mutual
/-- no dict in it -/
def noD : PyData → Bool
  | .list xs => noDs xs
  | .tuple xs => noDs xs
  | .dict _ => false
  | _ => true
def noDs : List PyData → Bool
  | [] => true
  | x :: xs => noD x && noDs xs
end
mutual
theorem rUniq {h : Heap} : ∀ (d d' : PyData) (v : Value) (as as' : List Addr), noD d = true → noD d' = true → Reads h v d as → Reads h v d' as' → d = d'
  | .none, _, _, _, _, _, _, r, r' => by cases r; cases r'; rfl
  | .bool _, _, _, _, _, _, _, r, r' => by cases r; cases r'; rfl
  | .int _, _, _, _, _, _, _, r, r' => by cases r; cases r'; rfl
  | .str _, _, _, _, _, _, _, r, r' => by cases r; cases r'; rfl
  | .list xs, d', _, _, _, ha, hb, r, r' => by
    cases r with
    | list h1 h2 h3 h4 =>
      cases r' with
      | list k1 k2 k3 k4 =>
        rw [h1] at k1; cases k1
        rw [h3] at k3; cases k3
        rw [rUniqs xs _ _ _ _ (by simpa [noD] using ha) (by simpa [noD] using hb) h4 k4]
      | tuple k1 k2 k3 k4 =>
        rw [h1] at k1; cases k1
        rw [h2] at k2; exact absurd k2 (by decide)
      | dict k1 k2 k3 k4 k5 => exact absurd hb (by simp [noD])
  | .tuple xs, d', _, _, _, ha, hb, r, r' => by
    cases r with
    | tuple h1 h2 h3 h4 =>
      cases r' with
      | tuple k1 k2 k3 k4 =>
        rw [h1] at k1; cases k1
        rw [h3] at k3; cases k3
        rw [rUniqs xs _ _ _ _ (by simpa [noD] using ha) (by simpa [noD] using hb) h4 k4]
      | list k1 k2 k3 k4 =>
        rw [h1] at k1; cases k1
        rw [h2] at k2; exact absurd k2 (by decide)
      | dict k1 k2 k3 k4 k5 => exact absurd hb (by simp [noD])
  | .dict _, d', _, _, _, ha, _, _, _ => absurd ha (by simp [noD])
theorem rUniqs {h : Heap} : ∀ (xs ys : List PyData) (vs : List Value) (as as' : List Addr), noDs xs = true → noDs ys = true → ReadsAll h vs xs as → ReadsAll h vs ys as' → xs = ys
  | [], _, _, _, _, _, _, r, r' => by cases r; cases r'; rfl
  | x :: xs, [], _, _, _, _, _, r, r' => by cases r'; cases r
  | x :: xs, y :: ys, _, _, _, ha, hb, r, r' => by
    have a2 : noD x = true ∧ noDs xs = true := by simpa [noDs] using ha
    have b2 : noD y = true ∧ noDs ys = true := by simpa [noDs] using hb
    cases r with
    | cons r1 r2 =>
      cases r' with
      | cons q1 q2 =>
        rw [rUniq x y _ _ _ a2.1 b2.1 r1 q1, rUniqs xs ys _ _ _ a2.2 b2.2 r2 q2]
end
theorem dataKind_self {h : Heap} {ds : List PyData} (hal : ∀ d, d ∈ ds → noD d = true) {v : Value} {d : PyData} {as : List Addr} (hd : d ∈ ds) (r : Reads h v d as) : (dataKind h ds).keyOf v = some (keyToks d) := by
  have q : ∃ d, d ∈ ds ∧ ∃ as, Reads h v d as := ⟨d, hd, as, r⟩
  have e : (dataKind h ds).keyOf v = some (keyToks q.choose) := by
    show (open Classical in if q : ∃ d, d ∈ ds ∧ ∃ as, Reads h v d as then some (keyToks q.choose) else none) = _
    rw [dif_pos q]
  obtain ⟨h1, as', h2⟩ := q.choose_spec
  rw [e, rUniq _ _ _ _ _ (hal _ h1) (hal _ hd) h2 r]
section
variable {prog : Program} {w : World} {A : Around} {s : Shared} {E : Value → Shared → Prop}
theorem katLex_dec {b fin : Bool} {Q : Bool → Shared → Prop} : ∀ (xs ys : List PyData) (i : Nat) (vs ws : List Value) (as bs : List Addr), ReadsAll s.heap vs xs as → ReadsAll s.heap ws ys bs → decL xs ys = true →
    A.units + min (PyData.depthAll xs) (PyData.depthAll ys) < cLine → (b = true → i = 0 → ∀ x r t, xs = x :: r → x ≠ .tuple t) → fin = decide (xs.length < ys.length) → Q (PyProof.Rows.lexLt itemOrd (keyToksAll xs) (keyToksAll ys)) s → KatLex prog w A b fin Q (vs.zip ws) i s
  | [], ys, i, _, _, _, _, ra, rb, _, hu, hb, hf, hq => katLex_alike [] ys i _ _ _ _ ra rb (by simp [alikeAll]) hu hb hf hq
  | x :: xs, [], i, _, _, _, _, ra, rb, _, hu, hb, hf, hq => katLex_alike (x :: xs) [] i _ _ _ _ ra rb (by simp [alikeAll]) hu hb hf hq
  | x :: xs, y :: ys, i, _, _, _, _, ra, rb, h, hu, hb, hf, hq => by
    rw [decL, Bool.and_eq_true, Bool.or_eq_true] at h
    obtain ⟨h1, h2⟩ := h
    have hf' : fin = decide (xs.length < ys.length) := by
      rw [hf]
      simp only [List.length_cons, Nat.add_lt_add_iff_right]
    cases ra with
    | cons r rs =>
      cases rb with
      | cons r' rs' =>
        rw [List.zip_cons_cons]
        refine kat_cons (eqAt_alike x y A s _ _ _ _ r r' h1 (SeqAt.room_head hu) prog w _ _ ?_)
        cases hx : PyData.eqv x y with
        | true =>
          rw [dataLt_all_yes h1 hx] at hq
          have h3 : decL xs ys = true := by
            rcases h2 with h2 | h2
            · rw [hx] at h2; cases h2
            · exact h2
          exact kat_yes (katLex_dec xs ys (i + 1) _ _ _ _ rs rs' h3 (SeqAt.room_tail hu) (fun _ hi => absurd hi (Nat.succ_ne_zero i)) hf' hq)
        | false =>
          rw [dataLt_all_no h1 hx] at hq
          refine kat_no (oneLt_alike (fun hbi t => ?_) r r' h1 (ne_none_of h1 hx) (SeqAt.room_head hu) hq)
          rw [Bool.and_eq_true] at hbi
          exact hb hbi.1 (by simpa using hbi.2) x xs t rfl
/-- tuples that are alike up to where they differ -/
def TupDec (ds : List PyData) : Prop := (∀ d, d ∈ ds → ∃ x r, d = .tuple (x :: r)) ∧ (∀ x r y u, PyData.tuple (x :: r) ∈ ds → PyData.tuple (y :: u) ∈ ds → alike x y = true) ∧ ∀ xs ys, PyData.tuple xs ∈ ds → PyData.tuple ys ∈ ds → decL xs ys = true
def Decided (ds : List PyData) : Prop := (∀ d, d ∈ ds → noD d = true) ∧ (TupDec ds ∨ (AllAlike ds ∧ ∀ d, d ∈ ds → d ≠ .none ∧ ∀ xs, d ≠ .tuple xs))
theorem SortsAt.dec {vs : List Value} {ds : List PyData} (e : EachIs (fun v d => ∃ as, Reads s.heap v d as) vs ds) (hk : Decided ds) (hu : ∀ d, d ∈ ds → A.units + d.depth < cLine) : SortsAt prog w A s (dataKind s.heap ds) vs := by
  obtain ⟨hs, hk⟩ := hk
  rcases hk with ⟨ht, hfst, hdec⟩ | ⟨hal, hn⟩
  · have room : ∀ {d d' : PyData}, d ∈ ds → A.units + min d.depth d'.depth < cLine := fun {d d'} hd => Nat.lt_of_le_of_lt (Nat.add_le_add_left (Nat.min_le_left _ _) _) (hu d hd)
    refine ⟨fun v hv => ?_, ?_⟩
    · obtain ⟨d, hd, as, r⟩ := e.left v hv
      exact ⟨_, dataKind_self hs hd r⟩
    · cases ds with
      | nil =>
        cases e
        exact ⟨general', fun E x y a b Q ha _ _ => (by
          obtain ⟨d, _, hd, _⟩ := dataKind_inv ha
          exact absurd hd (by simp)), fun h2 => absurd h2 (by simp)⟩
      | cons d₀ ds₀ =>
        obtain ⟨x₀, r₀, e₀⟩ := ht d₀ (List.mem_cons_self ..)
        have hfirst : ∀ x r, PyData.tuple (x :: r) ∈ d₀ :: ds₀ → alike x x₀ = true := fun x r hm => hfst x r x₀ r₀ hm (e₀ ▸ List.mem_cons_self ..)
        refine ⟨tuples' (dataType x₀ != Value.type "tuple"), ?_, fun h2 E Q hq => ?_⟩
        · intro E x y a b Q ha hb hq
          obtain ⟨d, as, hd, ra, rfl⟩ := dataKind_inv ha
          obtain ⟨d', as', hd', rb, rfl⟩ := dataKind_inv hb
          have hroom := room (d' := d') hd
          obtain ⟨x1, r1, rfl⟩ := ht d hd
          obtain ⟨x2, r2, rfl⟩ := ht d' hd'
          have hq' : Q (dataLt (.tuple (x1 :: r1)) (.tuple (x2 :: r2))) s := hq
          rw [dataLt_tuple] at hq'
          cases ra with
          | @tuple l o xs n _ _ h1 h2 h3 h4 =>
            cases rb with
            | @tuple l' o' xs' n' _ _ k1 k2 k3 k4 =>
              have n1 : xs.size = (x1 :: r1).length := by simpa using SeqAt.ReadsAll.length _ _ _ h4
              have n2 : xs'.size = (x2 :: r2).length := by simpa using SeqAt.ReadsAll.length _ _ _ k4
              refine kat_lt h1 h3 k1 k3 (katLex_dec (x1 :: r1) (x2 :: r2) 0 _ _ _ _ h4 k4 (hdec _ _ hd hd') (by have q := SeqAt.room_in hroom; omega) (fun hb _ x r t ex => ?_) (by rw [n1, n2]) hq')
              obtain ⟨rfl, rfl⟩ := List.cons.inj ex
              have q := dataType_alike (hfirst _ _ hd)
              rw [← q] at hb
              exact dataType_tuple hb t
        · obtain ⟨fs, t1, t2, t3⟩ := each_katTups e ht
          refine kat_kind (T := dataType x₀) t1 (by omega) (fun f hf => ?_) (beq_self_eq_true _) hq
          obtain ⟨x, r, as, m1, m2⟩ := t3 f hf
          rw [← dataType_alike (hfirst x r m1)]
          exact looks_reads m2
  · exact SortsAt.data e hal (.inr hn) hu
theorem collect_seqX {Q : List Value → Shared → Prop} (it : Addr) {T : String} {o : Obj} {items : Array Value} {n : Nat} (hT : T = "list" ∨ T = "tuple")
    (ho : s.heap.get? it = some o) (hc : o.cls = .type T) (hd : o.data = .seq items n) (hsz : items.size ≤ sizeLine)
    (hQ : ∀ h', (∀ b o', s.heap.get? b = some o' → h'.get? b = some o') → s.heap.objs.size ≤ h'.objs.size → Q items.toList { s with heap := h' }) :
    wpAny (model prog w) A (collect (.ref it)) Q E s := by
  have main : wpAny (model prog w) A (collect (.ref it)) (fun r s' => r = items.toList ∧ ∃ h', s' = { s with heap := h' } ∧ (∀ b o', s.heap.get? b = some o' → h'.get? b = some o') ∧ s.heap.objs.size ≤ h'.objs.size) E s := by
    unfold collect
    refine wpAny_bind (wpAny_runValue (codeAny_builtin F.entry_proto_collect ?_))
    rw [Around.under_plainId F.plain_proto_collect _]
    show wpAny _ A.in1 (newList [] >>= fun l => again (.builtin "list.__iadd__" ⟨[l, .ref it], []⟩)) _ _ s
    refine wpAny_bind (wpAny_newObj_type ?_)
    refine wpAny_pure ⟨plainId_quiet F.plain_list_iadd _, codeAny_builtin F.entry_list_iadd ?_⟩
    rw [Around.under_plainId F.plain_list_iadd _]
    show wpAny _ A.in1 (Builtin.List.listExtendWith (.ref s.heap.objs.size) (.ref it) (.ref s.heap.objs.size)) _ _ _
    have hS : (s.heap.push { cls := .type "list", data := .seq ([] : List Value).toArray }).get? s.heap.objs.size = some { cls := .type "list", data := .seq #[] 0 } := Heap.get?_push_size _ rfl
    have hS₂ := Heap.get?_update_self (Obj.mapSeq (· ++ items)) hS rfl
    have fin' : wpAny (model prog w) A (match Value.ref s.heap.objs.size with
        | Value.ref a => do
          match (← load a).data with
            | Data.seq xs _ => pure xs.toList
            | _ => unsupported "internal:collect"
        | _ => unsupported "internal:collect") (fun r s' => r = items.toList ∧ ∃ h', s' = { s with heap := h' } ∧ (∀ b o', s.heap.get? b = some o' → h'.get? b = some o') ∧ s.heap.objs.size ≤ h'.objs.size) E { s with heap := (s.heap.push { cls := .type "list", data := .seq ([] : List Value).toArray }).update s.heap.objs.size (Obj.mapSeq (· ++ items)) } := by
      show wpAny _ A (load s.heap.objs.size >>= _) _ _ _
      refine wpAny_bind (wpAny_load hS₂ ?_)
      refine wpAny_pure ?_
      have e : ((#[] : Array Value) ++ items).toList = items.toList := by simp
      refine ⟨e, _, rfl, fun b o' hb => ?_, ?_⟩
      · exact (Heap.get?_update_other _ _ (Nat.ne_of_gt (Heap.lt_size hb))).trans (Heap.get?_push_of_some _ hb)
      · rw [Heap.size_update, Heap.size_push]; exact Nat.le_succ _
    refine wpAny_mono (wpAny_extend_seq (hsz := hsz) (A := A) (R := fun r s' => r = .ok (.ret (.ref s.heap.objs.size)) ∧ s' = { s with heap := (s.heap.push { cls := .type "list", data := .seq ([] : List Value).toArray }).update s.heap.objs.size (Obj.mapSeq (· ++ items)) })
      (s := { s with heap := s.heap.push { cls := .type "list", data := .seq ([] : List Value).toArray } }) _ it _ 0 hT hS (Heap.get?_push_of_some _ ho) hc hd ⟨rfl, rfl⟩) (fun fin s' h => ?_) (fun e s' h => ?_)
    · cases fin with
      | done f =>
        obtain ⟨e, rfl⟩ := h
        cases e
        exact fin'
      | again c' => exact ⟨h.1, codeAny_mono h.2 fun r s'' hr => by obtain ⟨rfl, rfl⟩ := hr; exact fin'⟩
    · exact absurd h.1 (by simp)
  refine wpAny_mono main (fun r s' ⟨e, h', e2, k, z⟩ => ?_) fun _ _ x => x
  subst e e2
  exact hQ h' k z
/-- sorted(xs), xs a list or a tuple -/
theorem sorted_dec {β : Type} {R : Value → β → Prop} {enc : β → PyData} {it : Addr} {T : String} {o : Obj} {vs : List Value} {bs : List β} {n : Nat} {Q : Value → Shared → Prop} (hT : T = "list" ∨ T = "tuple") (ho : s.heap.get? it = some o) (hc : o.cls = .type T) (hd : o.data = .seq vs.toArray n)
    (e : EachIs R vs bs) (er : EachIs (fun v b => ∃ as, Reads s.heap v (enc b) as) vs bs) (hk : Decided (bs.map enc)) (hL : bs.length ≤ sizeLine) (hu : ∀ b, b ∈ bs → A.units + 2 + (enc b).depth < cLine)
    (h : ∀ (s' : Shared) (p : Addr) (out : List Value), (∀ b o, s.heap.get? b = some o → s'.heap.get? b = some o) → s'.gens = s.gens → s'.os = s.os → s.heap.objs.size ≤ p → (∃ n, s'.heap.get? p = some (seqObj "list" out.toArray n)) → EachIs R out (bs.mergeSort (dataLe false enc)) → Q (.ref p) s') :
    wpAny (model prog w) A (call (.builtin "sorted") [.ref it]) Q E s := by
  have hv : vs.length ≤ sizeLine := by rw [e.length]; exact hL
  refine Calls.call_function_entry kind_sorted plain_sorted entry_sorted (args_sorted1 _) ?_
  unfold Builtin.«sorted»
  refine wpAny_bind (m := checkCount "sorted" 1 1 _) (wpAny_pure ?_)
  refine wpAny_bind (collect_seqX (A := A.in1) it hT ho hc hd (by simpa using hv) (fun h1 k1 z1 => ?_))
  show wpAny _ _ (newList vs >>= _) _ _ _
  refine wpAny_bind (wpAny_newList ?_ hv)
  have hoL : (h1.push (seqObj "list" vs.toArray 0)).get? h1.objs.size = some (seqObj "list" vs.toArray 0) := Heap.get?_push_size _ rfl
  have keep : ∀ b o, s.heap.get? b = some o → (sortingHeap (h1.push (seqObj "list" vs.toArray 0)) h1.objs.size vs).get? b = some o := fun b o eb => by
    have q := k1 b o eb
    exact sortingHeap_old (Nat.ne_of_lt (Heap.lt_size q)) (Heap.get?_push_of_some _ q)
  have er' : EachIs (fun v b => ∃ as, Reads (sortingHeap (h1.push (seqObj "list" vs.toArray 0)) h1.objs.size vs) v (enc b) as) vs bs := er.mono fun _ _ ⟨as, r⟩ => ⟨as, PyProof.Rows.Reads.keeps keep r⟩
  have hal : ∀ d, d ∈ bs.map enc → noD d = true := hk.1
  refine wpAny_bind (wpAny_holding (wpAny_call_entry slot_list_sort ⟨_, hoL, rfl⟩ entry_list_sort (list_sort_vals (κ := dataKind (sortingHeap (h1.push (seqObj "list" vs.toArray 0)) h1.objs.size vs) (bs.map enc)) hoL
    (SortsAt.dec (s := { s with heap := sortingHeap (h1.push (seqObj "list" vs.toArray 0)) h1.objs.size vs }) (each_map (R := fun v d => ∃ as, Reads (sortingHeap (h1.push (seqObj "list" vs.toArray 0)) h1.objs.size vs) v d as) enc er') hk (fun d hd => by
      obtain ⟨b, hb, rfl⟩ := List.mem_map.mp hd
      have q := hu b hb
      simp only [PyProof.Rows.units_in1]
      omega)) hv ⟨.none, rfl, ?_⟩) (args_list_sort _)))
  refine wpAny_pure ⟨_, rfl, h _ h1.objs.size _ (fun b u eb => ?_) rfl rfl z1 (sortedHeap_at (vs := vs) hoL) ?_⟩
  · have q := k1 b u eb
    have lt := Heap.lt_size q
    show (sortedHeap (h1.push (seqObj "list" vs.toArray 0)) h1.objs.size vs _).get? b = some u
    rw [sortedHeap_old (Nat.ne_of_lt lt) (by rw [size_push']; exact Nat.lt_succ_of_lt lt)]
    exact Heap.get?_push_of_some _ q
  · exact sortVals_each (κ := dataKind _ (bs.map enc)) (fun b => keyToks (enc b)) e (each_of_map enc ((each_mem (each_map (R := fun v d => ∃ as, Reads _ v d as) enc er')).mono fun v d ⟨⟨as, r⟩, hd⟩ => dataKind_self hal hd r))
end
end PySem.W

set_option Elab.async false
set_option linter.all false
set_option maxRecDepth 100000
set_option maxHeartbeats 2000000
/-! sorted of a list or a tuple of data. -/
namespace DL
open PySem PySem.Spec PyProof.Rows L2 LW RZ
open PySem.W (EachIs dataLe Decided)
def leD (a b : D) : Bool := dataLe false D.py a b
def sortD (xs : List D) : List D := xs.mergeSort leD
theorem pyL_map : ∀ xs : List D, D.pyL xs = xs.map D.py
  | [] => rfl
  | x :: xs => by rw [D.pyL, List.map_cons, pyL_map xs]
theorem flatL_all : ∀ {xs : List D}, D.flatL xs = true → ∀ x ∈ xs, x.flat = true
  | [], _, x, m => by cases m
  | y :: ys, h, x, m => by
    have a : y.flat = true ∧ D.flatL ys = true := by simpa [D.flatL] using h
    rcases List.mem_cons.mp m with rfl | m
    · exact a.1
    · exact flatL_all a.2 x m
section
variable {X : Cx} {c : Cn} {K : PySem.W.Frag}
def rSortD (K : PySem.W.Frag) : List V → Hp → VK → Prop := fun xs H Q => ∃ (a : Addr) (bs : List (V × D)), xs = [.ref a] ∧ (SqL K H a (bs.map (·.1)) ∨ SqT K H a (bs.map (·.1))) ∧ (∀ b ∈ bs, Dp K H b.1 b.2.py) ∧ Decided (bs.map fun b => b.2.py) ∧ (∀ b ∈ bs, b.2.py.depth ≤ 60) ∧ bs.length ≤ sizeLine ∧
  ∀ p, H p = none → Q (.ref p) (upd H p (.lst ((bs.mergeSort fun a b => leD a.2 b.2).map (·.1))))
theorem each_of {σ : L2.St} {H : Hp} {s : Shared} {pins : List (Addr × Obj)} (I : Inv X pins σ H s) : ∀ {bs : List (V × D)} {us : List Value}, Vals (bs.map (·.1)) us → (∀ b ∈ bs, Dp X.K H b.1 b.2.py) → EachIs (fun (u : Value) (b : V × D) => RelV b.1 u) us bs ∧ EachIs (fun (u : Value) (b : V × D) => ∃ as, Reads s.heap u b.2.py as) us bs
  | [], _, r, _ => by cases r; exact ⟨.nil, .nil⟩
  | b :: bs, _, r, h => by
    have r' : Vals (b.1 :: bs.map (·.1)) _ := r
    cases r' with
    | cons r1 r2 =>
      obtain ⟨h1, h2⟩ := each_of I r2 fun b m => h b (List.mem_cons_of_mem _ m)
      exact ⟨.cons r1 h1, .cons (Dp.reads I _ _ _ (h b List.mem_cons_self) r1) h2⟩
theorem vals_each : ∀ {us : List Value} {bs : List (V × D)}, EachIs (fun (u : Value) (b : V × D) => RelV b.1 u) us bs → Vals (bs.map (·.1)) us
  | _, _, .nil => .nil
  | _, _, .cons h t => .cons h (vals_each t)
theorem cr_sortD (hu : X.A.units + 64 < cLine) (hK : X.K = K := by rfl) : CallR X (.builtin "sorted") (rSortD K) := by
  subst hK
  intro pins s σ H xs us Q I r h
  obtain ⟨a, bs, rfl, hq, hd, hk, dp, hL, q⟩ := h
  obtain rfl := Vals.ref1 r
  have go : ∀ (its : List Value) (T : String) (o : Obj) (n : Nat), Vals (bs.map (·.1)) its → T = "list" ∨ T = "tuple" → s.heap.get? a = some o → o.cls = .type T → o.data = .seq its.toArray n → wpAny (model X.prog X.w) X.A (call (.builtin "sorted") [.ref a]) (EP X pins σ Q) X.xe s := fun its T o n rv hT ho hc hdt => by
    obtain ⟨e1, e2⟩ := each_of I rv hd
    refine PySem.W.sorted_dec (R := fun (u : Value) (b : V × D) => RelV b.1 u) (enc := fun b : V × D => b.2.py) hT ho hc hdt e1 e2 hk hL (fun b m => ?_) fun s' p out k g os hp hg hi => ?_
    · have := dp b m
      omega
    · obtain ⟨n', hg⟩ := hg
      have hz : ((bs.mergeSort fun a b => leD a.2 b.2).map (·.1)).length ≤ sizeLine := by
        rw [List.length_map, List.length_mergeSort]; exact hL
      have hn : H p = none := I.hok.fresh hp
      have J : Inv X pins σ (upd H p (.lst ((bs.mergeSort fun a b => leD a.2 b.2).map (·.1)))) { s with heap := s'.heap, gens := s'.gens, drawn := s'.drawn, toks := s'.toks } :=
        I.call (ch := []) (Un.laid k hp hn) (I.hok.laid k hp ⟨hz, out, n', vals_each hi, hg⟩) (by rw [g]; exact I.bare) (fun _ z => nomatch z)
      have e : s' = { s with heap := s'.heap, gens := s'.gens, drawn := s'.drawn, toks := s'.toks } := by
        cases s'
        cases s
        cases os
        rfl
      rw [e]
      exact ⟨.ref p, _, J, rfl, q p hn⟩
  rcases hq with hq | hq
  · obtain ⟨its, rv, pl, _⟩ := I.list hq
    obtain ⟨o, e1, e2, n, e3⟩ := pl.isList
    exact go its "list" o n rv (.inl rfl) e1 e2 e3
  · obtain ⟨its, rv, pl, _⟩ := I.tuple hq
    obtain ⟨o, e1, e2, n, e3⟩ := pl
    exact go its "tuple" o n rv (.inr rfl) e1 e2 e3
def gSorted : List D → (D → Prop) → Prop := fun ds Q => match ds with
  | [.tup xs] => D.flatL xs = true ∧ Decided (xs.map D.py) ∧ (∀ x ∈ xs, x.py.depth ≤ 60) ∧ Q (.lst false (sortD xs))
  | [.lst _ xs] => D.flatL xs = true ∧ Decided (xs.map D.py) ∧ (∀ x ∈ xs, x.py.depth ≤ 60) ∧ Q (.lst false (sortD xs))
  | _ => False
theorem pairs_of {W : Wd} : ∀ {vs : List V} {ds : List D}, RepL K W vs ds → ∃ bs : List (V × D), bs.map (·.1) = vs ∧ bs.map (·.2) = ds ∧ ∀ b ∈ bs, Rep K W b.1 b.2
  | _, _, .nil => ⟨[], rfl, rfl, fun b m => by cases m⟩
  | _, _, .cons (v := v) (d := d) h t => by
    obtain ⟨bs, e1, e2, r⟩ := pairs_of t
    refine ⟨(v, d) :: bs, by rw [List.map_cons, e1], by rw [List.map_cons, e2], fun b m => ?_⟩
    rcases List.mem_cons.mp m with rfl | m
    · exact h
    · exact r b m
theorem repL_of {W : Wd} : ∀ {bs : List (V × D)}, (∀ b ∈ bs, Rep K W b.1 b.2) → RepL K W (bs.map (·.1)) (bs.map (·.2))
  | [], _ => .nil
  | b :: bs, h => .cons (h b List.mem_cons_self) (repL_of fun b m => h b (List.mem_cons_of_mem _ m))
theorem l_sorted : DCall K (rSortD K) gSorted := fun {W H xs ds Q Dq} ok r h k => by
  have go : ∀ (a : Addr) (vs : List V) (xs : List D), (SqL K H a vs ∨ SqT K H a vs) → vs.length ≤ sizeLine → RepL K W vs xs → D.flatL xs = true → Decided (xs.map D.py) → (∀ x ∈ xs, x.py.depth ≤ 60) → Dq (.lst false (sortD xs)) → rSortD K [.ref a] H Q := fun a vs xs hs hz rl fl dc dp q => by
    obtain ⟨bs, rfl, rfl, rb⟩ := pairs_of rl
    refine ⟨a, bs, rfl, hs, fun b m => (rb b m).dp ok.le (flatL_all fl _ (List.mem_map.mpr ⟨b, m, rfl⟩)), by rw [List.map_map] at dc; exact dc, fun b m => dp _ (List.mem_map.mpr ⟨b, m, rfl⟩), by rw [List.length_map] at hz; exact hz, fun p np => ?_⟩
    have g := Go.new ok (o := .lst ((bs.mergeSort fun a b => leD a.2 b.2).map (·.1))) np (fun x z => by cases z)
    have em : sortD (bs.map (·.2)) = (bs.mergeSort fun a b => leD a.2 b.2).map (·.2) := (List.map_mergeSort (f := fun b : V × D => b.2) (s := leD) (l := bs) (r := fun (a b : V × D) => leD a.2 b.2) (fun a _ b _ => rfl)).symm
    refine k _ (.lst false (sortD (bs.map (·.2)))) _ _ g (.lst (fun z => by cases z) ?_ upd_same ?_) q
    · rw [List.length_map, List.length_mergeSort]; rw [List.length_map] at hz; exact hz
    · rw [em]
      exact (repL_of fun b m => rb b ((List.mergeSort_perm bs _).mem_iff.mp m)).mono g.ext
  unfold gSorted at h
  split at h
  · cases r with
    | cons r1 r2 =>
      cases r2
      cases r1 with
      | tup z s l => exact go _ _ _ (.inr (s.sq ok.le)) z l h.1 h.2.1 h.2.2.1 h.2.2.2
  · cases r with
    | cons r1 r2 =>
      cases r2
      cases r1 with
      | lst n z s l => exact go _ _ _ (.inl (SqL.of (ok.le _ _ s))) z l h.1 h.2.1 h.2.2.1 h.2.2.2
  · exact h.elim
end
end DL

set_option Elab.async false
set_option linter.all false
set_option maxRecDepth 100000
set_option maxHeartbeats 4000000
namespace LW
open PySem PySem.Spec PyProof.Rows L2
/-- {k: v}, k a tuple of numbers and texts: a new dict with tuple keys -/
def tDispT (tk tv : TE) : TE := fun σ H Q => ∀ p, H p = none → tPairs [(tk, tv)] σ (upd H p (.dT [])) fun ps H2 => ∃ (t : Addr) (k : List Key) (v : V), ps = [(.ref t, v)] ∧ H2 t = some (.tup (k.map kV)) ∧ H2 p = some (.dT []) ∧ Q (.ref p) (upd H2 p (.dT [(k, v)]))
theorem pe_dispT {X : Cx} {pos : Pos} {kx vx : Expr} {tk tv : TE} (hu : X.A.units < cLine) (hk : PE X kx tk) (hv : PE X vx tv) : PE X (.Dict [some kx] [vx] pos) (tDispT tk tv) := by
  constructor
  intro pins s σ H Q I q
  have fresh := I.hok.fresh (Nat.le_refl s.heap.objs.size)
  have I1 := I.laid (a := s.heap.objs.size) (o := .dT []) (h' := s.heap.push { cls := .type "dict", data := .dict #[] }) (t' := s.toks) (fun _ _ e => Heap.get?_push_of_some _ e) (Nat.le_refl _) (dt_empty s.heap I.big)
  have whole := pps_cons (pos := pos) hk hv (pps_nil (X := X) (pos := pos))
  rw [arm_eval_Dict]
  have shape : (evalEachOpt [some kx] X.env).zip ((evalEach [vx] X.env).map fun v => do let x ← v; standAt pos; pure x) = (pairTrees [some kx] [vx] X.env pos).map fun p => (some p.1, p.2) := by rfl
  have one : (pairTrees [some kx] [vx] X.env pos).length = 1 := by rfl
  rw [shape, dictDisplay_pairs _ (by intro z; cases z) (by rw [one]; decide)]
  refine wpAny_bind (wpAny_standAt (wpAny_bind (wpAny_subDictH (knd := tupleKind (mixKind X.prog X.w)) (Q := fun d s' => wpAny (model X.prog X.w) X.A (pure (Value.ref d)) (EP X pins σ Q) X.xe s') hu (by rw [one]; decide) ?_)))
  refine thn (whole.run pins _ σ _ _ I1 (q _ fresh)) fun ws s2 said => ?_
  obtain ⟨ps, H2, I2, rel, t, k, v, rfl, ht, hp, fin⟩ := said
  cases rel with
  | cons r1 r2 =>
    rename_i w1 wr
    cases r2
    obtain ⟨xv, vv⟩ := w1
    obtain ⟨rx, rv⟩ := r1
    cases (show xv = Value.ref t from rx)
    obtain ⟨_, notSys, xs0, k0, dd⟩ := dt_of I2.hok hp
    cases k0
    refine ⟨[(k, t, vv)], ⟨rfl, rfl, key_of I2.hok ht, trivial⟩, dd, fun h' tk' dd' same => wpAny_pure ⟨.ref s.heap.objs.size, _, ?_, rfl, fin⟩⟩
    obtain ⟨ob, es, ep, hq, h2, h3, h4, _, h5⟩ := dd'
    have apart : t ≠ s.heap.objs.size := ne_of ht hp (fun z => nomatch z)
    refine d_write I2 (by rw [hp]; exact True.intro) same ⟨ob, hq⟩ ?_
    refine ⟨?_, notSys, [(k, t, vv)], .cons ⟨rfl, (upd_ne apart).trans ht, rv⟩ .nil, ob, es, ep, hq, h2, h3, h4, h5⟩
    show 1 ≤ sizeLine
    rw [sizeLine_eq]
    decide
end LW

set_option Elab.async false
set_option linter.all false
set_option maxRecDepth 100000
set_option maxHeartbeats 3200000
/-! A dict with tuples for keys, made by a comprehension. -/
namespace LW
open PySem PySem.Spec PyProof.Rows L2
section
variable {X : Cx}
/-- d[(a, b)] = v by a comprehension -/
theorem setT_ok {pins : List (Addr × Obj)} {σ : L2.St} {H : Hp} {s : Shared} {E : Value → Shared → Prop} {D t : Addr} {kvs : List (List Key × V)} {k : List Key} {v : V} {r : Value} {Q : Unit → Shared → Prop} (hu : X.A.units < cLine) (I : Inv X pins σ H s) (hD : H D = some (.dT kvs)) (hz : kvs.length < sizeLine)
    (ht : H t = some (.tup (k.map kV))) (rv : RelV v r) (h : ∀ s', Inv X pins σ (upd H D (.dT (putK kvs k v))) s' → Q () s') : wpAny (model X.prog X.w) X.A (dictSet D (.ref t) r) Q E s := by
  obtain ⟨_, hd, xs, rel, dd⟩ := dt_of I.hok hD
  have few : xs.length ≤ sizeLine := by rw [← Paired.length rel]; exact Nat.le_of_lt hz
  have one := length_putK kvs k v
  refine wpAny_dictSet_heap (knd := tupleKind (mixKind X.prog X.w)) (hsz := few) hu (key_of I.hok ht) dd fun h' now same => h _ ?_
  obtain ⟨q, es, ep, e1, e2, e3, e4, _, e5⟩ := now
  refine d_write I (by rw [hD]; exact True.intro) same ⟨q, e1⟩ ⟨by omega, hd, _, (rel.put k ht rv).keeps fun c ys ec => ?_, q, es, ep, e1, e2, e3, e4, e5⟩
  exact (upd_ne (ne_of ec hD (fun z => nomatch z))).trans ec
/-- {(a, b): v for target in iter if ..} -/
def tDcT (wi : TI) (g : TG) (tt : TT) (tk tv : TE) (vs : List Nat) : TE := fun σ H Q => wi σ H fun J H1 => ∀ D, H1 D = none → ∃ W : Nat → Nat → Hp → Prop, (∃ m, W 0 m (upd H1 D (.dT []))) ∧ ∀ i m H, W i m H →
  (J.stop i H ∧ Q (.ref D) H) ∨ (J.go i H ∧ ∃ Nx : Hp → Prop, (∀ H', Nx H' → ∃ m', m' < m ∧ W (i + 1) m' H') ∧ ∀ x H', J.yld i H x H' → g x (wipe σ vs) H' fun σ2 H2 => wipe σ2 vs = wipe σ vs ∧ tt σ2 H2 fun b H3 =>
    if b = true then tk σ2 H3 fun y H4 => tv σ2 H4 fun z H5 => ∃ kvs k t, y = .ref t ∧ H5 t = some (.tup (k.map kV)) ∧ H5 D = some (.dT kvs) ∧ kvs.length < sizeLine ∧ Nx (upd H5 D (.dT (putK kvs k z))) else Nx H3)
theorem dcT_core {pins : List (Addr × Obj)} {s : Shared} {σ : L2.St} {H : Hp} {Q : VK} {kx vx tg iter : Expr} {ifs : List Expr} {scope : Scope} {own : List (Str × Nat)} {pos pos' : Pos} {wi : TI} {g : TG} {tt : TT} {tk tv : TE} {use : Option (Value → Sem Unit)} {Qf : Value → Shared → Prop}
    (hu : X.A.units < cLine) (hc : X.calm = true) (hN : X.N.Nodup) (I : Inv X pins σ H s) (hi : PI X tg iter wi) (ok : BlkOk X.N X.env.scope scope own)
    (hb : ∀ (s : Shared) (H : Hp) (C : Addr) (cl : List (Str × Addr)) (fp : List Addr), PG (X.blk s H scope (compEnvC scope cl C X.env) fp) tg g ∧ PTs (X.blk s H scope (compEnvC scope cl C X.env) fp) ifs tt ∧
      PE (X.blk s H scope (compEnvC scope cl C X.env) fp) kx tk ∧ PE (X.blk s H scope (compEnvC scope cl C X.env) fp) vx tv) (hs : ∀ x, foldedSetIterable iter X.env x = pure x)
    (h : tDcT wi g tt tk tv (own.map (·.2)) σ H Q)
    (hRR : ∀ D C s' m H', Inv X pins σ H' s' → Q (.ref D) H' → s'.heap.Ns C m → FpOk X pins H' C → compPost (model X.prog X.w) X.A X.xe use Qf (.ref D) C (.ok .next) s') :
    wpAny (model X.prog X.w) X.A (comprehension (.DictComp kx vx [⟨tg, iter, ifs, 0⟩] scope pos) scope X.env pos' newDict false (eval iter X.env) use) Qf X.xe s := by
  have hfree : ∀ y ∈ scope.names, y.2 = .free → ∃ c, X.env.cells.lookup y.1 = some c := fun y hy e => (ok.free y hy e).elim (fun k => I.ok.has _ (.inl k)) fun k => I.ok.has _ (.inr k)
  refine wpAny_comprehension_free (use := use) rfl hs (closure_ok hfree) ok.kind (fun y hy e => by rw [ok.uniq y hy, e]) (thn (hi.run pins s σ H _ I h) fun xv s1 hx => thn hx fun itv s2 h2 => ?_)
  obtain ⟨it, fp, tn, J, H2, rfl, I2, T, st2, f2, q⟩ := h2
  refine wpAny_newObj_type (newEnv_comp ?_)
  obtain ⟨D, hD⟩ : ∃ D, D = s2.heap.objs.size := ⟨_, rfl⟩
  obtain ⟨s3, hs3⟩ : ∃ s3 : Shared, s3 = { s2 with heap := s2.heap.push { cls := .type "dict", data := .dict #[] } } := ⟨_, rfl⟩
  obtain ⟨H3, hH3⟩ : ∃ H3, H3 = upd H2 D (.dT []) := ⟨_, rfl⟩
  have hDn : H2 D = none := I2.hok.fresh (Nat.le_of_eq hD.symm)
  obtain ⟨W, ⟨m0, w0⟩, turn⟩ := q D hDn
  have I3 : Inv X pins σ H3 s3 := by
    rw [hs3, hH3]
    refine I2.laid (t' := s2.toks) (fun b o e => Heap.get?_push_of_some _ e) (Nat.le_of_eq hD.symm) ?_
    rw [hD]
    exact dt_empty s2.heap I2.big
  have f3 : ∀ b ∈ fp, FpOk X pins H3 b ∧ b < s3.heap.objs.size := fun b hb => by
    obtain ⟨o, e, _⟩ := T.obj _ _ st2 b hb
    have lt := Heap.lt_size e
    refine ⟨⟨?_, (f2 b hb).2⟩, by rw [hs3]; show b < (s2.heap.push _).objs.size; rw [Heap.size_push]; exact Nat.lt_succ_of_lt lt⟩
    rw [hH3, upd_ne (by rw [hD]; exact Nat.ne_of_lt lt)]
    exact (f2 b hb).1
  have st3 : tn 0 s3.heap := T.keep _ _ _ st2 fun b _ o e => by rw [hs3]; exact Heap.get?_push_of_some _ e
  rw [← hH3] at w0
  clear q
  have I4 := block_start I3 ok hN f3
  obtain ⟨pg, pt, pk, pe⟩ := hb s3 H3 s3.heap.objs.size (cellsFrom (s3.heap.objs.size + 1) scope.names (cloFrom X.env.cells scope.names [])) fp
  rw [← hs3, ← hD]
  show codeAny _ _ (.compStart (.DictComp kx vx [⟨tg, iter, ifs, 0⟩] scope pos) 0 (.ref it) (.ref D) (compEnvC scope (cellsFrom (s3.heap.objs.size + 1) scope.names (cloFrom X.env.cells scope.names [])) s3.heap.objs.size X.env)) (compPost (model X.prog X.w) X.A X.xe use Qf (.ref D) s3.heap.objs.size) { s3 with heap := pushCells (s3.heap.push { cls := .type "dict", data := .dict #[] }) scope.names }
  generalize hce : compEnvC scope (cellsFrom (s3.heap.objs.size + 1) scope.names (cloFrom X.env.cells scope.names [])) s3.heap.objs.size X.env = ce at I4 pg pt pk pe ⊢
  have cL : ce.locals = s3.heap.objs.size := by rw [← hce]; rfl
  generalize hs4 : ({ s3 with heap := pushCells (s3.heap.push { cls := .type "dict", data := .dict #[] }) scope.names } : Shared) = s4 at I4 ⊢
  have st4 : tn 0 s4.heap := T.keep _ _ _ st3 fun b _ o e => by rw [← hs4]; exact pushCells_keeps _ _ _ _ (Heap.get?_push_of_some _ e)
  have fpo : ∀ {σ' : L2.St} {H' : Hp} {s' : Shared}, Inv (X.blk s3 H3 scope ce fp) [] σ' H' s' → (∀ b ∈ fp, H' b = none) → ∀ b ∈ fp, FpOk (X.blk s3 H3 scope ce fp) [] H' b := fun {σ' H' s'} I' hn b hb =>
    ⟨hn b hb, (I'.ok.exf b hb).1, I'.ok.exfs b hb, .inl hb, fun x c e => (I'.ok.exf b hb).2 x c e, fun p hp => absurd (show p ∈ ([] : List (Addr × Obj)) ++ [] from hp) (by simp)⟩
  have nfp : ∀ b ∈ fp, H3 b = none := fun b hb => (f3 b hb).1.1
  have loop : codeAny (model X.prog X.w) X.A (.compLoop (.DictComp kx vx [⟨tg, iter, ifs, 0⟩] scope pos) 0 (.ref it) (.ref D) ce) (compPost (model X.prog X.w) X.A X.xe use Qf (.ref D) s3.heap.objs.size) s4 := by
    refine compLoop_anyD (fun n s' => ∃ i H', Inv (X.blk s3 H3 scope ce fp) [] (wipe σ (own.map (·.2))) H' s' ∧ tn i s'.heap ∧ (∀ b ∈ fp, H' b = none) ∧ W i n H') ?_ m0 ⟨0, H3, I4, st4, nfp, w0⟩
    rintro n s5 ⟨i, H5, I5, st5, n5, w5⟩
    rcases turn i n H5 w5 with ⟨stop, qq⟩ | ⟨go, Nx, hNx, step⟩
    · refine thnF (T.done (X.blk s3 H3 scope ce fp) rfl rfl rfl hc i [] s5 _ H5 (fun _ _ => False) I5 (fpo I5 n5) st5 stop) fun r s6 ⟨hr, I6⟩ => ?_
      subst hr
      have I7 : Inv X pins σ H5 s6 := I3.call' (ch := fp) I6.os I6.base I6.hok I6.bare fun b hb => ⟨(f3 b hb).1.2.2.2.1, (f3 b hb).1.2.1, (f3 b hb).1.2.2.2.2.1, (f3 b hb).1.2.2.2.2.2⟩
      have nC : H5 s3.heap.objs.size = none := by
        rw [← cL]
        exact I6.free
      obtain ⟨m, hn, _⟩ := I6.loc
      have hn : s6.heap.Ns ce.locals m := hn
      rw [cL] at hn
      exact hRR D s3.heap.objs.size s6 m H5 I7 qq hn (I3.fpOk (Nat.le_refl _) nC)
    · refine thnF (T.item (X.blk s3 H3 scope ce fp) rfl rfl rfl hc i [] s5 _ H5 (fun _ _ => False) I5 (fpo I5 n5) st5 go) fun r s6 ⟨u, hr, h6⟩ => ?_
      subst hr
      refine thnF h6 fun _ s7 ⟨x, H7, I7, r7, y7, st7, n7⟩ => ?_
      have I7' := I7.pinned (fpo I7 n7) (T.obj _ _ st7)
      refine thnF (pg.run _ s7 _ H7 x u _ I7' r7 (step x H7 y7)) fun _ s8 ⟨σ8, H8, I8, hw8, q8⟩ => ?_
      refine thnF (pt.run _ s8 σ8 H8 _ I8 q8) fun b s9 ⟨H9, I9, q9⟩ => ?_
      have back : ∀ {s' : Shared} {H' : Hp}, Inv (X.blk s3 H3 scope ce fp) ([] ++ pinsAt fp s7.heap) σ8 H' s' → Nx H' →
          ∃ m, m < n ∧ ∃ i H', Inv (X.blk s3 H3 scope ce fp) [] (wipe σ (own.map (·.2))) H' s' ∧ tn i s'.heap ∧ (∀ b ∈ fp, H' b = none) ∧ W i m H' := fun {s' H'} I' nx => by
        obtain ⟨m', hm, w'⟩ := hNx H' nx
        have pin' : ∀ b ∈ fp, ∀ o, s7.heap.get? b = some o → s'.heap.get? b = some o ∧ H' b = none := fun b hb o e =>
          let z := I'.pin (b, o) (List.mem_append_right _ (List.mem_append_right _ (mem_pinsAt hb e)))
          ⟨z.1, z.2.1⟩
        refine ⟨m', hm, i + 1, H', (I'.unpinned (pins := [])).weak (by rw [← hw8, wipe_length]) (fun j v e => ?_), T.keep _ _ _ st7 fun b hb o e => (pin' b hb o e).1, fun b hb => ?_, w'⟩
        · rw [← hw8] at e
          exact (wipe_some e).1
        · obtain ⟨o, e, _⟩ := T.obj _ _ st7 b hb
          exact (pin' b hb o e).2
      cases b with
      | false =>
        have q9' : Nx H9 := q9
        exact back I9 q9'
      | true =>
        rw [if_pos rfl]
        have q9' := q9
        rw [if_pos rfl] at q9'
        refine thnF (pk.run _ s9 σ8 H9 _ I9 q9') fun z s10 ⟨yk, H10, I10, r10, q10⟩ => ?_
        refine thnF (pe.run _ s10 σ8 H10 _ I10 q10) fun z2 s11 ⟨yv, H11, I11, r11, kvs, k, t, ek, ht, hD11, hz11, nx⟩ => ?_
        subst ek
        obtain rfl : z = Value.ref t := r10
        exact setT_ok (X := X.blk s3 H3 scope ce fp) hu I11 hD11 hz11 ht r11 fun s12 I12 => back I12 nx
  exact codeAny_compStart_dict loop (T.self X.A 0 _ _ _ st4 loop)
theorem pe_dcT {kx vx tg iter : Expr} {ifs : List Expr} {scope : Scope} {own : List (Str × Nat)} {pos : Pos} {wi : TI} {g : TG} {tt : TT} {tk tv : TE} (hu : X.A.units < cLine) (hc : X.calm = true) (hN : X.N.Nodup) (hi : PI X tg iter wi) (ok : BlkOk X.N X.env.scope scope own)
    (hg : ∀ (s : Shared) (H : Hp) (C : Addr) (cl : List (Str × Addr)) (fp : List Addr), PG (X.blk s H scope (compEnvC scope cl C X.env) fp) tg g) (ht : ∀ (s : Shared) (H : Hp) (C : Addr) (cl : List (Str × Addr)) (fp : List Addr), PTs (X.blk s H scope (compEnvC scope cl C X.env) fp) ifs tt)
    (hk : ∀ (s : Shared) (H : Hp) (C : Addr) (cl : List (Str × Addr)) (fp : List Addr), PE (X.blk s H scope (compEnvC scope cl C X.env) fp) kx tk)
    (he : ∀ (s : Shared) (H : Hp) (C : Addr) (cl : List (Str × Addr)) (fp : List Addr), PE (X.blk s H scope (compEnvC scope cl C X.env) fp) vx tv) (hs : ∀ x, foldedSetIterable iter X.env x = pure x := by intro _; rfl) :
    PE X (.DictComp kx vx [⟨tg, iter, ifs, 0⟩] scope pos) (tDcT wi g tt tk tv (own.map (·.2))) := by
  refine ⟨fun pins s σ H Q I h => ?_⟩
  rw [arm_eval_DictComp]
  refine dcT_core hu hc hN I hi ok (fun s H C cl fp => ⟨hg s H C cl fp, ht s H C cl fp, hk s H C cl fp, he s H C cl fp⟩) hs h fun D C s' m H' I' q hn f => ⟨m, hn, fun h'' sb => ?_⟩
  obtain ⟨f0, f1, f2, f3, f4, f5⟩ := f
  exact ⟨.ref D, H', I'.turned (t' := s'.toks) (fun b o hb e => (sb.2 b hb).trans e) f0 f1 f3 f4 f5, rfl, q⟩
end
end LW

set_option Elab.async false
set_option linter.all false
set_option maxRecDepth 100000
set_option maxHeartbeats 2000000
/-! Dicts made by comprehensions. -/
namespace DL
open PySem PySem.Spec PyProof.Rows L2 LW RZ
section
variable {X : Cx} {c : Cn} {K : PySem.W.Frag} {tg e : Expr}
def dcD (t : Bool) (g : DTG) (tt : DTT) (kx vx : DTE) (ρ : Env') : List (D × D) → List D → (List (D × D) → Prop) → Prop
  | acc, [], Q => Q acc
  | acc, d :: ds, Q => g d ρ fun ρ1 => tt ρ1 fun b => if b = true then kx ρ1 fun y => vx ρ1 fun z => isKey t y = true ∧ dcD t g tt kx vx ρ (putD acc y z) ds Q else dcD t g tt kx vx ρ acc ds Q
def fDc (t : Bool) (f : DTI) (g : DTG) (tt : DTT) (kx vx : DTE) (vs : List Nat) : Env' → (Ent → Prop) → Prop := fun ρ Q => f ρ fun items => dcD t g tt kx vx (wipeE ρ vs) [] items fun es => Q (.od t es)
theorem df_dcK {kx vx tg iter : Expr} {ifs : List Expr} {scope : Scope} {own : List (Str × Nat)} {fi : DTI} {is : List Nat} {g : DTG} {tt : DTT} {tk tv : DTE} {pos : Pos} (hc : X.calm = true) (hN : X.N.Nodup) (hi : DI X c tg iter fi) (ok : BlkOk X.N X.env.scope scope own)
    (hg : ∀ (s : Shared) (H : Hp) (C : Addr) (cl : List (Str × Addr)) (fp : List Addr), DG (X.blk s H scope (compEnvC scope cl C X.env) fp) c.nox tg is g)
    (ht : ∀ (s : Shared) (H : Hp) (C : Addr) (cl : List (Str × Addr)) (fp : List Addr), DTs (X.blk s H scope (compEnvC scope cl C X.env) fp) c.nox ifs tt)
    (hk : ∀ (s : Shared) (H : Hp) (C : Addr) (cl : List (Str × Addr)) (fp : List Addr), DE (X.blk s H scope (compEnvC scope cl C X.env) fp) c.nox kx tk)
    (he : ∀ (s : Shared) (H : Hp) (C : Addr) (cl : List (Str × Addr)) (fp : List Addr), DE (X.blk s H scope (compEnvC scope cl C X.env) fp) c.nox vx tv)
    (hin : ∀ i ∈ is, i ∈ own.map (·.2)) (hs : ∀ x, foldedSetIterable iter X.env x = pure x := by intro _; rfl) : DF X c (.DictComp kx vx [⟨tg, iter, ifs, 0⟩] scope pos) (fDc false fi g tt tk tv (own.map (·.2))) := by
  obtain ⟨wi, pi, vi⟩ := hi
  obtain ⟨gl, pg, vg⟩ := blk_g (c := c) hg
  obtain ⟨tl, pt, vt⟩ := blk_t (c := c) ht
  obtain ⟨kl, pk, vk⟩ := blk_e (c := c) hk
  obtain ⟨el, pe, ve⟩ := blk_e (c := c) he
  refine ⟨_, pe_dc hc hN pi ok pg pt pk pe hs, ⟨fun {W0 W H σ ρ Q Dq} eo en q k => vi.run eo en q fun J items W1 H1 g1 iok hz q1 A nA => ?_⟩⟩
  have en1 := en.go g1
  have gA := Go.newO g1.ok nA (o := .dK []) (by intro x z; cases z)
  obtain ⟨n1, n2⟩ := g1.ok.gone nA
  obtain ⟨Y, hY⟩ : ∃ Y : Nat → Hp → Prop, Y = fun i H => ∃ W kvs es, Go W1 H1 W H ∧ W.S A = none ∧ ¬ W.T A ∧ H A = some (.dK kvs) ∧ RepK c.K W kvs es ∧ kvs.length ≤ i ∧ dcD false g tt tk tv (wipeE ρ (own.map (·.2))) es (items.drop i) fun es => Dq (.od false es) := ⟨_, rfl⟩
  refine ⟨fun i m H => m = items.length - i ∧ i ≤ items.length ∧ Y i H, ⟨items.length, by simp, Nat.zero_le _, by rw [hY]; exact ⟨W1, [], [], gA, n1, n2, upd_same, .nil, Nat.le_refl _, q1⟩⟩, ?_⟩
  rintro i m H2 ⟨rfl, hi, y⟩
  have y' := y
  rw [hY] at y'
  obtain ⟨W2, kvs, es, g2, m1, m2, eA, rl, hx, q2⟩ := y'
  obtain ⟨st, go⟩ := iok i W2 H2 g2.ext g2.ok
  rcases Nat.lt_or_ge i items.length with lt | ge
  · have ed : items[i]? = some items[i] := List.getElem?_eq_getElem lt
    obtain ⟨g0, y0⟩ := go _ ed
    have edrop : items.drop i = items[i] :: items.drop (i + 1) := List.drop_eq_getElem_cons lt
    rw [edrop] at q2
    refine .inr ⟨g0, Y (i + 1), fun H' h => ⟨items.length - (i + 1), by omega, rfl, lt, h⟩, fun x H3 y => ?_⟩
    rw [hY]
    obtain ⟨W3, g3, r3⟩ := y0 x H3 y
    have g13 := g2.trans g3
    have enw := ((en1.go g13).wipe (own.map (·.2)))
    refine vg.run enw r3 q2 fun σ4 ρ4 en4 w4 q4 => ⟨?_, vt.run eo en4 q4 fun b W5 H5 g5 q5 => ?_⟩
    · have z := w4 (own.map (·.2)) hin
      rw [z]
      apply List.ext_getElem?
      intro j
      rw [wipe_get, wipe_get]
      by_cases mj : j ∈ own.map (·.2)
      · rw [if_pos mj, if_pos mj]
        cases σ[j]? <;> rfl
      · rw [if_neg mj]
    · have ow : Owned W2 H2 A := .here m1 m2 eA rfl
      have g35 := g3.trans g5
      cases b with
      | false =>
        obtain ⟨a1, a2, a3⟩ := g35.own A _ ow eA
        exact ⟨W5, kvs, es, g13.trans g5, a1, a2, a3, rl.mono g35.ext, by omega, q5⟩
      | true =>
        rw [if_pos rfl]
        have q5' := q5
        rw [if_pos rfl] at q5'
        refine vk.run eo (en4.go g5) q5' fun y dy W6 H6 g6 r6 q6 => ?_
        refine ve.run eo ((en4.go g5).go g6) q6 fun z dz W7 H7 g7 r7 q7 => ?_
        obtain ⟨hkey, q7⟩ := q7
        have g37 := (g35.trans g6).trans g7
        obtain ⟨a1, a2, a3⟩ := g37.own A _ ow eA
        obtain ⟨kk, rfl⟩ := isK1_of hkey
        obtain rfl := rep_key r6
        have one := length_putK kvs kk z
        refine ⟨kvs, kk, rfl, a3, by omega, W7, _, _, ?_, a1, a2, upd_same, (rl.mono g37.ext).put r7, by omega, q7⟩
        refine (g2.trans g37).touch (fun ow => notOwned_none nA ow) a1 a2 (by intro x z; cases z) (by rw [a3]; intro C dx fs z; cases z)
  · obtain rfl : i = items.length := Nat.le_antisymm hi ge
    rw [List.drop_length] at q2
    exact .inl ⟨st rfl, k A (.od false es) W2 H2 (g1.notOwned nA) (g1.trans g2) rfl ⟨A, rfl, m1, m2, .inl ⟨rfl, kvs, eA, by omega, rl⟩⟩ q2⟩
theorem df_dcT {kx vx tg iter : Expr} {ifs : List Expr} {scope : Scope} {own : List (Str × Nat)} {fi : DTI} {is : List Nat} {g : DTG} {tt : DTT} {tk tv : DTE} {pos : Pos} (hu : X.A.units < cLine) (hc : X.calm = true) (hN : X.N.Nodup) (hi : DI X c tg iter fi) (ok : BlkOk X.N X.env.scope scope own)
    (hg : ∀ (s : Shared) (H : Hp) (C : Addr) (cl : List (Str × Addr)) (fp : List Addr), DG (X.blk s H scope (compEnvC scope cl C X.env) fp) c.nox tg is g)
    (ht : ∀ (s : Shared) (H : Hp) (C : Addr) (cl : List (Str × Addr)) (fp : List Addr), DTs (X.blk s H scope (compEnvC scope cl C X.env) fp) c.nox ifs tt)
    (hk : ∀ (s : Shared) (H : Hp) (C : Addr) (cl : List (Str × Addr)) (fp : List Addr), DE (X.blk s H scope (compEnvC scope cl C X.env) fp) c.nox kx tk)
    (he : ∀ (s : Shared) (H : Hp) (C : Addr) (cl : List (Str × Addr)) (fp : List Addr), DE (X.blk s H scope (compEnvC scope cl C X.env) fp) c.nox vx tv)
    (hin : ∀ i ∈ is, i ∈ own.map (·.2)) (hs : ∀ x, foldedSetIterable iter X.env x = pure x := by intro _; rfl) : DF X c (.DictComp kx vx [⟨tg, iter, ifs, 0⟩] scope pos) (fDc true fi g tt tk tv (own.map (·.2))) := by
  obtain ⟨wi, pi, vi⟩ := hi
  obtain ⟨gl, pg, vg⟩ := blk_g (c := c) hg
  obtain ⟨tl, pt, vt⟩ := blk_t (c := c) ht
  obtain ⟨kl, pk, vk⟩ := blk_e (c := c) hk
  obtain ⟨el, pe, ve⟩ := blk_e (c := c) he
  refine ⟨_, pe_dcT hu hc hN pi ok pg pt pk pe hs, ⟨fun {W0 W H σ ρ Q Dq} eo en q k => vi.run eo en q fun J items W1 H1 g1 iok hz q1 A nA => ?_⟩⟩
  have en1 := en.go g1
  have gA := Go.newO g1.ok nA (o := .dT []) (by intro x z; cases z)
  obtain ⟨n1, n2⟩ := g1.ok.gone nA
  obtain ⟨Y, hY⟩ : ∃ Y : Nat → Hp → Prop, Y = fun i H => ∃ W kvs es, Go W1 H1 W H ∧ W.S A = none ∧ ¬ W.T A ∧ H A = some (.dT kvs) ∧ RepT c.K W kvs es ∧ kvs.length ≤ i ∧ dcD true g tt tk tv (wipeE ρ (own.map (·.2))) es (items.drop i) fun es => Dq (.od true es) := ⟨_, rfl⟩
  refine ⟨fun i m H => m = items.length - i ∧ i ≤ items.length ∧ Y i H, ⟨items.length, by simp, Nat.zero_le _, by rw [hY]; exact ⟨W1, [], [], gA, n1, n2, upd_same, .nil, Nat.le_refl _, q1⟩⟩, ?_⟩
  rintro i m H2 ⟨rfl, hi, y⟩
  have y' := y
  rw [hY] at y'
  obtain ⟨W2, kvs, es, g2, m1, m2, eA, rl, hx, q2⟩ := y'
  obtain ⟨st, go⟩ := iok i W2 H2 g2.ext g2.ok
  rcases Nat.lt_or_ge i items.length with lt | ge
  · have ed : items[i]? = some items[i] := List.getElem?_eq_getElem lt
    obtain ⟨g0, y0⟩ := go _ ed
    have edrop : items.drop i = items[i] :: items.drop (i + 1) := List.drop_eq_getElem_cons lt
    rw [edrop] at q2
    refine .inr ⟨g0, Y (i + 1), fun H' h => ⟨items.length - (i + 1), by omega, rfl, lt, h⟩, fun x H3 y => ?_⟩
    rw [hY]
    obtain ⟨W3, g3, r3⟩ := y0 x H3 y
    have g13 := g2.trans g3
    have enw := ((en1.go g13).wipe (own.map (·.2)))
    refine vg.run enw r3 q2 fun σ4 ρ4 en4 w4 q4 => ⟨?_, vt.run eo en4 q4 fun b W5 H5 g5 q5 => ?_⟩
    · have z := w4 (own.map (·.2)) hin
      rw [z]
      apply List.ext_getElem?
      intro j
      rw [wipe_get, wipe_get]
      by_cases mj : j ∈ own.map (·.2)
      · rw [if_pos mj, if_pos mj]
        cases σ[j]? <;> rfl
      · rw [if_neg mj]
    · have ow : Owned W2 H2 A := .here m1 m2 eA rfl
      have g35 := g3.trans g5
      cases b with
      | false =>
        obtain ⟨a1, a2, a3⟩ := g35.own A _ ow eA
        exact ⟨W5, kvs, es, g13.trans g5, a1, a2, a3, rl.mono g35.ext, by omega, q5⟩
      | true =>
        rw [if_pos rfl]
        have q5' := q5
        rw [if_pos rfl] at q5'
        refine vk.run eo (en4.go g5) q5' fun y dy W6 H6 g6 r6 q6 => ?_
        refine ve.run eo ((en4.go g5).go g6) q6 fun z dz W7 H7 g7 r7 q7 => ?_
        obtain ⟨hkey, q7⟩ := q7
        have g37 := (g35.trans g6).trans g7
        obtain ⟨a1, a2, a3⟩ := g37.own A _ ow eA
        cases dy with
        | tup ds =>
          cases ds with
          | nil => cases hkey
          | cons d0 ds =>
            obtain ⟨kk, ek⟩ := isKs_of (ds := d0 :: ds) hkey
            rw [ek] at r6 q7
            cases r6 with
            | @tup t _ _ z2 hu2 l2 =>
              have ex := rep_ks' l2
              subst ex
              have tr := hu2.resolve_right fun z => by
                have := z.1
                cases kk with
                | nil => cases ek
                | cons k0 ks => cases this
              have one := length_putK kvs kk z
              refine ⟨kvs, kk, t, rfl, g7.ok.le _ _ (g7.ext.s _ _ tr), a3, by omega, W7, _, _, ?_, a1, a2, upd_same, (rl.mono g37.ext).put r7, by omega, q7⟩
              refine (g2.trans g37).touch (fun ow => notOwned_none nA ow) a1 a2 (by intro x z; cases z) (by rw [a3]; intro C dx fs z; cases z)
        | _ => cases hkey
  · obtain rfl : i = items.length := Nat.le_antisymm hi ge
    rw [List.drop_length] at q2
    exact .inl ⟨st rfl, k A (.od true es) W2 H2 (g1.notOwned nA) (g1.trans g2) rfl ⟨A, rfl, m1, m2, .inr ⟨rfl, kvs, eA, by omega, rl⟩⟩ q2⟩
end
end DL

set_option Elab.async false
set_option linter.all false
set_option maxRecDepth 100000
set_option maxHeartbeats 3200000
/-! Sets of tuples of ints and texts. -/
namespace LTS
open PySem PySem.Spec PyProof.Rows L2
section
variable {P : Program} {w : World} {A : Around} {E : Value → Shared → Prop} {s : Shared}
abbrev Hs (P : Program) (w : World) (k : List Key) : Int := tupleKeyHash (mixKind P w) k
abbrev Tk (P : Program) (w : World) (h : Heap) (k : List Key) (a : Addr) : Prop := IsTupleKey (mixKind P w) h k a
/-- an int or a text -/
def flatK : Value → Bool
  | .int _ _ => true
  | .str _ _ => true
  | _ => false
theorem key_flat {k : Key} {v : Value} (h : (mixKind P w).is k v = true) : flatK v = true := by
  rcases keyIs_shape (show keyIs k v = true from h) with ⟨i, t, rfl, rfl⟩ | ⟨x, t, rfl, rfl⟩
  · rfl
  · rfl
theorem items_flat : ∀ {k : List Key} {vs : List Value}, ItemsAre (mixKind P w) k vs → ∀ v ∈ vs, flatK v = true := by
  intro k vs h
  induction h with
  | nil => intro v hv; cases hv
  | cons h1 _ ih =>
    intro v hv
    rcases List.mem_cons.mp hv with rfl | hv
    · exact key_flat h1
    · exact ih v hv
theorem class_flat {v : Value} (h : flatK v = true) (n : Nat) : ofAClassStatement n v = pure false := by
  cases v <;> first | (cases n <;> rfl) | (cases h)
theorem hash_flat {v : Value} (h : flatK v = true) (n : Nat) : ∃ b, hashByValue n v = pure b := by
  cases v with
  | int i t => exact ⟨true, by cases n <;> rfl⟩
  | str x t => exact ⟨false, by cases n <;> rfl⟩
  | _ => cases h
/-- a loop over flat values that finds nothing -/
theorem over_flat {β : Type} {items : Array Value} {f : Value → β → Sem (ForInStep β)} {b0 : β} {Q : β → Shared → Prop} (hf : ∀ v ∈ items.toList, flatK v = true) (ht : ∀ v, flatK v = true → wpAny (model P w) A (f v b0) (fun r s' => r = .yield b0 ∧ s' = s) E s) (h : Q b0 s) :
    wpAny (model P w) A (forIn items b0 f) Q E s := by
  rw [← Array.forIn_toList]
  refine wpAny_forIn_list _ (fun rest r s' => r = b0 ∧ s' = s ∧ ∀ v ∈ rest, flatK v = true) _ ?_ ?_ _ _ ⟨rfl, rfl, hf⟩
  · rintro v rest r s' ⟨rfl, rfl, all⟩
    refine wpAny_mono (ht v (all v List.mem_cons_self)) (fun x s2 ⟨e1, e2⟩ => ?_) fun _ _ x => x
    subst e1 e2
    exact ⟨rfl, rfl, fun u hu => all u (List.mem_cons_of_mem _ hu)⟩
  · rintro r s' ⟨rfl, rfl, _⟩
    exact h
theorem class_tup {k : List Key} {b : Addr} {Q : Bool → Shared → Prop} (hk : Tk P w s.heap k b) (h : Q false s) : wpAny (model P w) A (ofAClassStatement 8 (.ref b)) Q E s := by
  have hT := hk.typeIs
  obtain ⟨o, items, n, ho, _, hd, hi⟩ := hk
  unfold ofAClassStatement
  refine wpAny_bind (wpAny_typeOf hT ?_)
  dsimp only
  rw [if_pos (by decide)]
  refine wpAny_bind (wpAny_pure ?_)
  rw [if_neg (by decide)]
  refine wpAny_bind (wpAny_seqItems ho hd ?_)
  dsimp only
  refine wpAny_bind (over_flat (items_flat hi) (fun v hv => ?_) ?_)
  · rw [class_flat hv]
    exact wpAny_bind (wpAny_pure (wpAny_pure ⟨rfl, rfl⟩))
  · exact wpAny_pure h
theorem hash_tup {k : List Key} {b : Addr} {Q : Bool → Shared → Prop} (hk : Tk P w s.heap k b) (h : ∀ r, Q r s) : wpAny (model P w) A (hashByValue 8 (.ref b)) Q E s := by
  have hT := hk.typeIs
  obtain ⟨o, items, n, ho, _, hd, hi⟩ := hk
  unfold hashByValue
  refine wpAny_bind (wpAny_specialOf hT F.slot_tuple_hash.lookup ?_)
  show wpAny _ _ (seqItems? (.ref b) >>= _) _ _ s
  refine wpAny_bind (wpAny_seqItems ho hd ?_)
  refine wpAny_bind ?_
  show wpAny _ _ (forIn items _ _) _ _ s
  rw [← Array.forIn_toList]
  refine wpAny_forIn_list _ (fun rest r s' => s' = s ∧ ∀ v ∈ rest, flatK v = true) _ ?_ ?_ _ _ ⟨rfl, items_flat hi⟩
  · rintro v rest r s' ⟨rfl, all⟩
    obtain ⟨z, ez⟩ := hash_flat (all v List.mem_cons_self) 7
    have next : ∀ u ∈ rest, flatK u = true := fun u hu => all u (List.mem_cons_of_mem _ hu)
    rw [ez]
    refine wpAny_bind (wpAny_pure ?_)
    cases z with
    | true => exact wpAny_pure ⟨rfl, next⟩
    | false => exact wpAny_pure (wpAny_pure (h _))
  · rintro ⟨r1, r2⟩ s' ⟨rfl, _⟩
    cases r1 with
    | none => exact wpAny_pure (h _)
    | some r => exact wpAny_pure (h _)
/-- a search among tuples shows nothing -/
theorem seen_none {k : List Key} {b : Addr} {Q : Bool → Shared → Prop} (hk : Tk P w s.heap k b) {ys : List Value} (hy : ∀ y ∈ ys, ∃ k' c, y = Value.ref c ∧ Tk P w s.heap k' c) (h : Q false s) : wpAny (model P w) A (searchCouldBeSeen (.ref b) ys) Q E s := by
  unfold searchCouldBeSeen
  refine wpAny_bind ?_
  refine wpAny_forIn_list _ (fun rest r s' => r = (none, ()) ∧ s' = s ∧ ∀ y ∈ rest, ∃ k' c, y = Value.ref c ∧ Tk P w s.heap k' c) _ ?_ ?_ _ _ ⟨rfl, rfl, hy⟩
  · rintro v rest r s' ⟨rfl, rfl, all⟩
    obtain ⟨k', c, rfl, hc⟩ := all v List.mem_cons_self
    have next : ∀ y ∈ rest, ∃ k' c, y = Value.ref c ∧ Tk P w s'.heap k' c := fun u hu => all u (List.mem_cons_of_mem _ hu)
    dsimp only
    split
    · exact wpAny_pure ⟨rfl, rfl, next⟩
    · refine wpAny_bind (wpAny_eqIsQuiet_tuple hk ?_)
      rw [if_neg (by decide)]
      refine wpAny_bind (wpAny_eqIsQuiet_tuple hc ?_)
      rw [if_neg (by decide)]
      refine wpAny_bind (class_tup hk ?_)
      rw [if_neg (by decide)]
      refine wpAny_bind (class_tup hc ?_)
      rw [if_neg (by decide)]
      exact wpAny_pure ⟨rfl, rfl, next⟩
  · rintro r s' ⟨rfl, rfl, _⟩
    exact wpAny_pure h
/-! ### the set -/
/-- entries and table hold these tuples -/
structure Laid (P : Program) (w : World) (L : List (Addr × List Key)) (es : Array (Int × Value)) (t : SetTable) : Prop where
  rows : es.toList = L.map fun p => (Hs P w p.2, Value.ref p.1)
  tab : TabOk t (L.map fun p => Hs P w p.2)
  nd : (L.map (·.2)).Nodup
  led : w.params.followText "set-order" = true ∨ t.led = true
  room : L.length * 5 < t.mask * 3
  few : L.length < 64
def TAt (P : Program) (w : World) (h : Heap) (a : Addr) (L : List (Addr × List Key)) : Prop := ∃ o es ep t, h.get? a = some o ∧ o.ExactSet ∧ o.data = .set es ep t ∧ Laid P w L es t
variable {a : Addr} {L : List (Addr × List Key)} {es : Array (Int × Value)} {ep : Nat} {t : SetTable} {o : Obj}
theorem Laid.size (R : Laid P w L es t) : es.size = L.length := by
  have h := congrArg List.length R.rows
  rwa [List.length_map, Array.length_toList] at h
theorem Laid.place (R : Laid P w L es t) : t.place.size = L.length := by
  have h := R.tab.sz
  rwa [List.length_map] at h
theorem Laid.fits (R : Laid P w L es t) : t.fits es.size = true := by
  have h1 := R.place
  have h2 := R.size
  have h3 := R.room
  unfold SetTable.fits SetTable.fill
  rw [R.tab.dm, Bool.and_eq_true, beq_iff_eq, decide_eq_true_eq]
  show t.place.size = es.size ∧ t.place.size + 0 ≤ t.mask
  omega
theorem Laid.entry (R : Laid P w L es t) {i : Nat} {p : Addr × List Key} (h : L[i]? = some p) : es[i]? = some (Hs P w p.2, Value.ref p.1) := by
  rw [← Array.getElem?_toList, R.rows, List.getElem?_map, h]
  rfl
theorem Laid.hash (R : Laid P w L es t) {i : Nat} {p : Addr × List Key} (h : L[i]? = some p) : (es[i]?.map (·.1)).getD 0 = Hs P w p.2 := by
  rw [R.entry h]
  rfl
/-- what stands in a taken slot -/
theorem Laid.at (R : Laid P w L es t) {i j : Nat} (h : t.place.toList[i]? = some j) : ∃ p, L[i]? = some p ∧ p ∈ L := by
  have lt : i < t.place.toList.length := (List.getElem?_eq_some_iff.mp h).1
  rw [Array.length_toList, R.place] at lt
  exact ⟨L[i], List.getElem?_eq_getElem lt, List.getElem_mem lt⟩
theorem no_dummy (m : Nat) : ∀ (n : Nat) (p : SetTable.Probe), p.dummy = none → (nth m p n).dummy = none
  | 0, _, h => h
  | n + 1, p, h => no_dummy m n (adv m p) (by unfold adv; split <;> exact h)
/-- the way that a key goes -/
abbrev st0 (t : SetTable) (h : Int) : SetTable.Probe := runAt t.mask (SetTable.bits h % (t.mask + 1)) (SetTable.bits h)
theorem Laid.solid (R : Laid P w L es t) : ¬ t.gaveWay = true := by
  unfold SetTable.gaveWay
  rw [mask_odd R.tab.mok]
  decide
/-- the search, from step c on: nothing that stands on the first c steps has the key -/
theorem seek (R : Laid P w L es t) (ho : s.heap.get? a = some o) (hd : o.data = .set es ep t) {x : Addr} {k : List Key} (hx : Tk P w s.heap k x) (tup : ∀ p ∈ L, Tk P w s.heap p.2 p.1) (hu : A.units < cLine) {K : Nat} (hKf : K < 10 * SetTable.turns t.mask)
    (hK : way t.mask (Hs P w k) K ∉ t.place.toList) (hKb : ∀ c, c < K → way t.mask (Hs P w k) c ∈ t.place.toList) {Q : SetFound → Shared → Prop} (yes : k ∈ L.map (·.2) → Q (.there none) s) (no : k ∉ L.map (·.2) → Q (.free (way t.mask (Hs P w k) K) false) s) :
    ∀ (f c : Nat) (stand : Option SetTable.Probe), stand.getD (t.probeStart (Hs P w k)) = nth t.mask (st0 t (Hs P w k)) c → c ≤ K → K - c < f →
      (∀ (c' i : Nat) p, c' < c → t.place.toList[i]? = some (way t.mask (Hs P w k) c') → L[i]? = some p → p.2 ≠ k) → wpAny (model P w) A (setSearchFrom a (.ref x) (Hs P w k) true f stand) Q E s := by
  intro f
  induction f with
  | zero => intro c stand _ _ hf; exact absurd hf (Nat.not_lt_zero _)
  | succ f ih =>
    intro c stand hst hc hf clear
    have shift : ∀ q, nth t.mask (nth t.mask (st0 t (Hs P w k)) c) q = nth t.mask (st0 t (Hs P w k)) (c + q) := fun q => (nth_add t.mask c _ q).symm
    have wy : ∀ q, (nth t.mask (nth t.mask (st0 t (Hs P w k)) c) q).j = way t.mask (Hs P w k) (c + q) := fun q => congrArg SetTable.Probe.j (shift q)
    have spec := go_spec t R.tab.ris R.tab.dm (fun i => (es[i]?.map (·.1)).getD 0) (Hs P w k) (10 * SetTable.turns t.mask) (K - c) _ (no_dummy t.mask c (st0 t (Hs P w k)) rfl) (by omega)
      (fun q hq => by rw [wy]; exact hKb (c + q) (by omega)) (by rw [wy, show c + (K - c) = K by omega]; exact hK)
    rw [setSearchFrom_succ]
    refine wpAny_bind (wpAny_setState_of ho hd R.fits ?_)
    dsimp only
    rw [if_neg R.solid]
    -- what is not met has another key
    have other : ∀ (q i : Nat) p, (es[i]?.map (·.1)).getD 0 ≠ Hs P w k → L[i]? = some p → p.2 ≠ k := fun q i p hne hp e => hne (by rw [R.hash hp, e])
    rcases spec with ⟨q, i, hq, hi, hh, hno, hpr⟩ | ⟨hno, hpr⟩
    · have met : t.probe (fun i => (es[i]?.map (·.1)).getD 0) (Hs P w k) (stand.getD (t.probeStart (Hs P w k))) = some (.candidate (way t.mask (Hs P w k) (c + q)) i (nth t.mask (st0 t (Hs P w k)) (c + (q + 1)))) := by
        rw [hst, ← wy, ← shift]
        exact hpr
      rw [met]
      rw [wy] at hi
      obtain ⟨p, hp, hm⟩ := R.at hi
      have hsl : t.slot (way t.mask (Hs P w k) (c + q)) = .live i := slot_live R.tab.ris hi
      have rest : wpAny (model P w) A (searchRest a (.ref x) (Hs P w k) true f es t (way t.mask (Hs P w k) (c + q)) i (nth t.mask (st0 t (Hs P w k)) (c + (q + 1)))) Q E s := by
        unfold searchRest
        rw [R.entry hp]
        dsimp only
        refine wpAny_bind (wpAny_holding (wpAny_eqBool_tuple hu (tup p hm) hx ?_))
        refine wpAny_bind (wpAny_setState_of ho hd R.fits ?_)
        dsimp only
        by_cases hkk : p.2 = k
        · rw [if_pos (by rw [hkk]; simp)]
          exact wpAny_pure (yes (List.mem_map.mpr ⟨p, hm, hkk⟩))
        · rw [if_neg (by simp [hkk]), sameMem]
          dsimp only
          simp only [if_true, hsl, R.entry hp]
          refine wpAny_bind (wpAny_isSame_ref_self (wpAny_bind (wpAny_pure ?_)))
          simp only [if_true]
          rw [if_neg (by simp [hkk])]
          refine ih (c + (q + 1)) _ rfl (by omega) (by omega) fun c' i' p' hc' hi' hp' => ?_
          rcases Nat.lt_trichotomy c' (c + q) with lt | e | gt
          · rcases Nat.lt_or_ge c' c with lt2 | ge2
            · exact clear c' i' p' lt2 hi' hp'
            · exact other 0 i' p' (hno (c' - c) i' (by omega) (by rw [wy, show c + (c' - c) = c' by omega]; exact hi')) hp'
          · rw [e] at hi'
            have s2 := slot_live R.tab.ris hi'
            rw [hsl] at s2
            injection s2 with s2
            rw [← s2, hp] at hp'
            rw [← Option.some.inj hp']
            exact hkk
          · omega
      by_cases hl : t.led = true
      · rw [hl]
        simp only [Bool.not_true, Bool.false_eq_true, if_false]
        exact rest
      · have hl' : t.led = false := by simpa using hl
        rw [hl']
        simp only [Bool.not_false, if_true]
        refine wpAny_bind (seen_none hx (fun y hy => ?_) ?_)
        · obtain ⟨e, he, ee⟩ := List.mem_map.mp hy
          have he1 : e ∈ es ∧ e.1 = Hs P w k := by simpa using he
          have he2 : e ∈ es.toList := by simpa using he1.1
          rw [R.rows] at he2
          obtain ⟨p2, hp2, e2⟩ := List.mem_map.mp he2
          exact ⟨p2.2, p2.1, by rw [← ee, ← e2], tup p2 hp2⟩
        · simp only [Bool.false_eq_true, if_false]
          exact rest
    · have met : t.probe (fun i => (es[i]?.map (·.1)).getD 0) (Hs P w k) (stand.getD (t.probeStart (Hs P w k))) = some (.empty (way t.mask (Hs P w k) K) none) := by
        have e2 : way t.mask (Hs P w k) K = (nth t.mask (nth t.mask (st0 t (Hs P w k)) c) (K - c)).j := by
          rw [wy, show c + (K - c) = K by omega]
        rw [hst, e2]
        exact hpr
      rw [met]
      refine wpAny_pure (no fun hm => ?_)
      obtain ⟨p, hp, e⟩ := List.mem_map.mp hm
      obtain ⟨i, hi, ei⟩ := List.getElem_of_mem hp
      have hp' : L[i]? = some p := by rw [List.getElem?_eq_getElem hi, ei]
      have lt : i < t.place.toList.length := by rw [Array.length_toList, R.place]; exact hi
      have hj := List.getElem?_eq_getElem lt
      obtain ⟨c', hc', ew⟩ := R.tab.before hK (i := i) (h := Hs P w k) (by rw [List.getElem?_map, hp', ← e]; rfl) hj
      rw [← ew] at hj
      rcases Nat.lt_or_ge c' c with lt2 | ge2
      · exact clear c' i p lt2 hj hp' e
      · exact other 0 i p (hno (c' - c) i (by omega) (by rw [wy, show c + (c' - c) = c' by omega]; exact hj)) hp' e
theorem seek_all (R : Laid P w L es t) (ho : s.heap.get? a = some o) (hd : o.data = .set es ep t) {x : Addr} {k : List Key} (hx : Tk P w s.heap k x) (tup : ∀ p ∈ L, Tk P w s.heap p.2 p.1) (hu : A.units < cLine) {Q : SetFound → Shared → Prop} (yes : k ∈ L.map (·.2) → Q (.there none) s)
    (no : ∀ K, k ∉ L.map (·.2) → way t.mask (Hs P w k) K ∉ t.place.toList → (∀ c, c < K → way t.mask (Hs P w k) c ∈ t.place.toList) → Q (.free (way t.mask (Hs P w k) K) false) s) : wpAny (model P w) A (setSearch a (.ref x) (Hs P w k) true) Q E s := by
  have hroom := R.room
  obtain ⟨K, hKf, hK, hKb⟩ := R.tab.first (by rw [List.length_map]; omega) (Hs P w k)
  have hbig : 10 * SetTable.turns t.mask ≤ 1420 := by
    unfold SetTable.turns
    rcases R.tab.mok with e | e | e <;> omega
  unfold setSearch
  exact seek R ho hd hx tup hu hKf hK hKb yes (fun hn => no K hn hK hKb) 100000 0 none rfl (Nat.zero_le _) (by omega) fun _ _ _ h => absurd h (Nat.not_lt_zero _)
theorem all_of_range {α : Type} : ∀ l : List α, (List.range l.length).filterMap (fun i => l[i]?) = l
  | [] => rfl
  | x :: l => by
    have ih := all_of_range l
    rw [List.length_cons, List.range_succ_eq_map, List.filterMap_cons_some (show (x :: l)[0]? = some x from rfl), List.filterMap_map]
    exact congrArg (x :: ·) ih
theorem filt_some {β : Type} {f : Nat → Option β} {g : Nat → β} : ∀ l : List Nat, (∀ i ∈ l, f i = some (g i)) → l.filterMap f = l.map g
  | [], _ => rfl
  | x :: l, h => by
    rw [List.filterMap_cons_some (h x List.mem_cons_self), List.map_cons, filt_some l fun i m => h i (List.mem_cons_of_mem _ m)]
theorem Tk.apart {h h' : Heap} {k : List Key} {a b : Addr} {o : Obj} {es : Array (Int × Value)} {ep : Nat} {t : SetTable} (hb : Tk P w h k b) (ho : h.get? a = some o) (hd : o.data = .set es ep t) (hs : Heap.SameBut a h h') : Tk P w h' k b := by
  obtain ⟨o', items, n, e1, e2, e3, e4⟩ := hb
  by_cases e : b = a
  · rw [e, ho] at e1
    rw [← Option.some.inj e1, hd] at e3
    cases e3
  · exact ⟨o', items, n, (hs.2 b e).trans e1, e2, e3, e4⟩
/-- the entries in another order -/
theorem turned {order : Array Nat} (hr : es.toList = L.map fun p => (Hs P w p.2, Value.ref p.1)) (hp : order.toList.Perm (List.range L.length)) :
    ∃ L2 : List (Addr × List Key), L2.Perm L ∧ (order.filterMap (es[·]?)).toList = L2.map (fun p => (Hs P w p.2, Value.ref p.1)) ∧ (order.toList.map fun i => (es.map (·.1)).getD i 0) = L2.map fun p => Hs P w p.2 := by
  refine ⟨order.toList.filterMap fun i => L[i]?, ?_, ?_, ?_⟩
  · have q := hp.filterMap fun i => L[i]?
    rwa [all_of_range] at q
  · rw [Array.toList_filterMap, List.map_filterMap]
    refine congrArg (fun f => List.filterMap f order.toList) (funext fun i => ?_)
    rw [← Array.getElem?_toList, hr, List.getElem?_map]
  · rw [List.map_filterMap]
    refine (filt_some _ fun i hi => ?_).symm
    have lt : i < L.length := List.mem_range.mp (hp.mem_iff.mp hi)
    have e1 : (es.map (·.1))[i]? = some (Hs P w (L[i]).2) := by
      rw [Array.getElem?_map, ← Array.getElem?_toList, hr, List.getElem?_map, List.getElem?_eq_getElem lt]
      rfl
    rw [List.getElem?_eq_getElem lt, Array.getD_eq_getD_getElem?, e1]
    rfl
/-- laid anew in a larger table -/
theorem relay (ho : s.heap.get? a = some o) (hex : o.ExactSet) (hd : o.data = .set es ep t) (hr : es.toList = L.map fun p => (Hs P w p.2, Value.ref p.1)) (hz : t.place.size = L.length) (hdm : t.dummies = #[]) (hfl : L.length ≤ t.mask) (nd : (L.map (·.2)).Nodup) (ld : w.params.followText "set-order" = true ∨ t.led = true) (few : L.length < 64)
    {wanted M : Nat} (hw : SetTable.sizeAbove wanted - 1 = M) (hM : MaskOk M) (hw2 : SetTable.sizeAbove wanted ≤ 128) (hn : L.length * 5 < M * 3) {Q : Unit → Shared → Prop}
    (hQ : ∀ h' L', Heap.SameBut a s.heap h' → TAt P w h' a L' → L'.Perm L → Q () { s with heap := h' }) : wpAny (model P w) A (setRelay a wanted) Q E s := by
  have hsl : es.size = L.length := by
    have h := congrArg List.length hr
    rwa [List.length_map, Array.length_toList] at h
  have hfits : t.fits es.size = true := by
    unfold SetTable.fits SetTable.fill
    rw [hdm, Bool.and_eq_true, beq_iff_eq, decide_eq_true_eq]
    show t.place.size = es.size ∧ t.place.size + 0 ≤ t.mask
    omega
  obtain ⟨t', order, e, hp, T, em, el, _, _⟩ := relaid_ok t (hs := es.map (·.1)) (wanted := wanted) hw hM (by rw [Array.size_map, hsl]; omega)
  rw [Array.size_map, hsl] at hp
  obtain ⟨L2, pm, r1, r2⟩ := turned hr hp
  rw [r2] at T
  have hs2 : (order.filterMap (es[·]?)).size = L.length := by
    have h := congrArg List.length r1
    rwa [List.length_map, Array.length_toList, pm.length_eq] at h
  rw [setRelay_eq]
  refine wpAny_bind (wpAny_setState_of ho hd hfits ?_)
  dsimp only
  rw [if_neg (by rw [sizeLine_eq]; omega), e]
  dsimp only
  rw [if_neg (by rw [hs2, hsl]; simp)]
  refine wpAny_bind (wpAny_pure ?_)
  dsimp only
  refine wpAny_storeSet_of ho hd ?_ (by rw [hs2, sizeLine_eq]; omega)
  refine hQ _ L2 (Heap.SameBut.update ..) ⟨_, _, ep + 1, t', store_at ho hd, ⟨hex.1, hex.2.1, hex.2.2⟩, rfl, r1, T, (pm.map (·.2)).nodup_iff.mpr nd, by rw [el]; exact ld, by rw [pm.length_eq, em]; exact hn, by rw [pm.length_eq]; exact few⟩ pm
/-- one more -/
theorem add (R : TAt P w s.heap a L) (tup : ∀ p ∈ L, Tk P w s.heap p.2 p.1) {x : Addr} {k : List Key} (hx : Tk P w s.heap k x) (hu : A.units < cLine) (hfew : L.length + 1 < 64) {Q : Bool → Shared → Prop}
    (hQ : ∀ b h' L', Heap.SameBut a s.heap h' → TAt P w h' a L' → (k ∈ L.map (·.2) → L' = L) → (k ∉ L.map (·.2) → L'.Perm ((x, k) :: L)) → Q b { s with heap := h' }) : wpAny (model P w) A (setAddHashed a (.ref x) (Hs P w k)) Q E s := by
  obtain ⟨o, es, ep, t, ho, hex, hd, R⟩ := R
  have hsl := R.size
  have hroom := R.room
  unfold setAddHashed
  refine wpAny_holding ?_
  rw [show (100000 : Nat) = 99999 + 1 from rfl, setAddHashedIn_succ]
  refine wpAny_bind (wpAny_setState_of ho hd R.fits ?_)
  dsimp only
  rw [if_neg (by simp [byScan, Value.scannable])]
  refine wpAny_bind (seek_all R ho hd hx tup hu (fun hm => ?_) fun K hm hK hb => ?_)
  · exact wpAny_pure (hQ false s.heap L (Heap.SameBut.refl a s.heap) ⟨o, es, ep, t, ho, hex, hd, R⟩ (fun _ => rfl) fun z => absurd hm z)
  · dsimp only
    refine wpAny_bind (wpAny_setState_of ho hd R.fits ?_)
    dsimp only
    obtain ⟨q1, q2, q3, q4, q5, _, _, _, q9⟩ := R.tab.put hK hb
    obtain ⟨pt, hpt⟩ : ∃ pt, pt = t.put (way t.mask (Hs P w k) K) := ⟨_, rfl⟩
    rw [← hpt] at q1 q3 q4 q5 q9 ⊢
    obtain ⟨j, hj⟩ : ∃ j, j = SetTable.below t.place (way t.mask (Hs P w k) K) := ⟨_, rfl⟩
    rw [← hj] at q1 q2 q3
    obtain ⟨L1, hL1⟩ : ∃ L1, L1 = L.take j ++ (x, k) :: L.drop j := ⟨_, rfl⟩
    have pm : L1.Perm ((x, k) :: L) := by rw [hL1]; exact put_perm L j (x, k)
    have len1 : L1.length = L.length + 1 := pm.length_eq
    have rows1 : (SetTable.insertAt es pt.2 (Hs P w k, Value.ref x)).toList = L1.map fun p => (Hs P w p.2, Value.ref p.1) := by
      rw [SetTable.toList_insertAt, q1, R.rows, hL1, List.map_append, List.map_cons, List.map_take, List.map_drop]
    have tab1 : TabOk pt.1 (L1.map fun p => Hs P w p.2) := by
      rw [hL1, List.map_append, List.map_cons, List.map_take, List.map_drop]
      exact q3
    have nd1 : (L1.map (·.2)).Nodup := by
      refine (pm.map (·.2)).nodup_iff.mpr ?_
      rw [List.map_cons]
      exact List.nodup_cons.mpr ⟨hm, R.nd⟩
    obtain ⟨es1, hes1⟩ : ∃ es1, es1 = SetTable.insertAt es pt.2 (Hs P w k, Value.ref x) := ⟨_, rfl⟩
    rw [← hes1] at rows1 ⊢
    have sz1 : es1.size = L.length + 1 := by
      have h := congrArg List.length rows1
      rwa [List.length_map, Array.length_toList, len1] at h
    -- the table, plain or not
    have go : ∀ r : Bool, wpAny (model P w) A (do
        storeSet a es1 (if r = true then pt.1 else { pt.1 with plain := false })
        if (!false && (if r = true then pt.1 else { pt.1 with plain := false }).tooFull) = true then setRelay a (SetTable.grown (es.size + 1))
        return true) Q E s := fun r => by
      obtain ⟨t1, ht1⟩ : ∃ t1 : SetTable, t1 = (if r = true then pt.1 else { pt.1 with plain := false }) := ⟨_, rfl⟩
      rw [← ht1]
      have s1 : t1.place = pt.1.place ∧ t1.dummies = pt.1.dummies ∧ t1.mask = pt.1.mask ∧ t1.led = pt.1.led ∧ t1.tooFull = pt.1.tooFull := by
        rw [ht1]
        cases r
        · exact ⟨rfl, rfl, rfl, rfl, rfl⟩
        · exact ⟨rfl, rfl, rfl, rfl, rfl⟩
      obtain ⟨z1, z2, z3, z4, z5⟩ := s1
      have tab2 : TabOk t1 (L1.map fun p => Hs P w p.2) := ⟨by rw [z1]; exact tab1.ris, by rw [z2]; exact tab1.dm, by rw [z1]; exact tab1.sz, by rw [z3]; exact tab1.mok, by rw [z1, z3]; exact tab1.bd, by rw [z1, z3]; exact tab1.reach⟩
      have ld1 : w.params.followText "set-order" = true ∨ t1.led = true := by rw [z4, q5]; exact R.led
      have full : t1.tooFull = decide ((L.length + 1) * 5 ≥ t.mask * 3) := by
        rw [z5]
        unfold SetTable.tooFull
        rw [q9, List.length_map, q4]
      have sb : Heap.SameBut a s.heap (s.heap.update a (Obj.putSet es1 t1)) := Heap.SameBut.update ..
      have ho1 := store_at (es' := es1) (t' := t1) ho hd
      refine wpAny_bind (wpAny_storeSet_of ho hd ?_ (by rw [sz1, sizeLine_eq]; omega))
      by_cases hf : (L.length + 1) * 5 ≥ t.mask * 3
      · rw [if_pos (by rw [full]; simp [hf]), hsl]
        have hz1 : t1.place.size = L1.length := by
          have h := tab2.sz
          rwa [List.length_map] at h
        have cases2 : (t.mask = 7 ∧ L.length = 4) ∨ (t.mask = 31 ∧ L.length = 18) := by
          rcases R.tab.mok with e | e | e
          · rw [e] at hf hroom; exact .inl ⟨e, by omega⟩
          · rw [e] at hf hroom; exact .inr ⟨e, by omega⟩
          · rw [e] at hf; exfalso; omega
        have up : ∀ M, SetTable.sizeAbove (SetTable.grown (L.length + 1)) - 1 = M → MaskOk M → SetTable.sizeAbove (SetTable.grown (L.length + 1)) ≤ 128 → (L.length + 1) * 5 < M * 3 →
            wpAny (model P w) A (setRelay a (SetTable.grown (L.length + 1))) (fun _ s' => wpAny (model P w) A (pure true) Q E s') E { s with heap := s.heap.update a (Obj.putSet es1 t1) } := fun M h1 h2 h3 h4 => by
          refine relay (s := { s with heap := s.heap.update a (Obj.putSet es1 t1) }) ho1 ⟨hex.1, hex.2.1, hex.2.2⟩ rfl rows1 hz1 tab2.dm (by rw [len1, z3, q4]; rcases cases2 with ⟨e, e2⟩ | ⟨e, e2⟩ <;> omega) nd1 ld1 (by rw [len1]; exact hfew) h1 h2 h3 (by rw [len1]; exact h4) fun h' L' sb2 R2 pm2 => ?_
          exact wpAny_pure (hQ true h' L' (sb.trans sb2) R2 (fun z => absurd z hm) fun _ => pm2.trans pm)
        refine wpAny_bind ?_
        rcases cases2 with ⟨_, e2⟩ | ⟨_, e2⟩
        · exact up 31 (by rw [e2, size_20]) (.inr (.inl rfl)) (by rw [e2, size_20]; decide) (by omega)
        · exact up 127 (by rw [e2, size_76]) (.inr (.inr rfl)) (by rw [e2, size_76]; decide) (by omega)
      · rw [if_neg (by rw [full]; simp [hf])]
        refine wpAny_bind (wpAny_pure ?_)
        exact wpAny_pure (hQ true _ L1 sb ⟨_, es1, ep + 1, t1, ho1, ⟨hex.1, hex.2.1, hex.2.2⟩, rfl, rows1, tab2, nd1, ld1, by rw [len1, z3, q4]; omega, by rw [len1]; exact hfew⟩ (fun z => absurd z hm) fun _ => pm)
    by_cases hp1 : pt.1.plain = true
    · rw [if_pos hp1]
      exact wpAny_bind (hash_tup hx fun r => go r)
    · rw [if_neg hp1]
      exact wpAny_bind (wpAny_pure (go true))
end
end LTS

set_option Elab.async false
set_option linter.all false
set_option maxRecDepth 100000
set_option maxHeartbeats 3200000
/-! Sets of texts or of tuples, made by a comprehension with one for; how many they are. -/
namespace LTS
open PySem PySem.Spec PyProof.Rows L2 LS
section
variable {P : Program} {w : World} {A : Around} {E : Value → Shared → Prop} {s : Shared} {a : Addr} {L : List (Addr × List Key)}
theorem TAt.typeIs (R : TAt P w s.heap a L) : s.TypeIs (.ref a) "set" := by
  obtain ⟨o, es, ep, t, ho, hx, hd, _⟩ := R
  exact ⟨o, ho, hx.1⟩
theorem call_addK {x : Addr} {k : List Key} {Q : Value → Shared → Prop} (R : TAt P w s.heap a L) (tup : ∀ p ∈ L, Tk P w s.heap p.2 p.1) (hx : Tk P w s.heap k x) (hu : A.units + 1 < cLine) (hfew : L.length + 1 < 64)
    (hQ : ∀ h' L' tk, Heap.SameBut a s.heap h' → TAt P w h' a L' → (k ∈ L.map (·.2) → L' = L) → (k ∉ L.map (·.2) → L'.Perm ((x, k) :: L)) → Q .none { s with heap := h', toks := tk }) :
    wpAny (model P w) A (call (.builtin "set.add") [.ref a, .ref x]) Q E s := by
  refine wpAny_call_entry F.slot_set_add R.typeIs F.entry_set_add ?_ (F.args_set_add_2 _ _)
  unfold Builtin.«set.add» Builtin.Frozenset.oneOther
  simp only [List.isEmpty_nil, bind_assoc]
  unfold Builtin.Frozenset.addrOf setAdd
  refine wpAny_bind (wpAny_pure ?_)
  try dsimp only
  refine wpAny_bind (wpAny_pure ?_)
  try dsimp only
  refine wpAny_bind (wpAny_holding (wpAny_bind (wpAny_pyHash_tuple (by rw [PyProof.Rows.units_in1]; exact hu) hx ?_)))
  refine add (s := { s with toks := s.toks + (k.length + 1) }) R tup hx (by rw [PyProof.Rows.units_in1]; exact hu) hfew fun b h' L' sb r e1 e2 => ?_
  show wpAny _ _ (ret Value.none) _ _ _
  exact wpAny_pure ⟨_, rfl, hQ h' L' _ sb r e1 e2⟩
theorem TAt.fresh {h : Heap} : TAt P w (h.push (newSetO w)) h.objs.size [] := by
  refine ⟨_, #[], 0, _, Heap.get?_push_size _ rfl, ⟨rfl, rfl, rfl⟩, rfl, rfl, ⟨List.Pairwise.nil, rfl, rfl, .inl rfl, fun x hx => absurd hx (by simp [SetTable.fresh]), fun i h j hi => by simp at hi⟩, List.nodup_nil, ?_, (show (0 : Nat) * 5 < 7 * 3 by decide), (show (0 : Nat) < 64 by decide)⟩
  show _ ∨ (!w.params.followText "set-order") = true
  cases w.params.followText "set-order"
  · exact .inr rfl
  · exact .inl rfl
end
/-- the set of tuples at a, as a tracked thing -/
def TsO (P : Program) (w : World) (a : Addr) (L : List (Addr × List Key)) : HO := .ext fun h => TAt P w h a L
theorem tsO_new {P : Program} {w : World} {H : Hp} {h : Heap} {a : Addr} {L : List (Addr × List Key)} (R : TAt P w h a L) : ObjOk P w H h a (TsO P w a L) := by
  have ⟨o, es, ep, t, ho, r⟩ := R
  exact ⟨R, ⟨o, ho⟩, fun h1 h2 ⟨o', es', ep', t', ho', r'⟩ k => ⟨o', es', ep', t', k o' ho', r'⟩⟩
section
variable {X : Cx} {pins : List (Addr × Obj)} {σ : L2.St} {H : Hp} {s : Shared}
theorem addK_ok {E : Value → Shared → Prop} {D x : Addr} {L : List (Addr × List Key)} {k : List Key} {Q : Value → Shared → Prop} (hu : X.A.units + 1 < cLine) (I : Inv X pins σ H s) (hD : H D = some (TsO X.prog X.w D L)) (tup : ∀ p ∈ L, H p.1 = some (.tup (p.2.map kV))) (hx : H x = some (.tup (k.map kV))) (room : L.length + 1 < 64)
    (h : ∀ L' s', (k ∈ L.map (·.2) → L' = L) → (k ∉ L.map (·.2) → L'.Perm ((x, k) :: L)) → Inv X pins σ (upd H D (TsO X.prog X.w D L')) s' → Q .none s') : wpAny (model X.prog X.w) X.A (call (.builtin "set.add") [.ref D, .ref x]) Q E s := by
  have R : TAt X.prog X.w s.heap D L := (I.hok D _ hD).1
  refine call_addK R (fun p m => key_of I.hok (tup p m)) (key_of I.hok hx) hu room fun h' L' tk sb R' e1 e2 => ?_
  have ⟨o, _, _, _, ho, _⟩ := R'
  exact h L' _ e1 e2 (I.write (e := D) (t' := tk) (by rw [hD]; trivial) (.inl rfl) (fun b u hb hu => (sb.2 b hb).trans hu) ⟨o, ho⟩ (tsO_new R'))
/-- len -/
def rLenK (P : Program) (w : World) : List V → Hp → VK → Prop := fun xs H Q => ∃ (a : Addr) (L : List (Addr × List Key)), xs = [V.ref a] ∧ H a = some (TsO P w a L) ∧ Q (.int L.length) H
theorem cr_lenK : CallR X (.builtin "len") (rLenK X.prog X.w) := by
  intro pins s σ H xs us Q I r h
  obtain ⟨a, L, rfl, ha, q⟩ := h
  obtain rfl := Vals.ref1 r
  obtain ⟨o, es, ep, t, ho, hex, hd, R⟩ := (show TAt X.prog X.w s.heap a L from (I.hok a _ ha).1)
  have h1 := R.size
  have h2 := R.few
  refine call_len_set ho hex hd R.fits (by omega) ⟨.int L.length, H, I.tok _, ⟨_, by rw [R.size]⟩, q⟩
/-- a new set: of texts, or of tuples -/
def so (P : Program) (w : World) (t : Bool) (D : Addr) : HO := if t = true then TsO P w D [] else TxO P w D []
/-- what is put in -/
def putS (P : Program) (w : World) (t : Bool) (D : Addr) (y : V) (H : Hp) (N : Hp → Prop) : Prop := match t with
  | false => ∃ c L, y = .str c ∧ H D = some (TxO P w D L) ∧ L.length + 1 < scanBound ∧ N (upd H D (TxO P w D (ins c L)))
  | true => ∃ x k L, y = .ref x ∧ H x = some (.tup (k.map kV)) ∧ H D = some (TsO P w D L) ∧ (∀ p ∈ L, H p.1 = some (.tup (p.2.map kV))) ∧ L.length + 1 < 64 ∧
    ∀ L', (k ∈ L.map (·.2) → L' = L) → (k ∉ L.map (·.2) → L'.Perm ((x, k) :: L)) → N (upd H D (TsO P w D L'))
def tSc1 (P : Program) (w : World) (t : Bool) (wi : TI) (g : TG) (tt : TT) (te : TE) (vs : List Nat) : TE := fun σ H Q => wi σ H fun J H1 => ∀ D, H1 D = none → ∃ W : Nat → Nat → Hp → Prop, (∃ m, W 0 m (upd H1 D (so P w t D))) ∧ ∀ i m H, W i m H →
  (J.stop i H ∧ Q (.ref D) H) ∨ (J.go i H ∧ ∃ Nx : Hp → Prop, (∀ H', Nx H' → ∃ m', m' < m ∧ W (i + 1) m' H') ∧ ∀ x H', J.yld i H x H' → g x (wipe σ vs) H' fun σ2 H2 => wipe σ2 vs = wipe σ vs ∧ tt σ2 H2 fun b H3 =>
    if b = true then te σ2 H3 fun y H4 => putS P w t D y H4 Nx else Nx H3)
theorem sc1_core {Q : VK} {elt tg iter : Expr} {ifs : List Expr} {scope : Scope} {own : List (Str × Nat)} {pos pos' : Pos} {wi : TI} {g : TG} {tt : TT} {te : TE} {use : Option (Value → Sem Unit)} {Qf : Value → Shared → Prop} (t : Bool)
    (hu : X.A.units + 1 < cLine) (hc : X.calm = true) (hN : X.N.Nodup) (I : Inv X pins σ H s) (hi : PI X tg iter wi) (ok : BlkOk X.N X.env.scope scope own)
    (hb : ∀ (s : Shared) (H : Hp) (C : Addr) (cl : List (Str × Addr)) (fp : List Addr), PG (X.blk s H scope (compEnvC scope cl C X.env) fp) tg g ∧ PTs (X.blk s H scope (compEnvC scope cl C X.env) fp) ifs tt ∧ PE (X.blk s H scope (compEnvC scope cl C X.env) fp) elt te) (hs : ∀ x, foldedSetIterable iter X.env x = pure x)
    (h : tSc1 X.prog X.w t wi g tt te (own.map (·.2)) σ H Q)
    (hRR : ∀ D C s' m H', Inv X pins σ H' s' → Q (.ref D) H' → s'.heap.Ns C m → FpOk X pins H' C → compPost (model X.prog X.w) X.A X.xe use Qf (.ref D) C (.ok .next) s') :
    wpAny (model X.prog X.w) X.A (comprehension (.SetComp elt [⟨tg, iter, ifs, 0⟩] scope pos) scope X.env pos' (newSet (.type "set")) false (eval iter X.env) use) Qf X.xe s := by
  have hfree : ∀ y ∈ scope.names, y.2 = .free → ∃ c, X.env.cells.lookup y.1 = some c := fun y hy e => (ok.free y hy e).elim (fun k => I.ok.has _ (.inl k)) fun k => I.ok.has _ (.inr k)
  refine wpAny_comprehension_free (use := use) rfl hs (closure_ok hfree) ok.kind (fun y hy e => by rw [ok.uniq y hy, e]) (thn (hi.run pins s σ H _ I h) fun xv s1 hx => thn hx fun itv s2 h2 => ?_)
  obtain ⟨it, fp, tn, J, H2, rfl, I2, T, st2, f2, q⟩ := h2
  refine PpSet.newSet_ok (newEnv_comp ?_)
  obtain ⟨D, hD⟩ : ∃ D, D = s2.heap.objs.size := ⟨_, rfl⟩
  obtain ⟨s3, hs3⟩ : ∃ s3 : Shared, s3 = { s2 with heap := s2.heap.push (newSetO X.w) } := ⟨_, rfl⟩
  obtain ⟨H3, hH3⟩ : ∃ H3, H3 = upd H2 D (so X.prog X.w t D) := ⟨_, rfl⟩
  have hDn : H2 D = none := I2.hok.fresh (Nat.le_of_eq hD.symm)
  obtain ⟨W, ⟨m0, w0⟩, turn⟩ := q D hDn
  have I3 : Inv X pins σ H3 s3 := by
    rw [hs3, hH3]
    refine I2.laid (t' := s2.toks) (fun b o e => Heap.get?_push_of_some _ e) (Nat.le_of_eq hD.symm) ?_
    rw [hD]
    cases t
    · exact txO_new (At.fresh _ rfl)
    · exact tsO_new TAt.fresh
  have f3 : ∀ b ∈ fp, FpOk X pins H3 b ∧ b < s3.heap.objs.size := fun b hb => by
    obtain ⟨o, e, _⟩ := T.obj _ _ st2 b hb
    have lt := Heap.lt_size e
    refine ⟨⟨?_, (f2 b hb).2⟩, by rw [hs3]; show b < (s2.heap.push _).objs.size; rw [Heap.size_push]; exact Nat.lt_succ_of_lt lt⟩
    rw [hH3, upd_ne (by rw [hD]; exact Nat.ne_of_lt lt)]
    exact (f2 b hb).1
  have st3 : tn 0 s3.heap := T.keep _ _ _ st2 fun b _ o e => by rw [hs3]; exact Heap.get?_push_of_some _ e
  rw [← hH3] at w0
  clear q
  have I4 := block_start I3 ok hN f3
  obtain ⟨pg, pt, pe⟩ := hb s3 H3 s3.heap.objs.size (cellsFrom (s3.heap.objs.size + 1) scope.names (cloFrom X.env.cells scope.names [])) fp
  rw [← hs3, ← hD]
  show codeAny _ _ (.compStart (.SetComp elt [⟨tg, iter, ifs, 0⟩] scope pos) 0 (.ref it) (.ref D) (compEnvC scope (cellsFrom (s3.heap.objs.size + 1) scope.names (cloFrom X.env.cells scope.names [])) s3.heap.objs.size X.env)) (compPost (model X.prog X.w) X.A X.xe use Qf (.ref D) s3.heap.objs.size) { s3 with heap := pushCells (s3.heap.push { cls := .type "dict", data := .dict #[] }) scope.names }
  generalize hce : compEnvC scope (cellsFrom (s3.heap.objs.size + 1) scope.names (cloFrom X.env.cells scope.names [])) s3.heap.objs.size X.env = ce at I4 pg pt pe ⊢
  have cL : ce.locals = s3.heap.objs.size := by rw [← hce]; rfl
  generalize hs4 : ({ s3 with heap := pushCells (s3.heap.push { cls := .type "dict", data := .dict #[] }) scope.names } : Shared) = s4 at I4 ⊢
  have st4 : tn 0 s4.heap := T.keep _ _ _ st3 fun b _ o e => by rw [← hs4]; exact pushCells_keeps _ _ _ _ (Heap.get?_push_of_some _ e)
  have fpo : ∀ {σ' : L2.St} {H' : Hp} {s' : Shared}, Inv (X.blk s3 H3 scope ce fp) [] σ' H' s' → (∀ b ∈ fp, H' b = none) → ∀ b ∈ fp, FpOk (X.blk s3 H3 scope ce fp) [] H' b := fun {σ' H' s'} I' hn b hb =>
    ⟨hn b hb, (I'.ok.exf b hb).1, I'.ok.exfs b hb, .inl hb, fun x c e => (I'.ok.exf b hb).2 x c e, fun p hp => absurd (show p ∈ ([] : List (Addr × Obj)) ++ [] from hp) (by simp)⟩
  have nfp : ∀ b ∈ fp, H3 b = none := fun b hb => (f3 b hb).1.1
  have loop : codeAny (model X.prog X.w) X.A (.compLoop (.SetComp elt [⟨tg, iter, ifs, 0⟩] scope pos) 0 (.ref it) (.ref D) ce) (compPost (model X.prog X.w) X.A X.xe use Qf (.ref D) s3.heap.objs.size) s4 := by
    refine PpSet.compLoopS_any (fun n s' => ∃ i H', Inv (X.blk s3 H3 scope ce fp) [] (wipe σ (own.map (·.2))) H' s' ∧ tn i s'.heap ∧ (∀ b ∈ fp, H' b = none) ∧ W i n H') ?_ m0 ⟨0, H3, I4, st4, nfp, w0⟩
    rintro n s5 ⟨i, H5, I5, st5, n5, w5⟩
    rcases turn i n H5 w5 with ⟨stop, qq⟩ | ⟨go, Nx, hNx, step⟩
    · refine thnF (T.done (X.blk s3 H3 scope ce fp) rfl rfl rfl hc i [] s5 _ H5 (fun _ _ => False) I5 (fpo I5 n5) st5 stop) fun r s6 ⟨hr, I6⟩ => ?_
      subst hr
      have I7 : Inv X pins σ H5 s6 := I3.call' (ch := fp) I6.os I6.base I6.hok I6.bare fun b hb => ⟨(f3 b hb).1.2.2.2.1, (f3 b hb).1.2.1, (f3 b hb).1.2.2.2.2.1, (f3 b hb).1.2.2.2.2.2⟩
      have nC : H5 s3.heap.objs.size = none := by
        rw [← cL]
        exact I6.free
      obtain ⟨m, hn, _⟩ := I6.loc
      have hn : s6.heap.Ns ce.locals m := hn
      rw [cL] at hn
      exact hRR D s3.heap.objs.size s6 m H5 I7 qq hn (I3.fpOk (Nat.le_refl _) nC)
    · refine thnF (T.item (X.blk s3 H3 scope ce fp) rfl rfl rfl hc i [] s5 _ H5 (fun _ _ => False) I5 (fpo I5 n5) st5 go) fun r s6 ⟨u, hr, h6⟩ => ?_
      subst hr
      refine thnF h6 fun _ s7 ⟨x, H7, I7, r7, y7, st7, n7⟩ => ?_
      have I7' := I7.pinned (fpo I7 n7) (T.obj _ _ st7)
      refine thnF (pg.run _ s7 _ H7 x u _ I7' r7 (step x H7 y7)) fun _ s8 ⟨σ8, H8, I8, hw8, q8⟩ => ?_
      refine thnF (pt.run _ s8 σ8 H8 _ I8 q8) fun b s9 ⟨H9, I9, q9⟩ => ?_
      have back : ∀ {s' : Shared} {H' : Hp}, Inv (X.blk s3 H3 scope ce fp) ([] ++ pinsAt fp s7.heap) σ8 H' s' → Nx H' →
          ∃ m, m < n ∧ ∃ i H', Inv (X.blk s3 H3 scope ce fp) [] (wipe σ (own.map (·.2))) H' s' ∧ tn i s'.heap ∧ (∀ b ∈ fp, H' b = none) ∧ W i m H' := fun {s' H'} I' nx => by
        obtain ⟨m', hm, w'⟩ := hNx H' nx
        have pin' : ∀ b ∈ fp, ∀ o, s7.heap.get? b = some o → s'.heap.get? b = some o ∧ H' b = none := fun b hb o e =>
          let z := I'.pin (b, o) (List.mem_append_right _ (List.mem_append_right _ (mem_pinsAt hb e)))
          ⟨z.1, z.2.1⟩
        refine ⟨m', hm, i + 1, H', (I'.unpinned (pins := [])).weak (by rw [← hw8, wipe_length]) (fun j v e => ?_), T.keep _ _ _ st7 fun b hb o e => (pin' b hb o e).1, fun b hb => ?_, w'⟩
        · rw [← hw8] at e
          exact (wipe_some e).1
        · obtain ⟨o, e, _⟩ := T.obj _ _ st7 b hb
          exact (pin' b hb o e).2
      cases b with
      | false =>
        have q9' : Nx H9 := q9
        exact back I9 q9'
      | true =>
        rw [if_pos rfl]
        have q9' := q9
        rw [if_pos rfl] at q9'
        refine thnF (pe.run _ s9 σ8 H9 _ I9 q9') fun z s10 ⟨y, H10, I10, r10, q10⟩ => ?_
        cases t with
        | false =>
          obtain ⟨c, L, ey, hD10, room, nx⟩ := q10
          subst ey
          obtain ⟨tk, rfl⟩ := r10
          exact addT_ok (X := X.blk s3 H3 scope ce fp) I10 hD10 room fun s12 I12 => back I12 nx
        | true =>
          obtain ⟨x, k, L, ey, hx, hD10, tup, room, nx⟩ := q10
          subst ey
          obtain rfl : z = Value.ref x := r10
          exact addK_ok (X := X.blk s3 H3 scope ce fp) hu I10 hD10 tup hx room fun L' s12 e1 e2 I12 => back I12 (nx L' e1 e2)
  exact PpSet.codeAny_compStart_set loop (T.self X.A 0 _ _ _ st4 loop)
theorem pe_sc1 {elt tg iter : Expr} {ifs : List Expr} {scope : Scope} {own : List (Str × Nat)} {pos : Pos} {wi : TI} {g : TG} {tt : TT} {te : TE} (t : Bool) (hu : X.A.units + 1 < cLine) (hc : X.calm = true) (hN : X.N.Nodup) (hi : PI X tg iter wi) (ok : BlkOk X.N X.env.scope scope own)
    (hg : ∀ (s : Shared) (H : Hp) (C : Addr) (cl : List (Str × Addr)) (fp : List Addr), PG (X.blk s H scope (compEnvC scope cl C X.env) fp) tg g) (ht : ∀ (s : Shared) (H : Hp) (C : Addr) (cl : List (Str × Addr)) (fp : List Addr), PTs (X.blk s H scope (compEnvC scope cl C X.env) fp) ifs tt)
    (he : ∀ (s : Shared) (H : Hp) (C : Addr) (cl : List (Str × Addr)) (fp : List Addr), PE (X.blk s H scope (compEnvC scope cl C X.env) fp) elt te) (hs : ∀ x, foldedSetIterable iter X.env x = pure x := by intro _; rfl) :
    PE X (.SetComp elt [⟨tg, iter, ifs, 0⟩] scope pos) (tSc1 X.prog X.w t wi g tt te (own.map (·.2))) := by
  refine ⟨fun pins s σ H Q I h => ?_⟩
  rw [PpSet.eval_SetComp]
  refine sc1_core t hu hc hN I hi ok (fun s H C cl fp => ⟨hg s H C cl fp, ht s H C cl fp, he s H C cl fp⟩) hs h fun D C s' m H' I' q hn f => ⟨m, hn, fun h'' sb => ?_⟩
  obtain ⟨f0, f1, f2, f3, f4, f5⟩ := f
  exact ⟨.ref D, H', I'.turned (t' := s'.toks) (fun b o hb e => (sb.2 b hb).trans e) f0 f1 f3 f4 f5, rfl, q⟩
end
end LTS

set_option Elab.async false
set_option linter.all false
set_option maxRecDepth 100000
set_option maxHeartbeats 2000000
/-! How many there are in a set. -/
namespace DL
open PySem PySem.Spec PyProof.Rows L2 LW RZ
section
variable {X : Cx} {c : Cn} {K : PySem.W.Frag} {tg e : Expr}
/-- texts -/
def scD (g : DTG) (tt : DTT) (te : DTE) (ρ : Env') : List Str → List D → (List Str → Prop) → Prop
  | acc, [], Q => Q acc
  | acc, d :: ds, Q => g d ρ fun ρ1 => tt ρ1 fun b => if b = true then te ρ1 fun y => ∃ s, y = .str s ∧ acc.length + 1 < scanBound ∧ scD g tt te ρ (LS.ins s acc) ds Q else scD g tt te ρ acc ds Q
/-- tuples of ints and texts -/
def scK (g : DTG) (tt : DTT) (te : DTE) (ρ : Env') : List (List Key) → List D → (List (List Key) → Prop) → Prop
  | acc, [], Q => Q acc
  | acc, d :: ds, Q => g d ρ fun ρ1 => tt ρ1 fun b => if b = true then te ρ1 fun y => ∃ k : List Key, k ≠ [] ∧ y = .tup (k.map kD) ∧ acc.length + 1 < 64 ∧ scK g tt te ρ (LS.ins k acc) ds Q else scK g tt te ρ acc ds Q
def dLenSc (f : DTI) (g : DTG) (tt : DTT) (te : DTE) (vs : List Nat) : DTE := fun ρ Q => f ρ fun items => scD g tt te (wipeE ρ vs) [] items fun L => Q (.int L.length)
def dLenSk (f : DTI) (g : DTG) (tt : DTT) (te : DTE) (vs : List Nat) : DTE := fun ρ Q => f ρ fun items => scK g tt te (wipeE ρ vs) [] items fun L => Q (.int L.length)
theorem wipe_same {σ σ4 : L2.St} {vs : List Nat} (w : L2.wipe σ4 vs = L2.wipe (L2.wipe σ vs) vs) : L2.wipe σ4 vs = L2.wipe σ vs := by
  rw [w]
  apply List.ext_getElem?
  intro j
  rw [wipe_get, wipe_get]
  by_cases mj : j ∈ vs
  · rw [if_pos mj, if_pos mj]
    cases σ[j]? <;> rfl
  · rw [if_neg mj]
/-- len({e for ..}), texts -/
theorem de_lenSc {elt iter : Expr} {ifs : List Expr} {scope : Scope} {own : List (Str × Nat)} {fi : DTI} {is : List Nat} {g : DTG} {tt : DTT} {te : DTE} {p pos pos2 : Pos} (hu : X.A.units + 1 < cLine) (hc : X.calm = true) (hN : X.N.Nodup) (hgl : Gl X "len") (hm : X.mg "len" = none) (hi : DI X c tg iter fi) (ok : BlkOk X.N X.env.scope scope own)
    (hg : ∀ (s : Shared) (H : Hp) (C : Addr) (cl : List (Str × Addr)) (fp : List Addr), DG (X.blk s H scope (compEnvC scope cl C X.env) fp) c.nox tg is g)
    (ht : ∀ (s : Shared) (H : Hp) (C : Addr) (cl : List (Str × Addr)) (fp : List Addr), DTs (X.blk s H scope (compEnvC scope cl C X.env) fp) c.nox ifs tt)
    (he : ∀ (s : Shared) (H : Hp) (C : Addr) (cl : List (Str × Addr)) (fp : List Addr), DE (X.blk s H scope (compEnvC scope cl C X.env) fp) c.nox elt te)
    (hin : ∀ i ∈ is, i ∈ own.map (·.2)) (hs : ∀ x, foldedSetIterable iter X.env x = pure x := by intro _; rfl)
    (hs2 : starEach [.SetComp elt [⟨tg, iter, ifs, 0⟩] scope pos2] X.env = (false, eval (.SetComp elt [⟨tg, iter, ifs, 0⟩] scope pos2) X.env) :: starEach [] X.env := by rfl) (hpl : (backTo pos (starEach [] X.env)).any (·.1) = false := by rfl) :
    DE X c (.Call (.Name "len" p) [.SetComp elt [⟨tg, iter, ifs, 0⟩] scope pos2] [] pos) (dLenSc fi g tt te (own.map (·.2))) := by
  obtain ⟨wi, pi, vi⟩ := hi
  obtain ⟨gl, pg, vg⟩ := blk_g (c := c) hg
  obtain ⟨tl, pt, vt⟩ := blk_t (c := c) ht
  obtain ⟨el, pe, ve⟩ := blk_e (c := c) he
  refine ⟨_, pe_callB LS.cr_lenT hgl hm (by decide +kernel) (pa_cons (LTS.pe_sc1 false hu hc hN pi ok pg pt pe hs) pa_nil hs2) (by decide) (by decide) hs2 hpl, ⟨fun {W0 W H σ ρ Q Dq} eo en q k => vi.run eo en q fun J items W1 H1 g1 iok hz q1 A nA => ?_⟩⟩
  have en1 := en.go g1
  have gA := Go.newO g1.ok nA (o := LS.TxO X.prog X.w A []) (by intro x z; cases z)
  obtain ⟨n1, n2⟩ := g1.ok.gone nA
  obtain ⟨Y, hY⟩ : ∃ Y : Nat → Hp → Prop, Y = fun i H => ∃ W L, Go W1 H1 W H ∧ W.S A = none ∧ ¬ W.T A ∧ H A = some (LS.TxO X.prog X.w A L) ∧ scD g tt te (wipeE ρ (own.map (·.2))) L (items.drop i) fun L => Dq (.int L.length) := ⟨_, rfl⟩
  refine ⟨fun i m H => m = items.length - i ∧ i ≤ items.length ∧ Y i H, ⟨items.length, by simp, Nat.zero_le _, by rw [hY]; exact ⟨W1, [], gA, n1, n2, upd_same, q1⟩⟩, ?_⟩
  rintro i m H2 ⟨rfl, hi, y⟩
  have y' := y
  rw [hY] at y'
  obtain ⟨W2, L, g2, m1, m2, eA, q2⟩ := y'
  obtain ⟨st, go⟩ := iok i W2 H2 g2.ext g2.ok
  rcases Nat.lt_or_ge i items.length with lt | ge
  · have ed : items[i]? = some items[i] := List.getElem?_eq_getElem lt
    obtain ⟨g0, y0⟩ := go _ ed
    have edrop : items.drop i = items[i] :: items.drop (i + 1) := List.drop_eq_getElem_cons lt
    rw [edrop] at q2
    refine .inr ⟨g0, Y (i + 1), fun H' h => ⟨items.length - (i + 1), by omega, rfl, lt, h⟩, fun x H3 y => ?_⟩
    rw [hY]
    obtain ⟨W3, g3, r3⟩ := y0 x H3 y
    have g13 := g2.trans g3
    refine vg.run ((en1.go g13).wipe (own.map (·.2))) r3 q2 fun σ4 ρ4 en4 w4 q4 => ⟨wipe_same (w4 (own.map (·.2)) hin), vt.run eo en4 q4 fun b W5 H5 g5 q5 => ?_⟩
    have ow : Owned W2 H2 A := .here m1 m2 eA rfl
    have g35 := g3.trans g5
    cases b with
    | false =>
      obtain ⟨a1, a2, a3⟩ := g35.own A _ ow eA
      exact ⟨W5, L, g13.trans g5, a1, a2, a3, q5⟩
    | true =>
      rw [if_pos rfl]
      have q5' := q5
      rw [if_pos rfl] at q5'
      refine ve.run eo (en4.go g5) q5' fun y dy W6 H6 g6 r6 q6 => ?_
      obtain ⟨z, rfl, room, q6⟩ := q6
      cases r6
      have g36 := g35.trans g6
      obtain ⟨a1, a2, a3⟩ := g36.own A _ ow eA
      exact ⟨z, L, rfl, a3, room, W6, _, (g2.trans g36).touch (fun ow => notOwned_none nA ow) a1 a2 (by intro x z; cases z) (by rw [a3]; intro C dx fs z; cases z), a1, a2, upd_same, q6⟩
  · obtain rfl : i = items.length := Nat.le_antisymm hi ge
    rw [List.drop_length] at q2
    exact .inl ⟨st rfl, A, L, rfl, eA, k _ _ W2 H2 (g1.trans g2) (.int _) q2⟩
/-- len({e for ..}), tuples of ints and texts -/
theorem de_lenSk {elt iter : Expr} {ifs : List Expr} {scope : Scope} {own : List (Str × Nat)} {fi : DTI} {is : List Nat} {g : DTG} {tt : DTT} {te : DTE} {p pos pos2 : Pos} (hu : X.A.units + 1 < cLine) (hc : X.calm = true) (hN : X.N.Nodup) (hgl : Gl X "len") (hm : X.mg "len" = none) (hi : DI X c tg iter fi) (ok : BlkOk X.N X.env.scope scope own)
    (hg : ∀ (s : Shared) (H : Hp) (C : Addr) (cl : List (Str × Addr)) (fp : List Addr), DG (X.blk s H scope (compEnvC scope cl C X.env) fp) c.nox tg is g)
    (ht : ∀ (s : Shared) (H : Hp) (C : Addr) (cl : List (Str × Addr)) (fp : List Addr), DTs (X.blk s H scope (compEnvC scope cl C X.env) fp) c.nox ifs tt)
    (he : ∀ (s : Shared) (H : Hp) (C : Addr) (cl : List (Str × Addr)) (fp : List Addr), DE (X.blk s H scope (compEnvC scope cl C X.env) fp) c.nox elt te)
    (hin : ∀ i ∈ is, i ∈ own.map (·.2)) (hs : ∀ x, foldedSetIterable iter X.env x = pure x := by intro _; rfl)
    (hs2 : starEach [.SetComp elt [⟨tg, iter, ifs, 0⟩] scope pos2] X.env = (false, eval (.SetComp elt [⟨tg, iter, ifs, 0⟩] scope pos2) X.env) :: starEach [] X.env := by rfl) (hpl : (backTo pos (starEach [] X.env)).any (·.1) = false := by rfl) :
    DE X c (.Call (.Name "len" p) [.SetComp elt [⟨tg, iter, ifs, 0⟩] scope pos2] [] pos) (dLenSk fi g tt te (own.map (·.2))) := by
  obtain ⟨wi, pi, vi⟩ := hi
  obtain ⟨gl, pg, vg⟩ := blk_g (c := c) hg
  obtain ⟨tl, pt, vt⟩ := blk_t (c := c) ht
  obtain ⟨el, pe, ve⟩ := blk_e (c := c) he
  refine ⟨_, pe_callB LTS.cr_lenK hgl hm (by decide +kernel) (pa_cons (LTS.pe_sc1 true hu hc hN pi ok pg pt pe hs) pa_nil hs2) (by decide) (by decide) hs2 hpl, ⟨fun {W0 W H σ ρ Q Dq} eo en q k => vi.run eo en q fun J items W1 H1 g1 iok hz q1 A nA => ?_⟩⟩
  have en1 := en.go g1
  have gA := Go.newO g1.ok nA (o := LTS.TsO X.prog X.w A []) (by intro x z; cases z)
  obtain ⟨n1, n2⟩ := g1.ok.gone nA
  obtain ⟨Y, hY⟩ : ∃ Y : Nat → Hp → Prop, Y = fun i H => ∃ W L M, Go W1 H1 W H ∧ W.S A = none ∧ ¬ W.T A ∧ H A = some (LTS.TsO X.prog X.w A L) ∧ (∀ p ∈ L, W.S p.1 = some (.tup (p.2.map kV))) ∧ (L.map (·.2)).Perm M ∧ scK g tt te (wipeE ρ (own.map (·.2))) M (items.drop i) fun L => Dq (.int L.length) := ⟨_, rfl⟩
  refine ⟨fun i m H => m = items.length - i ∧ i ≤ items.length ∧ Y i H, ⟨items.length, by simp, Nat.zero_le _, by rw [hY]; exact ⟨W1, [], [], gA, n1, n2, upd_same, (fun p hp => by cases hp), .nil, q1⟩⟩, ?_⟩
  rintro i m H2 ⟨rfl, hi, y⟩
  have y' := y
  rw [hY] at y'
  obtain ⟨W2, L, M, g2, m1, m2, eA, tup, pm, q2⟩ := y'
  obtain ⟨st, go⟩ := iok i W2 H2 g2.ext g2.ok
  rcases Nat.lt_or_ge i items.length with lt | ge
  · have ed : items[i]? = some items[i] := List.getElem?_eq_getElem lt
    obtain ⟨g0, y0⟩ := go _ ed
    have edrop : items.drop i = items[i] :: items.drop (i + 1) := List.drop_eq_getElem_cons lt
    rw [edrop] at q2
    refine .inr ⟨g0, Y (i + 1), fun H' h => ⟨items.length - (i + 1), by omega, rfl, lt, h⟩, fun x H3 y => ?_⟩
    rw [hY]
    obtain ⟨W3, g3, r3⟩ := y0 x H3 y
    have g13 := g2.trans g3
    refine vg.run ((en1.go g13).wipe (own.map (·.2))) r3 q2 fun σ4 ρ4 en4 w4 q4 => ⟨wipe_same (w4 (own.map (·.2)) hin), vt.run eo en4 q4 fun b W5 H5 g5 q5 => ?_⟩
    have ow : Owned W2 H2 A := .here m1 m2 eA rfl
    have g35 := g3.trans g5
    cases b with
    | false =>
      obtain ⟨a1, a2, a3⟩ := g35.own A _ ow eA
      exact ⟨W5, L, M, g13.trans g5, a1, a2, a3, fun p hp => g35.ext.s _ _ (tup p hp), pm, q5⟩
    | true =>
      rw [if_pos rfl]
      have q5' := q5
      rw [if_pos rfl] at q5'
      refine ve.run eo (en4.go g5) q5' fun y dy W6 H6 g6 r6 q6 => ?_
      obtain ⟨kk, nk, rfl, room, q6⟩ := q6
      cases r6 with
      | @tup t _ _ z2 hu2 l2 =>
        have ex := rep_ks' l2
        subst ex
        have tr := hu2.resolve_right fun z => nk (List.map_eq_nil_iff.mp z.1)
        have g36 := g35.trans g6
        obtain ⟨a1, a2, a3⟩ := g36.own A _ ow eA
        have tup6 : ∀ p ∈ L, W6.S p.1 = some (.tup (p.2.map kV)) := fun p hp => g36.ext.s _ _ (tup p hp)
        have len : L.length = M.length := by have h := pm.length_eq; rwa [List.length_map] at h
        have mem : kk ∈ L.map (·.2) ↔ kk ∈ M := pm.mem_iff
        refine ⟨t, kk, L, rfl, g6.ok.le _ _ tr, a3, fun p hp => g6.ok.le _ _ (tup6 p hp), by rw [len]; exact room, fun L' e1 e2 => ?_⟩
        refine ⟨W6, L', LS.ins kk M, (g2.trans g36).touch (fun ow => notOwned_none nA ow) a1 a2 (by intro x z; cases z) (by rw [a3]; intro C dx fs z; cases z), a1, a2, upd_same, ?_, ?_, q6⟩
        · by_cases hm : kk ∈ L.map (·.2)
          · rw [e1 hm]; exact tup6
          · intro p hp
            rcases List.mem_cons.mp ((e2 hm).mem_iff.mp hp) with rfl | hp
            · exact tr
            · exact tup6 p hp
        · unfold LS.ins
          by_cases hm : kk ∈ L.map (·.2)
          · rw [if_pos (mem.mp hm), e1 hm]; exact pm
          · rw [if_neg fun z => hm (mem.mpr z)]
            exact ((e2 hm).map (fun p : Addr × List Key => p.2)).trans (pm.cons kk)
  · obtain rfl : i = items.length := Nat.le_antisymm hi ge
    rw [List.drop_length] at q2
    have len : L.length = M.length := by have h := pm.length_eq; rwa [List.length_map] at h
    exact .inl ⟨st rfl, A, L, rfl, eA, k _ _ W2 H2 (g1.trans g2) (.int _) (by rw [len]; exact q2)⟩
/-- len(set(e)), texts -/
def dLenSet (f : DTE) : DTE := fun ρ Q => f ρ fun d => match d with
  | .tup xs => ∃ ys : List Str, xs = ys.map D.str ∧ ys.length + 1 < scanBound ∧ Q (.int (LS.insAll ys []).length)
  | .lst _ xs => ∃ ys : List Str, xs = ys.map D.str ∧ ys.length + 1 < scanBound ∧ Q (.int (LS.insAll ys []).length)
  | _ => False
theorem rep_strs {W : Wd} : ∀ {vs : List V} {ys : List Str}, RepL K W vs (ys.map D.str) → vs = ys.map V.str
  | _, [], .nil => rfl
  | _, _ :: _, .cons h t => by cases h; rw [rep_strs t]; rfl
theorem de_lenSet {f : DTE} {p p2 pos pos2 : Pos} (hc : X.calm = true) (hgl : Gl X "len") (hm : X.mg "len" = none) (hgs : Gl X "set") (hms : X.mg "set" = none) (ha : DE X c e f) (hK : X.K = c.K := by rfl)
    (hs : starEach [e] X.env = (false, eval e X.env) :: starEach [] X.env := by rfl) (hs2 : starEach [.Call (.Name "set" p2) [e] [] pos2] X.env = (false, eval (.Call (.Name "set" p2) [e] [] pos2) X.env) :: starEach [] X.env := by rfl)
    (hpl : (backTo pos (starEach [] X.env)).any (·.1) = false := by rfl) (hpl2 : (backTo pos2 (starEach [] X.env)).any (·.1) = false := by rfl) : DE X c (.Call (.Name "len" p) [.Call (.Name "set" p2) [e] [] pos2] [] pos) (dLenSet f) := by
  obtain ⟨te, pe, ve⟩ := ha
  refine ⟨_, pe_callB LS.cr_lenT hgl hm (by decide +kernel) (pa_cons (pe_callTy (LS.cr_setT hc) hgs hms (by decide +kernel) (pa_cons pe pa_nil hs) (by decide) (by decide) hs hpl2) pa_nil hs2) (by decide) (by decide) hs2 hpl, ⟨fun {W0 W H σ ρ Q Dq} eo en q k => ve.run eo en q fun v d W1 H1 g1 r1 q1 => ?_⟩⟩
  have go : ∀ (a : Addr) (vs : List V) (ys : List Str), (SqL X.K H1 a vs ∨ SqT X.K H1 a vs) → RepL c.K W1 vs (ys.map D.str) → ys.length + 1 < scanBound → Dq (.int (LS.insAll ys []).length) → LS.rSetT X.prog X.w X.K [.ref a] H1 fun v H2 => LS.rLenT X.prog X.w [v] H2 Q := fun a vs ys hs rl room q => by
    obtain rfl := rep_strs rl
    refine ⟨a, ys, rfl, hs, room, fun p np => ⟨p, _, rfl, upd_same, k _ _ W1 _ (g1.trans (Go.newO g1.ok np (by intro x z; cases z))) (.int _) q⟩⟩
  rw [hK] at go
  rw [hK]
  cases r1 with
  | tup z s l =>
    obtain ⟨ys, rfl, room, q1⟩ := q1
    exact go _ _ ys (.inr (s.sq g1.ok.le)) l room q1
  | lst n z s l =>
    obtain ⟨ys, rfl, room, q1⟩ := q1
    exact go _ _ ys (.inl (SqL.of (g1.ok.le _ _ s))) l room q1
  | _ => exact q1.elim
end
end DL

set_option Elab.async false
set_option linter.all false
set_option maxRecDepth 100000
set_option maxHeartbeats 2000000
/-! list(x), str(x), f-strings, repr. -/
namespace DL
open PySem PySem.Spec PyProof.Rows L2 LW RZ
section
variable {X : Cx} {c : Cn} {K : PySem.W.Frag} {e : Expr} {es : List Expr} {f : DTE} {fa : DTA} {p pos : Pos}
/-! ### list(t), t a tuple: a new list that nobody holds -/
def fListT (f : DTE) : Env' → (Ent → Prop) → Prop := fun ρ Q => f ρ fun d => match d with
  | .tup xs => Q (.ol true xs)
  | _ => False
theorem df_listT (hg : Gl X "list") (hm : X.mg "list" = none) (ha : DE X c e f) (hK : X.K = c.K := by rfl) (hs : starEach [e] X.env = (false, eval e X.env) :: starEach [] X.env := by rfl) (hpl : (backTo pos (starEach [] X.env)).any (·.1) = false := by rfl) :
    DF X c (.Call (.Name "list" p) [e] [] pos) (fListT f) := by
  obtain ⟨te, pe, ve⟩ := ha
  refine ⟨_, pe_callTy call_listT hg hm (by decide +kernel) (pa_cons pe pa_nil hs) (by decide) (by decide) hs hpl, ⟨fun {W0 W H σ ρ Q Dq} eo en q k => ve.run eo en q fun v d W1 H1 g1 r1 q1 => ?_⟩⟩
  cases r1 with
  | tup z s l =>
    refine ⟨_, _, rfl, by rw [hK]; exact s.sq g1.ok.le, fun a na ns => ?_⟩
    obtain ⟨n1, n2⟩ := g1.ok.gone na
    exact k a (.ol true _) _ _ (g1.notOwned na) (g1.trans (Go.newO g1.ok na (by intro x z; cases z))) rfl ⟨a, _, rfl, n1, n2, ⟨fun _ => ns, z⟩, upd_same, l⟩ q1
  | _ => exact q1.elim
/-! ### str(i), f-strings -/
def gStrI : List D → (D → Prop) → Prop := fun ds Q => match ds with
  | [.int i] => i.natAbs.log2 < 1920 ∧ Q (.str (toString i))
  | _ => False
theorem l_strI : DCall K (fun xs H Q => ∃ i, xs = [.int i] ∧ i.natAbs.log2 < 1920 ∧ Q (.str (toString i)) H) gStrI := fun {W H xs ds Q Dq} ok r h k => by
  cases r with
  | nil => exact h.elim
  | cons r1 r2 =>
    cases r2 with
    | cons r3 r4 => cases r1 <;> exact h.elim
    | nil =>
      cases r1 with
      | int i => exact ⟨i, rfl, h.1, k _ _ _ _ (Go.refl ok) (.str _) h.2⟩
      | _ => exact h.elim
def gStrS : List D → (D → Prop) → Prop := fun ds Q => match ds with
  | [.str x] => Q (.str x)
  | _ => False
theorem l_strS : DCall K (fun xs H Q => ∃ a, xs = [.str a] ∧ Q (.str a) H) gStrS := fun {W H xs ds Q Dq} ok r h k => by
  cases r with
  | nil => exact h.elim
  | cons r1 r2 =>
    cases r2 with
    | cons r3 r4 => cases r1 <;> exact h.elim
    | nil =>
      cases r1 with
      | str i => exact ⟨i, rfl, k _ _ _ _ (Go.refl ok) (.str _) h⟩
      | _ => exact h.elim
def dFmt (f : DTE) : DTE := fun ρ Q => f ρ fun d => match d with
  | .int i => i.natAbs.log2 < 1920 ∧ Q (.str (toString i))
  | .str y => y.length ≤ sizeLine ∧ Q (.str y)
  | _ => False
theorem de_fmt (h : DE X c e f) : DE X c (.FormattedValue e (-1) none pos) (dFmt f) := by
  obtain ⟨te, pe, ve⟩ := h
  refine ⟨_, pe_fmt pe, ⟨fun {W0 W H σ ρ Q Dq} eo en q k => ve.run eo en q fun v d W1 H1 g1 r1 q1 => ?_⟩⟩
  cases r1 with
  | int i => exact .inr ⟨i, rfl, q1.1, k _ _ W1 H1 g1 (.str _) q1.2⟩
  | str y => exact .inl ⟨y, rfl, q1.1, k _ _ W1 H1 g1 (.str _) q1.2⟩
  | _ => exact q1.elim
/-- the parts of an f-string, behind a text -/
def DJ (X : Cx) (c : Cn) (es : List Expr) (f : Str → Env' → (Str → Prop) → Prop) : Prop := ∃ ts, PJ X es ts ∧
  ∀ {W0 W : Wd} {H : Hp} {σ : L2.St} {ρ : Env'} {acc : Str} {Q : Str → Hp → Prop} {Dq : Str → Prop}, c.Eok W0 → EnvOk c.K W0 W H σ ρ → f acc ρ Dq → (∀ x W' H', Go W H W' H' → Dq x → Q x H') → tJs ts acc σ H Q
def jNil : Str → Env' → (Str → Prop) → Prop := fun acc _ Q => Q acc
def jCons (f : DTE) (g : Str → Env' → (Str → Prop) → Prop) : Str → Env' → (Str → Prop) → Prop := fun acc ρ Q => f ρ fun d => match d with
  | .str y => (acc ++ y).length ≤ sizeLine ∧ g (acc ++ y) ρ Q
  | _ => False
theorem dj_nil : DJ X c [] jNil := ⟨[], .nil, fun _ en q k => k _ _ _ (Go.refl en.ok) q⟩
theorem dj_cons {g : Str → Env' → (Str → Prop) → Prop} (h : DE X c e f) (h2 : DJ X c es g) : DJ X c (e :: es) (jCons f g) := by
  obtain ⟨te, pe, ve⟩ := h
  obtain ⟨ts, pj, vj⟩ := h2
  refine ⟨te :: ts, .cons pe pj, fun {W0 W H σ ρ acc Q Dq} eo en q k => ve.run eo en q fun v d W1 H1 g1 r1 q1 => ?_⟩
  cases r1 with
  | str y => exact ⟨y, rfl, q1.1, vj eo (en.go g1) q1.2 fun x W2 H2 g2 q2 => k x W2 H2 (g1.trans g2) q2⟩
  | _ => exact q1.elim
def dJoin (g : Str → Env' → (Str → Prop) → Prop) : DTE := fun ρ Q => g Str.empty ρ fun x => Q (.str x)
theorem de_join {v1 v2 : Expr} {rest : List Expr} {g : Str → Env' → (Str → Prop) → Prop} (h : DJ X c (v1 :: v2 :: rest) g) : DE X c (.JoinedStr (v1 :: v2 :: rest) pos) (dJoin g) := by
  obtain ⟨ts, pj, vj⟩ := h
  exact ⟨_, pe_joined pj, ⟨fun {W0 W H σ ρ Q Dq} eo en q k => vj eo en q fun x W1 H1 g1 q1 => k _ _ W1 H1 g1 (.str x) q1⟩⟩
/-! ### repr -/
mutual
/-- lists in it are known not to be sys.modules; no dicts, no instances -/
def D.plain : D → Bool
  | .lst n xs => n && D.plainL xs
  | .tup xs => D.plainL xs
  | .non => true
  | .bl _ => true
  | .int _ => true
  | .str _ => true
  | _ => false
def D.plainL : List D → Bool
  | [] => true
  | x :: xs => x.plain && D.plainL xs
end
section
variable {W : Wd} {H : Hp}
mutual
theorem Rep.dpx (le : Same W.S H) : ∀ {v : V} {d : D}, Rep K W v d → d.plain = true → DpX K H v d.py
  | _, _, .non, _ => .non
  | _, _, .bl b, _ => .bl b
  | _, _, .int i, _ => .int i
  | _, _, .str x, _ => .str x
  | _, _, .lst n _ h t, s => by
    have s' := Bool.and_eq_true_iff.mp s
    exact .lst (n s'.1) (SqL.of (le _ _ h)) (RepL.dpx le t s'.2)
  | _, _, .tup _ h t, s => .tup (h.sq le) (RepL.dpx le t s)
  | _, _, .dK _ _ _, s => by cases s
  | _, _, .dT _ _ _, s => by cases s
  | _, _, .obj _ _ _, s => by cases s
  | _, _, .stm _, s => by cases s
  | _, _, .scr _ _, s => by cases s
theorem RepL.dpx (le : Same W.S H) : ∀ {v : List V} {d : List D}, RepL K W v d → D.plainL d = true → DpXAll K H v (D.pyL d)
  | _, _, .nil, _ => .nil
  | _, _, .cons h t, s => by
    have s' := Bool.and_eq_true_iff.mp s
    exact .cons (Rep.dpx le h s'.1) (RepL.dpx le t s'.2)
end
end
/-- repr of a list or a tuple -/
def gRepr : List D → (D → Prop) → Prop := fun ds Q => match ds with
  | [.tup xs] => D.plainL xs = true ∧ Sz 60 sizeLine (D.py (.tup xs)) ∧ Q (.str (D.py (.tup xs)).shown)
  | [.lst true xs] => D.plainL xs = true ∧ Sz 60 sizeLine (D.py (.lst true xs)) ∧ Q (.str (D.py (.lst true xs)).shown)
  | _ => False
theorem call_reprZ (hg : X.A.guards = some []) (hu : X.A.units + 64 < cLine) (hK : X.K = K := by rfl) : CallR X (.builtin "repr") (rReprX K) := by subst hK; exact call_reprX hg hu
theorem l_repr : DCall K (rReprX K) gRepr := fun {W H xs ds Q Dq} ok r h k => by
  unfold gRepr at h
  split at h
  · cases r with
    | cons r1 r2 =>
      cases r2
      have z := r1.dpx ok.le (show D.plain (.tup _) = true from h.1)
      cases r1 with
      | tup _ _ _ => exact ⟨_, _, rfl, z, h.2.1.1, h.2.1.2.1, h.2.1.2.2, k _ _ _ _ (Go.refl ok) (.str _) h.2.2⟩
  · cases r with
    | cons r1 r2 =>
      cases r2
      have z := r1.dpx ok.le (show D.plain (.lst true _) = true from (Bool.and_eq_true_iff.mpr ⟨rfl, h.1⟩))
      cases r1 with
      | lst _ _ _ _ => exact ⟨_, _, rfl, z, h.2.1.1, h.2.1.2.1, h.2.1.2.2, k _ _ _ _ (Go.refl ok) (.str _) h.2.2⟩
  · exact h.elim
end
end DL

set_option Elab.async false
set_option linter.all false
set_option maxRecDepth 100000
set_option maxHeartbeats 2000000
/-! Dicts that are walked: locked for as long. -/
namespace DL
open PySem PySem.Spec PyProof.Rows L2 LW RZ
/-- a dict's object -/
def dictO : HO → Bool
  | .dK _ => true
  | .dT _ => true
  | _ => false
theorem dictO_not {u : HO} (h : dictO u = true) : (∀ xs, u ≠ .lst xs) ∧ (∀ xs, u ≠ .tup xs) ∧ (∀ C dx fs, u ≠ .ins C dx fs) ∧ (∀ x, u ≠ .own x) ∧ ∀ o x, u ≠ .frz o x := by
  cases u <;> first | (refine ⟨?_, ?_, ?_, ?_, ?_⟩ <;> intros <;> (intro z; cases z); done) | (cases h)
/-- two worlds that differ in the lock of a dict -/
def Lk (a : Addr) (u : HO) (o : Obj) (S S' : Hp) : Prop := dictO u = true ∧ ((S a = some u ∧ S' a = some (.frz o u)) ∨ (S a = some (.frz o u) ∧ S' a = some u)) ∧ ∀ b, b ≠ a → S' b = S b
section
variable {K : PySem.W.Frag} {W W' : Wd} {a : Addr} {u : HO} {o : Obj}
theorem Lk.at {S S' : Hp} (h : Lk a u o S S') {b : Addr} {x : HO} (e : S b = some x) (n : x ≠ u) (n2 : x ≠ .frz o u) : S' b = some x := by
  by_cases z : b = a
  · rw [z] at e
    rcases h.2.1 with ⟨h1, _⟩ | ⟨h1, _⟩
    · rw [h1] at e; exact absurd (Option.some.inj e).symm n
    · rw [h1] at e; exact absurd (Option.some.inj e).symm n2
  · rw [h.2.2 b z]; exact e
theorem Lk.rd {S S' : Hp} (h : Lk a u o S S') {b : Addr} {x : HO} (e : Rd S b x) (nf : ∀ o y, x ≠ .frz o y) : Rd S' b x := by
  by_cases z : b = a
  · subst z
    rcases h.2.1 with ⟨h1, h2⟩ | ⟨h1, h2⟩
    · rcases e with e | ⟨o', e⟩
      · rw [h1] at e; cases e; exact .inr ⟨o, h2⟩
      · rw [h1] at e; have := (dictO_not h.1).2.2.2.2 o' x; exact absurd (Option.some.inj e) this
    · rcases e with e | ⟨o', e⟩
      · rw [h1] at e; exact absurd (Option.some.inj e).symm (nf o u)
      · rw [h1] at e; cases e; exact .inl h2
  · rcases e with e | ⟨o', e⟩
    · exact .inl (by rw [h.2.2 b z]; exact e)
    · exact .inr ⟨o', by rw [h.2.2 b z]; exact e⟩
mutual
theorem Rep.lk (h : Lk a u o W.S W'.S) (ht : W'.T = W.T) : ∀ {v : V} {d : D}, Rep K W v d → Rep K W' v d
  | _, _, .non => .non
  | _, _, .bl b => .bl b
  | _, _, .int i => .int i
  | _, _, .str x => .str x
  | _, _, .lst n z e t => .lst n z (h.at e (fun q => (dictO_not h.1).1 _ q.symm) (fun q => by cases q)) (RepL.lk h ht t)
  | _, _, .tup z e t => .tup z (e.imp (fun e => h.at e (fun q => (dictO_not h.1).2.1 _ q.symm) (fun q => by cases q)) fun ⟨e1, e2⟩ => ⟨e1, by
      rcases e2 with (e2 | ⟨o', e2⟩) | e2
      · exact .inl (.inl (h.at e2 (fun q => (dictO_not h.1).2.1 _ q.symm) (fun q => by cases q)))
      · exact .inl (.inr ⟨o', h.at e2 (fun q => (dictO_not h.1).2.2.2.2 _ _ q.symm) (fun q => by cases q; exact (dictO_not h.1).2.1 _ rfl)⟩)
      · exact .inr e2⟩) (RepL.lk h ht t)
  | _, _, .dK z e t => .dK z (h.rd e (fun _ _ q => by cases q)) (RepK.lk h ht t)
  | _, _, .dT z e t => .dT z (h.rd e (fun _ _ q => by cases q)) (RepT.lk h ht t)
  | _, _, .obj c e t => .obj c (h.at e (fun q => (dictO_not h.1).2.2.1 _ _ _ q.symm) (fun q => by cases q)) (RepF.lk h ht t)
  | _, _, .stm e => .stm (by rw [ht]; exact e)
  | _, _, .scr z e => .scr z (e.imp (fun ⟨o', e⟩ => ⟨o', h.at e (fun q => (dictO_not h.1).2.2.2.2 _ _ q.symm) (fun q => by cases q; exact (dictO_not h.1).1 _ rfl)⟩) id)
theorem RepL.lk (h : Lk a u o W.S W'.S) (ht : W'.T = W.T) : ∀ {v : List V} {d : List D}, RepL K W v d → RepL K W' v d
  | _, _, .nil => .nil
  | _, _, .cons e t => .cons (Rep.lk h ht e) (RepL.lk h ht t)
theorem RepK.lk (h : Lk a u o W.S W'.S) (ht : W'.T = W.T) : ∀ {v : List (Key × V)} {d : List (D × D)}, RepK K W v d → RepK K W' v d
  | _, _, .nil => .nil
  | _, _, .int e t => .int (Rep.lk h ht e) (RepK.lk h ht t)
  | _, _, .str e t => .str (Rep.lk h ht e) (RepK.lk h ht t)
theorem RepT.lk (h : Lk a u o W.S W'.S) (ht : W'.T = W.T) : ∀ {v : List (List Key × V)} {d : List (D × D)}, RepT K W v d → RepT K W' v d
  | _, _, .nil => .nil
  | _, _, .cons k e t => .cons (RepL.lk h ht k) (Rep.lk h ht e) (RepT.lk h ht t)
theorem RepF.lk (h : Lk a u o W.S W'.S) (ht : W'.T = W.T) : ∀ {v : List (Str × V)} {d : List (Str × D)}, RepF K W v d → RepF K W' v d
  | _, _, .nil => .nil
  | _, _, .cons e t => .cons (Rep.lk h ht e) (RepF.lk h ht t)
end
end
section
variable {K : PySem.W.Frag} {W0 W W' W2 : Wd} {H H2 : Hp} {a : Addr} {u : HO} {o : Obj} {σ : L2.St} {ρ : Env'}
def swapW (W : Wd) (a : Addr) (y : HO) : Wd := ⟨upd W.S a y, W.T⟩
theorem Ok.swap {x y : HO} (ok : Ok W H) (hS : W.S a = some x) (n1 : ∀ C dx fs, x ≠ .ins C dx fs) (n2 : ∀ b, x ≠ .own b) (n3 : ∀ b, y ≠ .own b) : Ok (swapW W a y) (upd H a y) := by
  have hH : H a = some x := ok.le a x hS
  refine ⟨fun b z e => ?_, fun l t => ?_, fun b z e => ?_, fun b z e => ?_⟩
  · have e' : upd W.S a y b = some z := e
    by_cases q : b = a
    · rw [q, upd_same] at e' ⊢; exact e'
    · rw [upd_ne q] at e' ⊢; exact ok.le b z e'
  · obtain ⟨h1, i, j, k, h2⟩ := ok.st l t
    have ne : l ≠ a := fun q => by rw [q, hS] at h1; cases h1
    exact ⟨(upd_ne ne).trans h1, i, j, k, (upd_ne ne).trans h2⟩
  · have e' : upd W.S a y b = some (.own z) := e
    have ne : b ≠ a := fun q => by rw [q, upd_same] at e'; exact n3 z (Option.some.inj e')
    rw [upd_ne ne] at e'
    obtain ⟨C, dx, fs, q⟩ := ok.own b z e'
    exact ⟨C, dx, fs, (upd_ne fun w => by rw [w, hS] at q; exact n1 _ _ _ (Option.some.inj q)).trans q⟩
  · have ne : b ≠ a := fun q => by rw [q, upd_same] at e; exact n3 z (Option.some.inj e)
    rw [upd_ne ne] at e
    obtain ⟨C, dx, fs, q⟩ := ok.dic b z e
    exact ⟨C, dx, fs, (upd_ne fun w => by rw [w, hH] at q; exact n1 _ _ _ (Option.some.inj q)).trans q⟩
theorem Owned.swap {x y : HO} (hS : W.S a = some x) (hH : H a = some x) (n : ∀ b, x ≠ .own b) {b : Addr} (ow : Owned W H b) : Owned (swapW W a y) (upd H a y) b := by
  induction ow with
  | here s t e m =>
    rename_i b z
    have ne : b ≠ a := fun q => by rw [q, hS] at s; cases s
    exact .here ((upd_ne ne).trans s) t ((upd_ne ne).trans e) m
  | dict ow e ih =>
    rename_i b z
    have ne : z ≠ a := fun q => by rw [q, hH] at e; exact n _ (Option.some.inj e)
    exact .dict ih ((upd_ne ne).trans e)
def Ent.unl : Ent → Ent
  | .ld t es => .dat (.dct t es)
  | e => e
theorem unl_own (e : Ent) : e.unl.own = e.own := by cases e <;> rfl
theorem SlotOk.swap {x y : HO} (h : Lk a u o W.S (swapW W a y).S) (hS : W.S a = some x) (hH : H a = some x) (n : ∀ b, x ≠ .own b) {s : Option (Option V)} {e : Ent} (so : SlotOk K W H s e) : SlotOk K (swapW W a y) (upd H a y) s e.unl := by
  have ne : ∀ b, W.S b = none → b ≠ a := fun b e q => by rw [q, hS] at e; cases e
  cases e with
  | un => trivial
  | cls C => exact so
  | dat d =>
    obtain ⟨v, e, r⟩ := so
    exact ⟨v, e, r.lk h rfl⟩
  | ld t es =>
    obtain ⟨b, o', e, r⟩ := so
    refine ⟨.ref b, e, ?_⟩
    rcases r with ⟨rfl, kvs, h1, z, r⟩ | ⟨rfl, kvs, h1, z, r⟩
    · exact Rep.lk h rfl (.dK z (.inr ⟨o', h1⟩) r)
    · exact Rep.lk h rfl (.dT z (.inr ⟨o', h1⟩) r)
  | ol n ds =>
    obtain ⟨b, xs, e, s1, t1, n1, h1, r⟩ := so
    exact ⟨b, xs, e, (upd_ne (ne b s1)).trans s1, t1, n1, (upd_ne (ne b s1)).trans h1, r.lk h rfl⟩
  | od t es =>
    obtain ⟨b, e, s1, t1, h1⟩ := so
    refine ⟨b, e, (upd_ne (ne b s1)).trans s1, t1, ?_⟩
    rcases h1 with ⟨rfl, kvs, h1, z, r⟩ | ⟨rfl, kvs, h1, z, r⟩
    · exact .inl ⟨rfl, kvs, (upd_ne (ne b s1)).trans h1, z, r.lk h rfl⟩
    · exact .inr ⟨rfl, kvs, (upd_ne (ne b s1)).trans h1, z, r.lk h rfl⟩
  | oi b C fs =>
    obtain ⟨co, dx, vs, e, s1, t1, h1, hd, r⟩ := so
    have nd : dx ≠ a := fun q => by rw [q, hH] at hd; exact n _ (Option.some.inj hd)
    exact ⟨co, dx, vs, e, (upd_ne (ne b s1)).trans s1, t1, (upd_ne (ne b s1)).trans h1, (upd_ne nd).trans hd, r.lk h rfl⟩
theorem EnvOk.swap {x y : HO} (en : EnvOk K W0 W H σ ρ) (h : Lk a u o W.S (swapW W a y).S) (hS : W.S a = some x) (n1 : ∀ C dx fs, x ≠ .ins C dx fs) (n2 : ∀ b, x ≠ .own b) (n3 : ∀ b, y ≠ .own b) : EnvOk K (swapW W a y) (swapW W a y) (upd H a y) σ (ρ.map Ent.unl) := by
  refine ⟨Ext.refl _, en.ok.swap hS n1 n2 n3, by rw [List.length_map]; exact en.len, fun i e q => ?_, fun i j b hi hj => ?_⟩
  · rw [List.getElem?_map] at q
    cases r : ρ[i]? with
    | none => rw [r] at q; cases q
    | some e0 =>
      rw [r] at q
      cases q
      exact (en.slot i e0 r).swap h hS (en.ok.le a x hS) n2
  · have tell : ∀ {m : Nat}, HasOwn σ (ρ.map Ent.unl) m b → HasOwn σ ρ m b := fun {m} ⟨h1, e, h2, h3⟩ => by
      rw [List.getElem?_map] at h2
      cases r : ρ[m]? with
      | none => rw [r] at h2; cases h2
      | some e0 =>
        rw [r] at h2
        cases h2
        rw [unl_own] at h3
        exact ⟨h1, e0, r, h3⟩
    exact en.apart i j b (tell hi) (tell hj)
/-- a slot that holds nothing of its own is named otherwise -/
theorem EnvOk.rename (en : EnvOk K W0 W H σ ρ) {i : Nat} {e : Ent} (so : SlotOk K W H σ[i]? e) (no : e.own = false) : EnvOk K W0 W H σ (ρ.set i e) := by
  refine ⟨en.ext, en.ok, by rw [List.length_set]; exact en.len, fun j e' q => ?_, fun j k b hj hk => ?_⟩
  · rcases getSet q with ⟨rfl, rfl, lt⟩ | ⟨ne, q⟩
    · exact so
    · exact en.slot j e' q
  · have tell : ∀ {m : Nat}, HasOwn σ (ρ.set i e) m b → HasOwn σ ρ m b := fun {m} ⟨h1, e', h2, h3⟩ => by
      rcases getSet h2 with ⟨rfl, rfl, lt⟩ | ⟨ne, h2⟩
      · rw [no] at h3; cases h3
      · exact ⟨h1, e', h2, h3⟩
    exact en.apart j k b (tell hj) (tell hk)
theorem go_swap (ok : Ok W H) (hS : W.S a = some u) (hu : dictO u = true) (g : Go (swapW W a (.frz o u)) (upd H a (.frz o u)) W2 H2) : Go W H (swapW W2 a u) (upd H2 a u) := by
  have nu := dictO_not hu
  have h2 : W2.S a = some (.frz o u) := g.ext.s _ _ upd_same
  have hH := ok.le a u hS
  refine ⟨⟨fun b z e => ?_, fun l t => g.ext.t l t⟩, g.ok.swap h2 (by intro C dx fs z; cases z) (by intro b z; cases z) nu.2.2.2.1, fun b z ow e => ?_⟩
  · show upd W2.S a u b = some z
    by_cases q : b = a
    · rw [q, hS] at e; rw [q, upd_same]; exact e
    · rw [upd_ne q]; exact g.ext.s b z ((upd_ne q).trans e)
  · have s1 := ow.noS ok
    have ne : b ≠ a := fun q => by rw [q, hS] at s1; cases s1
    obtain ⟨h3, h4, h5⟩ := g.own b z (ow.swap hS hH nu.2.2.2.1) ((upd_ne ne).trans e)
    exact ⟨(upd_ne ne).trans h3, h4, (upd_ne ne).trans h5⟩
theorem lk_on (hS : W.S a = some u) (hu : dictO u = true) : Lk a u o W.S (swapW W a (.frz o u)).S := ⟨hu, .inl ⟨hS, upd_same⟩, fun b q => upd_ne q⟩
theorem lk_off (hS : W.S a = some (.frz o u)) (hu : dictO u = true) : Lk a u o W.S (swapW W a u).S := ⟨hu, .inr ⟨hS, upd_same⟩, fun b q => upd_ne q⟩
end
section
variable {X : Cx} {c : Cn} {e : Expr} {f : DTE}
theorem pe_or {e : Expr} {t t' : TE} (h : PE X e t) (h' : PE X e t') : PE X e (fun σ H Q => t σ H Q ∨ t' σ H Q) := ⟨fun pins s σ H Q I q => q.elim (h.run pins s σ H Q I) (h'.run pins s σ H Q I)⟩
/-- with the dict in slot i locked -/
def dLock (i : Nat) (f : DTE) : DTE := fun ρ Q => match ρ[i]? with
  | some (.dat (.dct t es)) => f ((ρ.map Ent.unl).set i (.ld t es)) Q
  | _ => False
/-- what a slot of a dict is: locked for good, or it may be locked -/
theorem dict_slot {K : PySem.W.Frag} {W0 W : Wd} {H : Hp} {σ : L2.St} {ρ : Env'} (en : EnvOk K W0 W H σ ρ) {i : Nat} {t : Bool} {es : List (D × D)} (h : ρ[i]? = some (.dat (.dct t es))) :
    SlotOk K W H σ[i]? (.ld t es) ∨ ∃ a u, dictO u = true ∧ W.S a = some u ∧ ∀ o, SlotOk K (swapW W a (.frz o u)) (upd H a (.frz o u)) σ[i]? (.ld t es) := by
  obtain ⟨v, ev, r⟩ := en.slot i _ h
  cases r with
  | @dK a kvs _ z rd rk =>
    rcases rd with rd | ⟨o, rd⟩
    · exact .inr ⟨a, _, rfl, rd, fun o => ⟨a, o, ev, .inl ⟨rfl, kvs, upd_same, z, rk.lk (lk_on (o := o) rd rfl) rfl⟩⟩⟩
    · exact .inl ⟨a, o, ev, .inl ⟨rfl, kvs, rd, z, rk⟩⟩
  | @dT a kvs _ z rd rk =>
    rcases rd with rd | ⟨o, rd⟩
    · exact .inr ⟨a, _, rfl, rd, fun o => ⟨a, o, ev, .inr ⟨rfl, kvs, upd_same, z, rk.lk (lk_on (o := o) rd rfl) rfl⟩⟩⟩
    · exact .inl ⟨a, o, ev, .inr ⟨rfl, kvs, rd, z, rk⟩⟩
theorem mut_dict {u : HO} (h : dictO u = true) : Mut (some u) := by cases u <;> first | exact True.intro | (cases h)
theorem SlotOk.unl {K : PySem.W.Frag} {W : Wd} {H : Hp} {s : Option (Option V)} {e : Ent} (so : SlotOk K W H s e) : SlotOk K W H s e.unl := by
  cases e with
  | ld t es =>
    obtain ⟨b, o', e, r⟩ := so
    refine ⟨.ref b, e, ?_⟩
    rcases r with ⟨rfl, kvs, h1, z, r⟩ | ⟨rfl, kvs, h1, z, r⟩
    · exact .dK z (.inr ⟨o', h1⟩) r
    · exact .dT z (.inr ⟨o', h1⟩) r
  | _ => exact so
theorem EnvOk.unl {K : PySem.W.Frag} {W0 W : Wd} {H : Hp} {σ : L2.St} {ρ : Env'} (en : EnvOk K W0 W H σ ρ) : EnvOk K W0 W H σ (ρ.map Ent.unl) := by
  refine ⟨en.ext, en.ok, by rw [List.length_map]; exact en.len, fun i e q => ?_, fun i j b hi hj => ?_⟩
  · rw [List.getElem?_map] at q
    cases r : ρ[i]? with
    | none => rw [r] at q; cases q
    | some e0 =>
      rw [r] at q
      cases q
      exact (en.slot i e0 r).unl
  · have tell : ∀ {m : Nat}, HasOwn σ (ρ.map Ent.unl) m b → HasOwn σ ρ m b := fun {m} ⟨h1, e, h2, h3⟩ => by
      rw [List.getElem?_map] at h2
      cases r : ρ[m]? with
      | none => rw [r] at h2; cases h2
      | some e0 =>
        rw [r] at h2
        cases h2
        rw [unl_own] at h3
        exact ⟨h1, e0, r, h3⟩
    exact en.apart i j b (tell hi) (tell hj)
theorem de_lock (i : Nat) (h : DE X c.nox e f) : DE X c e (dLock i f) := by
  obtain ⟨te, pe, ve⟩ := h
  refine ⟨_, pe_or (pe_lock pe) pe, ⟨fun {W0 W H σ ρ Q Dq} eo en q k => ?_⟩⟩
  unfold dLock at q
  cases sl : ρ[i]? with
  | none => rw [sl] at q; exact q.elim
  | some u0 =>
    rw [sl] at q
    cases u0 with
    | dat d =>
      cases d with
      | dct t es =>
        rcases dict_slot en sl with so | ⟨a, u, hu, hS, so⟩
        · exact .inr (ve.nox.run eo (en.unl.rename so rfl) q k)
        · have nu := dictO_not hu
          refine .inl ⟨a, u, en.ok.le a u hS, mut_dict hu, fun o => ?_⟩
          have en1 := (en.swap (o := o) (y := .frz o u) (lk_on hS hu) hS nu.2.2.1 nu.2.2.2.1 (by intro b z; cases z)).rename (i := i) (so o) rfl
          refine ve.run (Cn.nox_ok c _) en1 q fun v d W2 H2 g2 r2 q2 => ?_
          have h2 : W2.S a = some (.frz o u) := g2.ext.s _ _ upd_same
          exact ⟨g2.ok.le a _ h2, k v d _ _ (go_swap en.ok hS hu g2) (r2.lk (lk_off h2 hu) rfl) q2⟩
      | _ => exact q.elim
    | _ => exact q.elim
def fLock (i : Nat) (f : Env' → (Ent → Prop) → Prop) : Env' → (Ent → Prop) → Prop := fun ρ Q => match ρ[i]? with
  | some (.dat (.dct t es)) => f ((ρ.map Ent.unl).set i (.ld t es)) Q
  | _ => False
theorem df_lock (i : Nat) {f : Env' → (Ent → Prop) → Prop} (h : DF X c.nox e f) : DF X c e (fLock i f) := by
  obtain ⟨te, pe, ve⟩ := h
  refine ⟨_, pe_or (pe_lock pe) pe, ⟨fun {W0 W H σ ρ Q Dq} eo en q k => ?_⟩⟩
  unfold fLock at q
  cases sl : ρ[i]? with
  | none => rw [sl] at q; exact q.elim
  | some u0 =>
    rw [sl] at q
    cases u0 with
    | dat d =>
      cases d with
      | dct t es =>
        rcases dict_slot en sl with so | ⟨a, u, hu, hS, so⟩
        · exact .inr (ve.run (Cn.nox_ok c _) (en.unl.rename so rfl) q k)
        · have nu := dictO_not hu
          refine .inl ⟨a, u, en.ok.le a u hS, mut_dict hu, fun o => ?_⟩
          have en1 := (en.swap (o := o) (y := .frz o u) (lk_on hS hu) hS nu.2.2.1 nu.2.2.2.1 (by intro b z; cases z)).rename (i := i) (so o) rfl
          refine ve.run (Cn.nox_ok c _) en1 q fun b e W2 H2 no g2 ow s2 q2 => ?_
          have h2 : W2.S a = some (.frz o u) := g2.ext.s _ _ upd_same
          have hu2 := g2.ok.le a _ h2
          have un : e.unl = e := by cases e <;> first | rfl | (cases ow)
          have s3 := s2.swap (lk_off h2 hu) h2 hu2 (by intro b z; cases z)
          rw [un] at s3
          exact ⟨hu2, k b e _ _ (fun o => no (o.swap hS (en.ok.le a u hS) nu.2.2.2.1)) (go_swap en.ok hS hu g2) ow s3 q2⟩
      | _ => exact q.elim
    | _ => exact q.elim
/-- the keys of the dict in slot i, which is locked -/
def kLen : D → Nat
  | .tup ds => ds.length
  | _ => 0
def dKeys (i : Nat) : DTI := fun ρ Q => match ρ[i]? with
  | some (.ld _ es) => (∀ e ∈ es, kLen e.1 ≤ sizeLine) ∧ Q (es.map (·.1))
  | _ => False
theorem RepK.fst {K : PySem.W.Frag} {W : Wd} : ∀ {kvs : List (Key × V)} {es : List (D × D)}, RepK K W kvs es → es.map (·.1) = kvs.map fun p => kD p.1
  | _, _, .nil => rfl
  | _, _, .int h t => by rw [List.map_cons, List.map_cons, RepK.fst t]; rfl
  | _, _, .str h t => by rw [List.map_cons, List.map_cons, RepK.fst t]; rfl
theorem rep_kV {K : PySem.W.Frag} {W : Wd} (k : Key) : Rep K W (kV k) (kD k) := by
  cases k
  · exact .int _
  · exact .str _
theorem repL_kV {K : PySem.W.Frag} {W : Wd} : ∀ k : List Key, RepL K W (k.map kV) (k.map kD)
  | [] => .nil
  | x :: k => .cons (rep_kV x) (repL_kV k)
theorem RepL.keys {K : PySem.W.Frag} {W : Wd} : ∀ {k : List Key} {ds : List D}, RepL K W (k.map kV) ds → ds = k.map kD
  | [], _, .nil => rfl
  | .inl i :: k, _, .cons h t => by cases h; rw [RepL.keys t]; rfl
  | .inr x :: k, _, .cons h t => by cases h; rw [RepL.keys t]; rfl
theorem RepT.fst {K : PySem.W.Frag} {W : Wd} : ∀ {kvs : List (List Key × V)} {es : List (D × D)}, RepT K W kvs es → es.map (·.1) = kvs.map fun p => D.tup (p.1.map kD)
  | _, _, .nil => rfl
  | _, _, .cons k h t => by rw [List.map_cons, List.map_cons, RepT.fst t, k.keys]
/-- a tuple that stands in the heap is shared -/
theorem share_tup {W : Wd} {H : Hp} (ok : Ok W H) {q : Addr} {xs : List V} (e : H q = some (.tup xs)) : ∃ W', Go W H W' H ∧ W'.S q = some (.tup xs) := by
  cases z : W.S q with
  | some u =>
    have z2 := ok.le q u z
    rw [e] at z2
    cases z2
    exact ⟨W, Go.refl ok, z⟩
  | none =>
    have nT : ¬ W.T q := fun t => by
      obtain ⟨_, x, y, w, h⟩ := ok.st q t
      rw [e] at h; cases h
    refine ⟨⟨upd W.S q (.tup xs), W.T⟩, ⟨⟨fun b u eb => (upd_ne (fun w => by rw [w, z] at eb; cases eb)).trans eb, fun _ t => t⟩, ⟨fun b u eb => ?_, fun l t => ⟨(upd_ne (fun w => nT (by rw [← w]; exact t))).trans (ok.st l t).1, (ok.st l t).2⟩, fun b x eb => ?_, ok.dic⟩, fun b u ow eb => ⟨?_, ow.noT ok, eb⟩⟩, upd_same⟩
    · have eb' : upd W.S q (.tup xs) b = some u := eb
      by_cases w : b = q
      · rw [w, upd_same] at eb'; rw [w, ← Option.some.inj eb']; exact e
      · rw [upd_ne w] at eb'; exact ok.le b u eb'
    · have eb' : upd W.S q (.tup xs) b = some (.own x) := eb
      have w : b ≠ q := fun w => by rw [w, upd_same] at eb'; cases eb'
      rw [upd_ne w] at eb'
      obtain ⟨C, dx, fs, h⟩ := ok.own b x eb'
      exact ⟨C, dx, fs, (upd_ne (fun w => by rw [w, z] at h; cases h)).trans h⟩
    · refine (upd_ne fun w => ?_).trans (ow.noS ok)
      rw [w] at ow eb
      rw [e] at eb
      cases eb
      obtain ⟨u, h, m⟩ := (Owned.frm (W := W) (H := H)).mu q ow
      rw [e] at h
      cases h
      rcases m with m | ⟨x, m, _⟩
      · cases m
      · cases m
theorem di_keys (i : Nat) {x : Str} {tg : Expr} {p : Pos} (hN : X.N[i]? = some x := by rfl) (hv : Vis X.env.scope x := by first | exact Or.inl rfl | exact Or.inr (Or.inl rfl) | exact Or.inr (Or.inr rfl)) (hd : (x == ("__debug__" : Str)) = false := by decide)
    (hcd : (x == ("__classdict__" : Str)) = false := by decide) : DI X c tg (.Name x p) (dKeys i) := by
  refine ⟨_, pi_keys (pe_var hN hv hd hcd), ⟨fun {W0 W H σ ρ R Dq} eo en q k => ?_⟩⟩
  unfold dKeys at q
  cases sl : ρ[i]? with
  | none => rw [sl] at q; exact q.elim
  | some u0 =>
    rw [sl] at q
    cases u0 with
    | ld t es =>
      obtain ⟨a, o, ea, r⟩ := en.slot i _ sl
      refine ⟨.ref a, ea, a, o, rfl, ?_⟩
      rcases r with ⟨rfl, kvs, h1, z, r⟩ | ⟨rfl, kvs, h1, z, r⟩
      · refine .inl ⟨kvs, en.ok.le _ _ h1, k _ (es.map (·.1)) W H (Go.refl en.ok) (fun j W2 H2 ext ok => ⟨fun ej => ⟨ok.le _ _ (ext.s _ _ h1), ?_⟩, fun d ed => ?_⟩) (by rw [List.length_map, ← r.len]; exact z) q.2⟩
        · rw [ej, List.length_map, ← r.len]; exact Nat.le_refl _
        · rw [r.fst, List.getElem?_map] at ed
          cases w : kvs[j]? with
          | none => rw [w] at ed; cases ed
          | some kv =>
            rw [w] at ed
            cases ed
            refine ⟨⟨ok.le _ _ (ext.s _ _ h1), (List.getElem?_eq_some_iff.mp w).1⟩, fun x H3 y => ?_⟩
            obtain ⟨rfl, k', v', ek, rfl⟩ := y
            rw [w] at ek
            cases ek
            exact ⟨W2, Go.refl ok, rep_kV _⟩
      · refine .inr ⟨kvs, en.ok.le _ _ h1, k _ (es.map (·.1)) W H (Go.refl en.ok) (fun j W2 H2 ext ok => ⟨fun ej => ⟨ok.le _ _ (ext.s _ _ h1), ?_⟩, fun d ed => ?_⟩) (by rw [List.length_map, ← r.len]; exact z) q.2⟩
        · rw [ej, List.length_map, ← r.len]; exact Nat.le_refl _
        · have few : kLen d ≤ sizeLine := by
            obtain ⟨e0, m0, e1⟩ := List.mem_map.mp (List.mem_of_getElem? ed)
            rw [← e1]; exact q.1 e0 m0
          rw [r.fst, List.getElem?_map] at ed
          cases w : kvs[j]? with
          | none => rw [w] at ed; cases ed
          | some kv =>
            rw [w] at ed
            cases ed
            refine ⟨⟨ok.le _ _ (ext.s _ _ h1), (List.getElem?_eq_some_iff.mp w).1⟩, fun x H3 y => ?_⟩
            obtain ⟨rfl, k', v', q', ek, rfl, hq⟩ := y
            rw [w] at ek
            cases ek
            obtain ⟨W3, g3, s3⟩ := share_tup ok hq
            have f2 : (k'.map kD).length ≤ sizeLine := few
            exact ⟨W3, g3, .tup (by rw [List.length_map] at f2 ⊢; exact f2) (.inl s3) (repL_kV _)⟩
    | _ => exact q.elim
theorem ext_swap {W W2 : Wd} {a : Addr} {u : HO} {o : Obj} (hS : W.S a = some u) (g : Ext (swapW W a (.frz o u)) W2) : Ext W (swapW W2 a u) := ⟨fun b z e => by
    show upd W2.S a u b = some z
    by_cases q : b = a
    · rw [q, hS] at e; rw [q, upd_same]; exact e
    · rw [upd_ne q]; exact g.s b z ((upd_ne q).trans e), fun l t => g.t l t⟩
theorem ps_or {st : Stmt} {t t' : TS} (h : PS X st t) (h' : PS X st t') : PS X st (fun D σ H => t D σ H ∨ t' D σ H) := ⟨fun pins s σ H D I q => q.elim (h.run pins s σ H D I) (h'.run pins s σ H D I)⟩
def dLockS (i : Nat) (g : DTS) : DTS := fun D ρ => match ρ[i]? with
  | some (.dat (.dct t es)) => g { nx := fun ρ => D.nx (ρ.map Ent.unl), rt := D.rt, bk := fun ρ => D.bk (ρ.map Ent.unl), ct := fun ρ => D.ct (ρ.map Ent.unl) } ((ρ.map Ent.unl).set i (.ld t es))
  | _ => False
theorem ds_lock (i : Nat) {st : Stmt} {g : DTS} (h : DS X c.nox st g) : DS X c st (dLockS i g) := by
  obtain ⟨ts, ps, vs⟩ := h
  refine ⟨_, ps_or (ps_lock ps) ps, ⟨fun {W0 W H σ ρ D Dd} eo en q k => ?_⟩⟩
  unfold dLockS at q
  cases sl : ρ[i]? with
  | none => rw [sl] at q; exact q.elim
  | some u0 =>
    rw [sl] at q
    cases u0 with
    | dat d =>
      cases d with
      | dct t es =>
        rcases dict_slot en sl with so | ⟨a, u, hu, hS, so⟩
        · refine .inr (vs.run (Cn.nox_ok c W0) (en.unl.rename so rfl) q ⟨fun σ' ρ' W' H' e' q' => k.nx _ _ _ _ e'.unl q', k.rt, fun σ' ρ' W' H' e' q' => k.bk _ _ _ _ e'.unl q', fun σ' ρ' W' H' e' q' => k.ct _ _ _ _ e'.unl q'⟩)
        · have nu := dictO_not hu
          refine .inl ⟨a, u, en.ok.le a u hS, mut_dict hu, fun o => ?_⟩
          have en1 := (en.swap (o := o) (y := .frz o u) (lk_on hS hu) hS nu.2.2.1 nu.2.2.2.1 (by intro b z; cases z)).rename (i := i) (so o) rfl
          have back : ∀ {σ' : L2.St} {ρ' : Env'} {W2 : Wd} {H2 : Hp}, EnvOk c.K (swapW W a (.frz o u)) W2 H2 σ' ρ' → H2 a = some (.frz o u) ∧ EnvOk c.K W0 (swapW W2 a u) (upd H2 a u) σ' (ρ'.map Ent.unl) := fun {σ' ρ' W2 H2} e' => by
            have h2 : W2.S a = some (.frz o u) := e'.ext.s _ _ upd_same
            refine ⟨e'.ok.le a _ h2, (e'.swap (o := o) (y := u) (lk_off h2 hu) h2 (by intro C dx fs z; cases z) (by intro b z; cases z) nu.2.2.2.1).rebase ?_⟩
            exact en.ext.trans (ext_swap hS e'.ext)
          refine vs.run (Cn.nox_ok c _) en1 q ⟨fun σ' ρ' W' H' e' q' => ⟨(back e').1, k.nx _ _ _ _ (back e').2 q'⟩, fun v d W' H' ext ok' r q' => ?_, fun σ' ρ' W' H' e' q' => ⟨(back e').1, k.bk _ _ _ _ (back e').2 q'⟩, fun σ' ρ' W' H' e' q' => ⟨(back e').1, k.ct _ _ _ _ (back e').2 q'⟩⟩
          have h2 : W'.S a = some (.frz o u) := ext.s _ _ upd_same
          exact ⟨ok'.le a _ h2, k.rt v d _ _ (en.ext.trans (ext_swap hS ext)) (ok'.swap h2 (by intro C dx fs z; cases z) (by intro b z; cases z) nu.2.2.2.1) (r.lk (lk_off h2 hu) rfl) q'⟩
      | _ => exact q.elim
    | _ => exact q.elim
theorem unl_id : ∀ {ρ : Env'}, (∀ e ∈ ρ, e.unl = e) → ρ.map Ent.unl = ρ := fun {ρ} h => by
  rw [List.map_congr_left (g := id) (fun e m => h e m), List.map_id]
end
end DL

set_option Elab.async false
set_option linter.all false
set_option maxRecDepth 100000
set_option maxHeartbeats 2000000
/-! in a module's tuple of texts. -/
namespace DL
open PySem PySem.Spec PyProof.Rows L2 LW RZ
section
variable {X : Cx} {c : Cn} {K : PySem.W.Frag} {a : Expr} {fa : DTE} {pos p : Pos}
/-- the name x is a tuple of texts of the written part -/
def KTup (K : PySem.W.Frag) (mg : Str → Option Value) (x : Str) (ys : List Str) : Prop := ∃ t, mg x = some (.ref t) ∧ SqT K (fun _ => none) t (ys.map V.str)
theorem dp_strs {H : Hp} : ∀ ys : List Str, DpAll K H (ys.map V.str) (D.pyL (ys.map D.str))
  | [] => .nil
  | y :: ys => .cons (.str y) (dp_strs ys)
def dInK (neg : Bool) (ys : List Str) (fa : DTE) : DTE := fun ρ Q => fa ρ fun x => x.cmp = true ∧ Q (.bl (if neg then !inD x (ys.map D.str) else inD x (ys.map D.str)))
theorem sqT_none {H : Hp} {t : Addr} {xs : List V} (h : SqT K (fun _ => none) t xs) : SqT K H t xs := by
  rcases h with (h | ⟨o, h⟩) | h
  · cases h
  · cases h
  · exact .inr h
theorem ev_inK {neg : Bool} {x : Str} {t : Addr} {ys : List Str} {ta : TE} (hs : SqT c.K (fun _ => none) t (ys.map V.str)) (hc : D.cmp (.tup (ys.map D.str)) = true) (va : Ev c ta fa) : Ev c (tOp (rInD c.K neg) ta (tC (.ref t))) (dInK neg ys fa) :=
  ⟨fun {W0 W H σ ρ Q Dq} eo en q k => va.run eo en q fun v d W1 H1 g1 r1 q1 => by
    have a1 := Bool.and_eq_true_iff.mp q1.1
    have c1 := cmp_items hc
    refine ⟨t, d.py, D.pyL (ys.map D.str), rfl, r1.dp g1.ok.le a1.1, a1.2, c1.2, .inr ⟨_, sqT_none hs, dp_strs ys⟩, ?_⟩
    rw [pyL_any]
    exact k _ _ W1 H1 g1 (.bl _) q1.2⟩
theorem de_inK {x : Str} {ys : List Str} (hu : X.A.units + 64 < cLine) (hu2 : X.A.units + 65 < cLine) (kt : KTup X.K X.mg x ys) (hc : D.cmp (.tup (ys.map D.str)) = true) (hg : Gl X x) (ha : DE X c a fa) (hd : (x == ("__debug__" : Str)) = false := by decide) (hm : behindInMarks .In (.Name x p) = false := by rfl) (hK : X.K = c.K := by rfl) :
    DE X c (.Compare a [.In] [.Name x p] pos) (dInK false ys fa) := by
  obtain ⟨t, m, hs⟩ := kt
  obtain ⟨ta, pa, va⟩ := ha
  rw [hK] at hs
  exact ⟨_, pe_cmpR (op_inA hu hu2 hK) pa (pe_glob (v := .ref t) hg m rfl hd) hm, ev_inK (x := x) hs hc va⟩
end
end DL

set_option Elab.async false
set_option linter.all false
set_option maxRecDepth 100000
set_option maxHeartbeats 2000000
/-! dict(pairs), {k: v, ..} with ints and texts for keys. -/
namespace DL
open PySem PySem.Spec PyProof.Rows L2 LW RZ
section
variable {X : Cx} {c : Cn} {K : PySem.W.Frag} {e : Expr} {f : DTE} {pos p : Pos}
def mergeD (acc es : List (D × D)) : List (D × D) := es.foldl (fun acc e => putD acc e.1 e.2) acc
theorem RepK.merge {W : Wd} : ∀ {kvs : List (Key × V)} {es : List (D × D)} {acc : List (Key × V)} {ea : List (D × D)}, RepK K W kvs es → RepK K W acc ea → RepK K W (mergeK acc kvs) (mergeD ea es)
  | _, _, _, _, .nil, ra => ra
  | _, _, acc, ea, .int (i := i) (v := v) (d := d) (kvs := kvs) (es := es) h t, ra => (show RepK K W (mergeK (putK acc (.inl i) v) kvs) (mergeD (putD ea (.int i) d) es) from RepK.merge t (RepK.put (k := .inl i) h ra))
  | _, _, acc, ea, .str (x := x) (v := v) (d := d) (kvs := kvs) (es := es) h t, ra => (show RepK K W (mergeK (putK acc (.inr x) v) kvs) (mergeD (putD ea (.str x) d) es) from RepK.merge t (RepK.put (k := .inr x) h ra))
/-- pairs as they lie -/
theorem pairs_lie {W : Wd} {H : Hp} (ok : Ok W H) : ∀ {vs : List V} {es : List (D × D)}, RepL K W vs (es.map fun p => D.tup [p.1, p.2]) → (∀ p ∈ es, isK1 p.1 = true) →
    ∃ (ps : List Addr) (kvs : List (Key × V)), vs = ps.map V.ref ∧ Paired (fun p (kv : Key × V) => SqT K H p [kV kv.1, kv.2]) ps kvs ∧ RepK K W kvs es
  | _, [], .nil, _ => ⟨[], [], rfl, .nil, .nil⟩
  | _, (k, z) :: es, .cons h t, hk => by
    obtain ⟨ps, kvs, e1, e2, e3⟩ := pairs_lie ok t fun p m => hk p (List.mem_cons_of_mem _ m)
    obtain ⟨kk, ek⟩ := isK1_of (hk (k, z) List.mem_cons_self)
    have ek' : k = kD kk := ek
    subst ek'
    cases h with
    | @tup a _ _ zz s l =>
      cases l with
      | cons r1 r2 =>
        cases r2 with
        | cons r3 r4 =>
          cases r4
          obtain rfl := rep_key r1
          refine ⟨a :: ps, (kk, _) :: kvs, by rw [e1]; rfl, .cons (s.sq ok.le) e2, ?_⟩
          cases kk with
          | inl i => exact .int r3 e3
          | inr x => exact .str r3 e3
def fDictP (f : DTE) : Env' → (Ent → Prop) → Prop := fun ρ Q => f ρ fun d => match d with
  | .lst _ xs => ∃ es : List (D × D), xs = es.map (fun p => D.tup [p.1, p.2]) ∧ (∀ p ∈ es, isK1 p.1 = true) ∧ Q (.od false (mergeD [] es))
  | _ => False
theorem df_dictP (hc : X.calm = true) (hg : Gl X "dict") (hm : X.mg "dict" = none) (ha : DE X c e f) (hK : X.K = c.K := by rfl) (hs : starEach [e] X.env = (false, eval e X.env) :: starEach [] X.env := by rfl) (hpl : (backTo pos (starEach [] X.env)).any (·.1) = false := by rfl) :
    DF X c (.Call (.Name "dict" p) [e] [] pos) (fDictP f) := by
  obtain ⟨te, pe, ve⟩ := ha
  refine ⟨_, pe_callTy (call_dictP hc) hg hm (by decide +kernel) (pa_cons pe pa_nil hs) (by decide) (by decide) hs hpl, ⟨fun {W0 W H σ ρ Q Dq} eo en q k => ve.run eo en q fun v d W1 H1 g1 r1 q1 => ?_⟩⟩
  cases r1 with
  | lst n z s l =>
    obtain ⟨es, rfl, hk, q1⟩ := q1
    obtain ⟨ps, kvs, rfl, e2, e3⟩ := pairs_lie g1.ok l hk
    rw [hK]
    refine ⟨_, ps, kvs, rfl, SqL.of (g1.ok.le _ _ s), e2, fun a na => ?_⟩
    obtain ⟨n1, n2⟩ := g1.ok.gone na
    have h1 := length_mergeK kvs []
    have h2 := Paired.length e2
    rw [List.length_map] at z
    refine k a (.od false (mergeD [] es)) _ _ (g1.notOwned na) (g1.trans (Go.newO g1.ok na (by intro x z; cases z))) rfl ⟨a, rfl, n1, n2, .inl ⟨rfl, _, upd_same, ?_, e3.merge .nil⟩⟩ q1
    rw [List.length_nil] at h1
    omega
  | _ => exact q1.elim
/-! ### displays -/
def DPs (X : Cx) (c : Cn) (pos : Pos) (ks : List (Option Expr)) (vs : List Expr) (f : Env' → (List (D × D) → Prop) → Prop) : Prop := ∃ trs, PPs X pos ks vs trs ∧
  ∀ {W0 W : Wd} {H : Hp} {σ : L2.St} {ρ : Env'} {Q : List (V × V) → Hp → Prop} {Dq : List (D × D) → Prop}, c.Eok W0 → EnvOk c.K W0 W H σ ρ → f ρ Dq →
    (∀ ps es W' H', Go W H W' H' → RepL c.K W' (ps.map (·.1)) (es.map (·.1)) → RepL c.K W' (ps.map (·.2)) (es.map (·.2)) → Dq es → Q ps H') → tPairs trs σ H Q
def pNil : Env' → (List (D × D) → Prop) → Prop := fun _ Q => Q []
def pCons (fk fv : DTE) (g : Env' → (List (D × D) → Prop) → Prop) : Env' → (List (D × D) → Prop) → Prop := fun ρ Q => fk ρ fun k => fv ρ fun v => g ρ fun es => Q ((k, v) :: es)
theorem dp_nil : DPs X c pos [] [] pNil := ⟨[], pps_nil, fun _ en q k => k [] [] _ _ (Go.refl en.ok) .nil .nil q⟩
theorem dp_cons {k v : Expr} {ks : List (Option Expr)} {vs : List Expr} {fk fv : DTE} {g : Env' → (List (D × D) → Prop) → Prop} (hk : DE X c k fk) (hv : DE X c v fv) (h : DPs X c pos ks vs g) : DPs X c pos (some k :: ks) (v :: vs) (pCons fk fv g) := by
  obtain ⟨t1, p1, v1⟩ := hk
  obtain ⟨t2, p2, v2⟩ := hv
  obtain ⟨trs, pp, vp⟩ := h
  refine ⟨_, pps_cons p1 p2 pp, fun {W0 W H σ ρ Q Dq} eo en q kk => v1.run eo en q fun x dx W1 H1 g1 r1 q1 => v2.run eo (en.go g1) q1 fun y dy W2 H2 g2 r2 q2 => vp eo ((en.go g1).go g2) q2 fun ps es W3 H3 g3 e1 e2 q3 => ?_⟩
  exact kk ((x, y) :: ps) ((dx, dy) :: es) W3 H3 ((g1.trans g2).trans g3) (.cons (r1.mono (g2.ext.trans g3.ext)) e1) (.cons (r2.mono g3.ext) e2) q3
theorem disp_lie {W : Wd} : ∀ {ps : List (V × V)} {es : List (D × D)}, RepL K W (ps.map (·.1)) (es.map (·.1)) → RepL K W (ps.map (·.2)) (es.map (·.2)) → (∀ p ∈ es, isK1 p.1 = true) → ∃ kvs : List (Key × V), ps = kvs.map (fun kv => (kV kv.1, kv.2)) ∧ RepK K W kvs es
  | [], [], _, _, _ => ⟨[], rfl, .nil⟩
  | [], _ :: _, h, _, _ => by cases h
  | _ :: _, [], h, _, _ => by cases h
  | (x, y) :: ps, (k, z) :: es, h1, h2, hk => by
    have h1' : RepL K W (x :: ps.map (·.1)) (k :: es.map (·.1)) := h1
    have h2' : RepL K W (y :: ps.map (·.2)) (z :: es.map (·.2)) := h2
    cases h1' with
    | cons r1 t1 =>
      cases h2' with
      | cons r2 t2 =>
        obtain ⟨kvs, e, rk⟩ := disp_lie t1 t2 fun p m => hk p (List.mem_cons_of_mem _ m)
        obtain ⟨kk, ek⟩ := isK1_of (hk (k, z) List.mem_cons_self)
        have ek' : k = kD kk := ek
        subst ek'
        obtain rfl := rep_key r1
        refine ⟨(kk, y) :: kvs, by rw [e]; rfl, ?_⟩
        cases kk with
        | inl i => exact .int r2 rk
        | inr s => exact .str r2 rk
def fDisp (g : Env' → (List (D × D) → Prop) → Prop) : Env' → (Ent → Prop) → Prop := fun ρ Q => g ρ fun es => (∀ p ∈ es, isK1 p.1 = true) ∧ es.length ≤ 15 ∧ Q (.od false (mergeD [] es))
theorem df_disp {ks : List (Option Expr)} {vs : List Expr} {g : Env' → (List (D × D) → Prop) → Prop} (h : DPs X c pos ks vs g) (hall : ks.all (·.isSome) = true := by rfl) (hl : ks.length = vs.length := by rfl) (h0 : ks ≠ [] := by intro z; cases z) (h15 : ks.length ≤ 15 := by decide) : DF X c (.Dict ks vs pos) (fDisp g) := by
  obtain ⟨trs, pp, vp⟩ := h
  refine ⟨_, pe_disp pp hall hl h0 h15, ⟨fun {W0 W H σ ρ Q Dq} eo en q k a na => ?_⟩⟩
  obtain ⟨n1, n2⟩ := en.ok.gone na
  have ga := Go.newO en.ok na (o := .dK []) (by intro x z; cases z)
  have ow : Owned W (upd H a (.dK [])) a := .here n1 n2 upd_same rfl
  refine vp eo (en.go ga) q fun ps es W2 H2 g2 e1 e2 q2 => ?_
  obtain ⟨hk, few, q2⟩ := q2
  obtain ⟨a1, a2, a3⟩ := g2.own a _ ow upd_same
  obtain ⟨kvs, rfl, rk⟩ := disp_lie e1 e2 hk
  have len := rk.len
  have h1 := length_mergeK kvs []
  rw [List.length_nil] at h1
  refine ⟨a3, kvs, rfl, by omega, ?_⟩
  have hz : sizeLine = 16777216 := sizeLine_eq
  refine k a (.od false (mergeD [] es)) _ _ (notOwned_none na) ((ga.trans g2).touch (notOwned_none na) a1 a2 (by intro x z; cases z) (by rw [a3]; intro C dx fs z; cases z)) rfl ⟨a, rfl, a1, a2, .inl ⟨rfl, _, upd_same, by omega, rk.merge .nil⟩⟩ q2
end
end DL

set_option Elab.async false
set_option linter.all false
set_option maxRecDepth 100000
set_option maxHeartbeats 3200000
/-! dict(pairs), the keys tuples of ints and texts. -/
namespace LW
open PySem PySem.Spec PyProof.Rows L2
/-- a pair as it lies: its tuple, its key's tuple, the key, the value -/
abbrev Pr := Addr × Addr × List Key × V
def mergeT (acc kvs : List (List Key × V)) : List (List Key × V) := kvs.foldl (fun acc kv => putK acc kv.1 kv.2) acc
def rDictPT (K : PySem.W.Frag) : List V → Hp → VK → Prop := fun xs H Q => ∃ (a : Addr) (ts : List Pr), xs = [.ref a] ∧ SqL K H a (ts.map fun t => V.ref t.1) ∧ (∀ t ∈ ts, SqT K H t.1 [.ref t.2.1, t.2.2.2] ∧ H t.2.1 = some (.tup (t.2.2.1.map kV))) ∧
  ∀ p, H p = none → Q (.ref p) (upd H p (.dT (mergeT [] (ts.map fun t => (t.2.2.1, t.2.2.2)))))
section
variable {X : Cx} {pins : List (Addr × Obj)} {σ : L2.St} {H : Hp} {s : Shared}
theorem KT.all {H : Hp} : ∀ (ts : List Pr) {us : List Value} {acc : List (List Key × V)} {xs : List (List Key × Addr × Value)}, Vals (ts.map fun t => t.2.2.2) us → (∀ t ∈ ts, H t.2.1 = some (.tup (t.2.2.1.map kV))) → KT H acc xs →
    KT H (mergeT acc (ts.map fun t => (t.2.2.1, t.2.2.2))) (PySem.storedAllH xs ((ts.zip us).map fun p => (p.1.2.2.1, p.1.2.1, p.2)))
  | [], us, acc, xs, rv, _, r => by cases rv; exact r
  | t :: ts, us, acc, xs, rv, h, r => by
    have rv' : Vals (t.2.2.2 :: ts.map fun t => t.2.2.2) us := rv
    cases rv' with
    | cons r1 r2 => exact KT.all ts r2 (fun u m => h u (List.mem_cons_of_mem _ m)) (r.put t.2.2.1 (h t List.mem_cons_self) r1)
theorem mergeT_len : ∀ (ts acc : List (List Key × V)), (mergeT acc ts).length ≤ acc.length + ts.length
  | [], acc => by show acc.length ≤ _; simp
  | t :: ts, acc => by
    have h1 := mergeT_len ts (putK acc t.1 t.2)
    have h2 := length_putK acc t.1 t.2
    show (mergeT (putK acc t.1 t.2) ts).length ≤ _
    rw [List.length_cons]
    omega
theorem prs_at (I : Inv X pins σ H s) : ∀ (ts : List Pr), (∀ t ∈ ts, SqT X.K H t.1 [.ref t.2.1, t.2.2.2]) → ∃ us : List Value, Vals (ts.map fun t => t.2.2.2) us ∧ ∀ p ∈ ts.zip us, s.heap.IsTuple p.1.1 #[.ref p.1.2.1, p.2]
  | [], _ => ⟨[], .nil, fun p h => by cases h⟩
  | t :: ts, h => by
    obtain ⟨us, r, q⟩ := prs_at I ts fun t m => h t (List.mem_cons_of_mem _ m)
    obtain ⟨its, rv, ht, _⟩ := I.tuple (h t List.mem_cons_self)
    obtain ⟨u0, u1, rfl, r0, r1⟩ := vals2 rv
    cases (show u0 = Value.ref t.2.1 from r0)
    refine ⟨u1 :: us, .cons r1 r, fun p m => ?_⟩
    rcases List.mem_cons.mp m with rfl | m
    · exact ht
    · exact q p m
theorem call_dictPT (hcalm : X.calm = true) (hu : X.A.units + 4 < cLine) : CallR X (.type "dict") (rDictPT X.K) := by
  intro pins s σ H xs us Q I r h
  obtain ⟨a, ts, rfl, hq, ht, q⟩ := h
  obtain rfl := Vals.ref1 r
  obtain ⟨its, rv, pl, hz⟩ := I.list hq
  obtain ⟨vs, rvs, tup⟩ := prs_at I ts fun t m => (ht t m).1
  have len : ts.length = vs.length := by have h := rvs.length; rwa [List.length_map] at h
  have ei := refs_at (ps := ts.map (·.1)) (by rw [List.map_map]; exact rv)
  subst ei
  obtain ⟨o, n, ho, hc, hd, hdat⟩ := pl
  have hz' : ts.length ≤ sizeLine := by rwa [List.length_map] at hz
  obtain ⟨zs, hzs⟩ : ∃ zs, zs = ts.zip vs := ⟨_, rfl⟩
  have zl : zs.length = ts.length := by rw [hzs, List.length_zip, ← len, Nat.min_self]
  have zt : zs.map (·.1) = ts := by rw [hzs]; exact List.map_fst_zip (Nat.le_of_eq len)
  rw [← hzs] at tup
  have key : ∀ p ∈ zs, H p.1.2.1 = some (.tup (p.1.2.2.1.map kV)) := fun p m => (ht p.1 (by rw [← zt]; exact List.mem_map.mpr ⟨p, m, rfl⟩)).2
  refine PySem.call_dict_pairsH (knd := tupleKind (mixKind X.prog X.w)) (ps := zs.map fun p => (p.1.2.2.1, p.1.2.1, p.2))
    (PySem.PairArg.list a ((ts.map (·.1)).map Value.ref).toArray (fun j => (ts.map (·.1)).getD j 0) (zs.map fun p => (Value.ref p.1.2.1, p.2))) (I.ok.hd hcalm) (show X.A.units + 1 + 1 < cLine by omega)
    ⟨⟨o, n, ho, hc, hd, hdat⟩, ?_, fun j k v e => ?_⟩ ⟨by rw [List.length_map, List.length_map], fun j k v e => ?_⟩ (fun h' k p m => ?_) (by rw [List.length_map, zl]; exact hz') fun h' tk hd' k => ?_
  · simp [zl]
  · have e' : (zs.map fun p => (Value.ref p.1.2.1, p.2))[j]? = some (k, v) := e
    rw [List.getElem?_map] at e'
    cases w : zs[j]? with
    | none => rw [w] at e'; cases e'
    | some p =>
      rw [w] at e'
      cases e'
      have mt := tup p (List.mem_of_getElem? w)
      have wt : ts[j]? = some p.1 := by rw [← zt, List.getElem?_map, w]; rfl
      have g : (ts.map (·.1)).getD j 0 = p.1.1 := by rw [List.getD_eq_getElem?_getD, List.getElem?_map, wt]; rfl
      refine ⟨?_, ?_⟩
      · show _ = some (Value.ref ((ts.map (·.1)).getD j 0))
        rw [g]; simp [wt]
      · show PySem.PairAt s.heap ((ts.map (·.1)).getD j 0) _ _
        rw [g]; exact .inl mt
  · have e' : (zs.map fun p => (Value.ref p.1.2.1, p.2))[j]? = some (k, v) := e
    rw [List.getElem?_map] at e'
    cases w : zs[j]? with
    | none => rw [w] at e'; cases e'
    | some p =>
      rw [w] at e'
      cases e'
      exact ⟨p.1.2.2.1, p.1.2.1, by rw [List.getElem?_map, w]; rfl, rfl⟩
  · obtain ⟨p0, m0, rfl⟩ := List.mem_map.mp m
    obtain ⟨o', items, n', e1, e2, e3, e4⟩ := key_of I.hok (key p0 m0)
    exact ⟨o', items, n', k _ _ (Nat.ne_of_lt (Heap.lt_size e1)) List.not_mem_nil e1, e2, e3, e4⟩
  · have nb : (s.heap.objs.size == sysModules) = false := beq_eq_false_iff_ne.mpr (Nat.ne_of_gt I.big)
    have fresh := I.hok.fresh (Nat.le_refl s.heap.objs.size)
    have l1 := mergeT_len (ts.map fun t => (t.2.2.1, t.2.2.2)) []
    rw [List.length_nil, List.length_map] at l1
    have kt := KT.all (H := H) ts rvs (fun t m => (ht t m).2) .nil
    rw [← hzs] at kt
    obtain ⟨q', es, ep, f1, f2, f3, f4, _, f5⟩ := hd'
    refine ⟨.ref s.heap.objs.size, _, I.laid (t' := tk) (o := .dT (mergeT [] (ts.map fun t => (t.2.2.1, t.2.2.2)))) (fun b o e => k b o List.not_mem_nil e) (Nat.le_refl _) ⟨by omega, nb, _, kt.keeps fun b ys e => ?_, q', es, ep, f1, f2, f3, f4, f5⟩, rfl, q _ fresh⟩
    exact (upd_ne fun z => by rw [z, fresh] at e; cases e).trans e
end
end LW

set_option Elab.async false
set_option linter.all false
set_option maxRecDepth 100000
set_option maxHeartbeats 2000000
/-! dict(pairs) with tuples for keys. -/
namespace DL
open PySem PySem.Spec PyProof.Rows L2 LW RZ
section
variable {X : Cx} {c : Cn} {K : PySem.W.Frag} {e : Expr} {f : DTE} {pos p : Pos}
/-- what such pairs are worth -/
def prE (es : List (List Key × D)) : List (D × D) := es.map fun p => (.tup (p.1.map kD), p.2)
theorem mergeT_rep {W : Wd} : ∀ (ts : List Pr) {es : List (List Key × D)} {acc : List (List Key × V)} {ea : List (D × D)}, Paired (fun (t : Pr) (p : List Key × D) => t.2.2.1 = p.1 ∧ Rep K W t.2.2.2 p.2) ts es → RepT K W acc ea →
    RepT K W (mergeT acc (ts.map fun t => (t.2.2.1, t.2.2.2))) (mergeD ea (prE es))
  | [], _, _, _, h, r => by cases h; exact r
  | t :: ts, _, acc, ea, h, r => by
    cases h with
    | @cons _ p _ es h1 h2 =>
      have st := r.put (k := t.2.2.1) h1.2
      rw [h1.1] at st
      show RepT K W (mergeT (putK acc t.2.2.1 t.2.2.2) _) (mergeD (putD ea (.tup (p.1.map kD)) p.2) (prE es))
      rw [h1.1]
      exact mergeT_rep ts h2 st
theorem pairsT_lie {W : Wd} {H : Hp} (ok : Ok W H) : ∀ {vs : List V} (es : List (List Key × D)), RepL K W vs (es.map fun p => D.tup [.tup (p.1.map kD), p.2]) → (∀ p ∈ es, p.1 ≠ []) →
    ∃ ts : List Pr, vs = ts.map (fun t => V.ref t.1) ∧ (∀ t ∈ ts, SqT K H t.1 [.ref t.2.1, t.2.2.2] ∧ H t.2.1 = some (.tup (t.2.2.1.map kV))) ∧ Paired (fun (t : Pr) (p : List Key × D) => t.2.2.1 = p.1 ∧ Rep K W t.2.2.2 p.2) ts es
  | _, [], h, _ => by cases h; exact ⟨[], rfl, (fun t m => by cases m), .nil⟩
  | _, (k, z) :: es, h, hk => by
    have h' : RepL K W _ (D.tup [.tup (k.map kD), z] :: es.map fun p => D.tup [.tup (p.1.map kD), p.2]) := h
    cases h' with
    | cons h1 h2 =>
      obtain ⟨ts, e1, e2, e3⟩ := pairsT_lie ok es h2 fun p m => hk p (List.mem_cons_of_mem _ m)
      cases h1 with
      | @tup a _ _ zz s l =>
        cases l with
        | cons r1 r2 =>
          cases r2 with
          | cons r3 r4 =>
            cases r4
            cases r1 with
            | @tup b _ _ z2 s2 l2 =>
              have ex := rep_ks' l2
              subst ex
              have tr := s2.resolve_right fun q => hk (k, z) List.mem_cons_self (List.map_eq_nil_iff.mp q.1)
              refine ⟨(a, b, k, _) :: ts, by rw [e1]; rfl, fun t m => ?_, .cons ⟨rfl, r3⟩ e3⟩
              rcases List.mem_cons.mp m with rfl | m
              · exact ⟨s.sq ok.le, ok.le _ _ tr⟩
              · exact e2 t m
def fDictPT (f : DTE) : Env' → (Ent → Prop) → Prop := fun ρ Q => f ρ fun d => match d with
  | .lst _ xs => ∃ es : List (List Key × D), xs = es.map (fun p => D.tup [.tup (p.1.map kD), p.2]) ∧ (∀ p ∈ es, p.1 ≠ []) ∧ Q (.od true (mergeD [] (prE es)))
  | _ => False
theorem df_dictPT (hc : X.calm = true) (hu : X.A.units + 64 < cLine) (hg : Gl X "dict") (hm : X.mg "dict" = none) (ha : DE X c e f) (hK : X.K = c.K := by rfl) (hs : starEach [e] X.env = (false, eval e X.env) :: starEach [] X.env := by rfl) (hpl : (backTo pos (starEach [] X.env)).any (·.1) = false := by rfl) :
    DF X c (.Call (.Name "dict" p) [e] [] pos) (fDictPT f) := by
  obtain ⟨te, pe, ve⟩ := ha
  refine ⟨_, pe_callTy (call_dictPT hc (by omega)) hg hm (by decide +kernel) (pa_cons pe pa_nil hs) (by decide) (by decide) hs hpl, ⟨fun {W0 W H σ ρ Q Dq} eo en q k => ve.run eo en q fun v d W1 H1 g1 r1 q1 => ?_⟩⟩
  cases r1 with
  | lst n z s l =>
    obtain ⟨es, rfl, hk, q1⟩ := q1
    obtain ⟨ts, rfl, e2, e3⟩ := pairsT_lie g1.ok es l hk
    rw [hK]
    refine ⟨_, ts, rfl, SqL.of (g1.ok.le _ _ s), e2, fun a na => ?_⟩
    obtain ⟨n1, n2⟩ := g1.ok.gone na
    have h1 := mergeT_len (ts.map fun t => (t.2.2.1, t.2.2.2)) []
    rw [List.length_nil, List.length_map] at h1
    rw [List.length_map] at z
    exact k a (.od true (mergeD [] (prE es))) _ _ (g1.notOwned na) (g1.trans (Go.newO g1.ok na (by intro x z; cases z))) rfl ⟨a, rfl, n1, n2, .inr ⟨rfl, _, upd_same, by omega, mergeT_rep ts e3 .nil⟩⟩ q1
  | _ => exact q1.elim
end
end DL

set_option Elab.async false
set_option linter.all false
set_option maxRecDepth 100000
set_option maxHeartbeats 2000000
/-! Class methods: C.m(e, ..), and C made by the local name that holds it. -/
namespace DL
open PySem PySem.Spec PyProof.Rows L2 LW RZ
section
variable {P : Program} {w : World} {K : PySem.W.Frag} {mg : Str → Option Value} {base : Heap} {C : Addr}
/-- a class method's promise: its first argument is the class -/
def spC (K : PySem.W.Frag) (C : Addr) (g : SpD) : Sp := fun vs H Q E => ∃ vs', vs = .ref C :: vs' ∧ spD K g vs' H Q E
def spCB (K : PySem.W.Frag) (C : Addr) (g : SpD) : Sp := fun vs H Q E => ∃ vs', vs = .ref C :: vs' ∧ spB K g vs' H Q E
abbrev FnC (P : Program) (w : World) (K : PySem.W.Frag) (mg : Str → Option Value) (base : Heap) (C : Addr) (k : Nat) (f : Addr) (fd : FuncData) (ps : List Str) (g : SpD) : Prop := FnG P w K mg base (L2.CX P w) k f fd ps (spC K C g)
theorem fnC_of {k : Nat} {f : Addr} {fd : FuncData} {ps : List Str} {g : SpD} (F : FnG P w K mg base (L2.CX P w) k f fd ps (spCB K C g)) : FnC P w K mg base C k f fd ps g := by
  refine ⟨fun vs H Q E h => ?_, fun A outer s H args us vs Q E gd hr e0 hb hv h => ?_⟩
  · obtain ⟨vs', e, h⟩ := h
    obtain ⟨W, ok, q⟩ := spD_less h
    exact F.len _ _ _ _ ⟨vs', e, q⟩
  · obtain ⟨vs', e, h⟩ := h
    obtain ⟨W, ok, q⟩ := spD_less h
    refine codeAny_mono (F.run A outer s _ args us vs _ _ gd hr (Env0.less Owned.frm e0) hb hv ⟨vs', e, q⟩) fun r s' c => ?_
    exact cr_join Owned.frm e0.hok e0.frf c
def startC (N : List Str) (C : Addr) (ds : List D) : Env' := (startD N (.non :: ds)).set 0 (.cls C)
/-- THE RULE for a class method -/
theorem okM {x qual : Str} {params : Arguments} {body : List Stmt} {scope : Scope} {dvs : List V} {kws : List (Str × V)} {f : Addr} {fd : FuncData} {N ps : List Str} {k : Nat} {g : SpD} (F : FunD K x qual params body scope dvs kws f fd) (S : FnScope N ps scope) (hN : ps.length ≤ N.length) (len : ∀ ds Q De, g ds Q De → ds.length + 1 = ps.length)
    (hbody : ∀ (cdv : Value) (A : Around) (outer : List Env) (s : Shared) (H : Hp) (E : XK) (De : Xn → Prop), (A.deeper (envOfC qual scope s.heap.objs.size f cdv)).guards = some [] → Room k (A.deeper (envOfC qual scope s.heap.objs.size f cdv)) →
      ∃ gb, DSs (cxOf (L2.CX P w) P w K mg base N qual scope f cdv A outer s H E) ⟨K, E, De⟩ body gb ∧ ∀ ds Dq, g ds Dq De → gb { nx := fun _ => Dq .non, rt := Dq } (startC N C ds)) : FnC P w K mg base C (k + 1) f fd ps g := by
  refine fnC_of ?_
  obtain ⟨oc, od, dV, kV, doc, pm, an, cdv, ct, osl, rfl, lk, hcd, _, _⟩ := F.ex
  have lenB : ∀ vs H Q E, spCB K C g vs H Q E → vs.length = ps.length := fun vs H Q E h => by
    obtain ⟨vs', e, W, ds, Dq, De, ok, rl, hg, _⟩ := h
    rw [e, List.length_cons, rl.len]
    exact len ds Dq De hg
  constructor
  · exact lenB
  · intro A outer s H args us vs Q E gd room env0 bnd rel prom
    have inK : K.In s.heap := env0.mod.kin.keeps fun a u q => (env0.bs a u q).1
    have noLim : s.heap.NoLimit := env0.mod.nolimit.keeps fun a u q => (env0.bs a u q).1
    have count := lenB vs H Q E prom
    have kinds : ∀ y ∈ ps.zip us, scope.names.lookup y.1 = some .local ∨ (scope.names.lookup y.1 = some .cell ∧
        ((cellsFrom (s.heap.objs.size + 1) scope.names []).lookup y.1).isSome = true) := by
      rintro ⟨y, u⟩ mem
      cases S.par y (List.of_mem_zip mem).1 with
      | inl q => exact Or.inl q
      | inr q => exact Or.inr ⟨q, PySem.W.cellsFrom_some _ _ _ (Or.inl q)⟩
    apply codeAny_call_function room.depth (inK _ _ lk) rfl S.co S.gen rfl (PySem.W.codeRec_of inK hcd)
    apply bnd
    apply wpAny_newFunctionEnv_cells S.kind kinds
    intro env henv s1 ic
    subst henv
    refine And.intro (noLim.keeps ic.toInCall.keep) (codeAny_func ?_)
    obtain ⟨vs', rfl, W, ds, Dq, De, ok, rl, hg, hQ, hE⟩ := prom
    obtain ⟨gb, ⟨t, body, sv⟩, goal⟩ := hbody cdv A outer s H E De gd (room.deeper _)
    have inv := inv_start (CX := L2.CX P w) (P := P) (w := w) (K := K) (mg := mg) (base := base) (f := f) (E := E) S room.hd env0 count rel ic
    have en0 : EnvOk K W W H (L2.start N (.non :: vs')) (startD N (.non :: ds)) := start_env ok (.cons .non rl) (by rw [← count] at hN; exact hN)
    have en1 : EnvOk K W W H ((L2.start N (.non :: vs')).set 0 (some (.ref C))) (startC N C ds) := en0.put (i := 0) (v := .ref C) (e := .cls C) rfl (fun z => by cases z)
    have es : (L2.start N (.non :: vs')).set 0 (some (.ref C)) = L2.start N (.ref C :: vs') := rfl
    rw [es] at en1
    have read := sv.run (W0 := W) (D := { nx := fun _ H' => Q .non H', rt := Q }) (fun C dx x W' H' ext ok' rx q => hE C dx x W' H' ext ok' rx q) en1 (goal ds Dq hg)
      ⟨fun σ ρ W' H' en q => hQ .non .non W' H' en.ext en.ok .non q, fun v d W' H' ext ok' r q => hQ v d W' H' ext ok' r q, fun _ _ _ _ _ q => q.elim, fun _ _ _ _ _ q => q.elim⟩
    apply wpAny_mono (body.run [] s1 (L2.start N (.ref C :: vs')) H _ inv read)
    · intro fl s2 said
      cases fl with
      | ret u =>
        obtain ⟨v, σ2, H2, J, rv, q⟩ := said
        exact ⟨v, H2, J.os, J.bare, J.base, J.hok, rv, q⟩
      | next =>
        obtain ⟨σ2, H2, J, q⟩ := said
        exact ⟨V.non, H2, J.os, J.bare, J.base, J.hok, rfl, q⟩
      | brk =>
        obtain ⟨_, _, _, q⟩ := said
        exact q.elim
      | cont =>
        obtain ⟨_, _, _, q⟩ := said
        exact q.elim
    · intro e s2 said
      exact said
/-- C's class method m, as its callers know it -/
def Cmt (P : Program) (w : World) (K : PySem.W.Frag) (mg : Str → Option Value) (base : Heap) (x : Str) (C : Addr) (m : Str) (k : Nat) (ps : List Str) (g : SpD) : Prop :=
  mg x = some (.ref C) ∧ ∃ mc q f fd, ClX.CRead K C mc ∧ ClX.CMet K C mc m q f ∧ FnC P w K mg base C k f fd ps g ∧ Binds K fd ps []
end
section
variable {X : Cx} {c : Cn} {k j n : Nat} {C : Addr} {ps ks : List Str} {g : SpD} {x m : Str} {p pos apos : Pos} {e : Expr} {es : List Expr} {kws : List Keyword} {fa fk : DTA} {pl : Sem Bool}
def tCm (C : Addr) (sp : Sp) (E : XK) (t : TA) : TE := fun σ H Q => t σ H fun vs H1 => sp (.ref C :: vs) H1 Q E
theorem pe_cmethG {CX : CXT} {mc : Value} {q f : Addr} {fd : FuncData} {sp : Sp} {E : XK} {t : TA} (hg : Gl X x) (hm : X.mg x = some (.ref C)) (r : ClX.CRead X.K C mc) (cm : ClX.CMet X.K C mc m q f) (F : FnG X.prog X.w X.K X.mg X.base CX k f fd ps sp) (hgd : X.A.guards = some []) (hr : Room k X.A) (hb : Binds X.K fd ps []) (hx : Passes CX X E) (ha : PA X (e :: es) t)
    (hdb : (x == ("__debug__" : Str)) = false := by decide) (hst : starEach (e :: es) X.env = (false, eval e X.env) :: starEach es X.env := by rfl) (hpl : (backTo pos (starEach es X.env)).any (·.1) = false := by rfl)
    (ht : eval (.Call (.Attribute (.Name x p) m apos) (e :: es) [] pos) X.env = (do
      let ov ← eval (.Name x p) X.env
      standAt apos.atName
      let (f, first) ← holding [ov] (getMethod ov m pl)
      callWith pos f first (backTo pos (starEach (e :: es) X.env)) (backToKw pos (keywordEach [] X.env))) := by rfl) :
    PE X (.Call (.Attribute (.Name x p) m apos) (e :: es) [] pos) (tCm C sp E t) := by
  refine ⟨fun pins s σ H Q I h => ?_⟩
  refine PySem.W.methodCall_KW (pl := pl) (ld_glob I hg hm ?_ hdb) ht
  refine ClX.getmethcm_ok I r cm fun s2 I2 => ?_
  refine ClX.callwith_cm I2 (ClX.base_none I (Nat.le_refl _)) cm.fi (thn (ha.run pos _ s2 σ H _ I2 h) fun us s3 ⟨vs, H2, I3, rv, q2⟩ => ⟨⟨ClX.pin_at I3, I3.kIn⟩, ?_⟩) hst hpl
  have l : Vals (V.ref C :: vs) (Value.ref C :: us) := .cons rfl rv
  have l2 : (Value.ref C :: us).length = ps.length := by rw [← l.length]; exact F.len _ _ _ _ q2
  have bt := hb s3 (Value.ref C :: us) I3.kIn (by simpa using l2)
  have z : wpAny (model X.prog X.w) X.A (call (.ref s.heap.objs.size) us) (EP X ((s.heap.objs.size, PySem.W.methodObj (.ref f) (.ref C)) :: pins) σ Q) X.xe s3 := by
    refine wpAny_call (PySem.W.method_call (ClX.pin_at I3) (codeAny_mono (F.run X.A X.stack s3 H2 ⟨Value.ref C :: us, []⟩ (Value.ref C :: us) (V.ref C :: vs) Q E hgd hr I3.env0 (by simpa using bt) l q2) fun r s' hq => ?_))
    cases r with
    | error e => exact hx _ σ H2 s3 e s' I3 hq
    | ok fl =>
      cases fl with
      | ret u => exact I3.after hq
      | next => exact False.elim hq
      | brk => exact False.elim hq
      | cont => exact False.elim hq
  exact thn z fun _ _ y => ClX.unpinE y
/-- C.m(e, ..) -/
theorem de_cmt (M : Cmt X.prog X.w X.K X.mg X.base x C m k ps g) (hgd : X.A.guards = some []) (hr : Room j X.A) (hj : k ≤ j) (hg : Gl X x) (hx : Passes (L2.CX X.prog X.w) X c.E) (ha : DA X c (e :: es) fa) (hK : X.K = c.K := by rfl)
    (hdb : (x == ("__debug__" : Str)) = false := by decide) (hst : starEach (e :: es) X.env = (false, eval e X.env) :: starEach es X.env := by rfl) (hpl : (backTo pos (starEach es X.env)).any (·.1) = false := by rfl)
    (ht : eval (.Call (.Attribute (.Name x p) m apos) (e :: es) [] pos) X.env = (do
      let ov ← eval (.Name x p) X.env
      standAt apos.atName
      let (f, first) ← holding [ov] (getMethod ov m pl)
      callWith pos f first (backTo pos (starEach (e :: es) X.env)) (backToKw pos (keywordEach [] X.env))) := by rfl) :
    DE X c (.Call (.Attribute (.Name x p) m apos) (e :: es) [] pos) (dFn c.De g [] fa) := by
  obtain ⟨hm, mc, q, f, fd, r, cm, F, hb⟩ := M
  obtain ⟨ta, pa, va⟩ := ha
  refine ⟨_, pe_cmethG (E := c.E) hg hm r cm F hgd (hr.mono hj) hb hx pa hdb hst hpl ht, ⟨fun {W0 W H σ ρ Q Dq} eo en q k => va.run eo en q fun vs ds W1 H1 g1 r1 q1 => ?_⟩⟩
  rw [hK]
  rw [List.append_nil] at q1
  exact ⟨vs, rfl, W1, ds, Dq, c.De, g1.ok, r1, q1, fun v d W2 H2 g2 r2 q2 => k v d W2 H2 (g1.trans g2) r2 q2, fun C dx x W2 H2 g2 rx q2 => eo C dx x W2 H2 ((en.ext.trans g1.ext).trans g2.ext) g2.ok rx q2⟩
/-! ### cls(e, .., k = v, ..) -/
def tMakeKL (i : Nat) (C : Addr) (n m : Nat) (sp : Sp) (gV : List V → List V → List V) (E : XK) (t tk : TA) : TE := fun σ H Q => σ[i]? = some (some (.ref C)) ∧ tMakeK C n m sp gV E t tk σ H Q
theorem pe_makeKGL {CX : CXT} {i : Nat} {f : Addr} {fd : FuncData} {sp : Sp} {E : XK} {t tk : TA} {g : List Value → List Value → List Value} {gV : List V → List V → List V} (M : Mk X.K C f) (F : FnG X.prog X.w X.K X.mg X.base CX k f fd ps sp) (hgd : X.A.guards = some []) (hr : Room (k + 1) X.A) (hN : X.N[i]? = some x) (hv : Vis X.env.scope x) (hb : KBn X.K fd ps (n + 1) ks g gV) (hx : Passes CX X E) (ha : PA X (e :: es) t) (hkw : PK X kws tk)
    (hall : (backToKw pos (keywordEach kws X.env)).all (·.1.isSome) = true := by rfl) (hks : (backToKw pos (keywordEach kws X.env)).filterMap (·.1) = ks := by rfl) (hdb : (x == ("__debug__" : Str)) = false := by decide) (hcd : (x == ("__classdict__" : Str)) = false := by decide)
    (he : starEach (e :: es) X.env = (false, eval e X.env) :: starEach es X.env := by rfl) (hpl : ((backTo pos (starEach (e :: es) X.env)).any (·.1) || (backToKw pos (keywordEach kws X.env)).any (·.1.isNone)) = false := by rfl) :
    PE X (.Call (.Name x p) (e :: es) kws pos) (tMakeKL i C n ks.length sp gV E t tk) := by
  refine ⟨fun pins s σ H Q I h => ?_⟩
  obtain ⟨hs, h⟩ := h
  refine wpAny_Call_Name_kw (thn ((pe_var (pos := p) hN hv hdb hcd).run pins s σ H (fun v H1 => v = .ref C ∧ H1 = H) I ⟨.ref C, hs, rfl, rfl⟩) fun u s0 ⟨v, H0, I0, r0, q0⟩ => ?_)
  obtain ⟨rfl, rfl⟩ := q0
  cases r0
  refine PySem.W.callWith_KW (h₀ := X.base) I.ok.mod.kin M.kp hall (thn (ha.run pos pins s0 σ _ _ I0 h) fun us s1 ⟨vs, H1, I1, r, q⟩ => ?_) hpl he
  refine thn (hkw.run pos pins s1 σ H1 _ I1 q) fun ws s2 ⟨zs, H2, I2, rz, l1, l2, q2⟩ => ⟨I2.kIn, ?_⟩
  rw [hks]
  exact run_makeKG M F hgd hr hb hx I2 r rz l1 l2 q2
def fMakeL (i : Nat) (C : Addr) (f : Env' → (Ent → Prop) → Prop) : Env' → (Ent → Prop) → Prop := fun ρ Q => ρ[i]? = some (.cls C) ∧ f ρ Q
theorem df_makeKL {B : FuncData → Prop} {g : SpI} {z : Str} {gV : List V → List V → List V} {gD : List D → List D → List D} (i : Nat) (I : Ini X.prog X.w X.K X.mg X.base z C k ps B g) (hB : ∀ fd, B fd → ∃ g', KBn X.K fd ps (n + 1) ks g' gV)
    (hD : ∀ (W : Wd) (a : Addr) (vs zs : List V) (ds es : List D), RepL X.K W vs ds → RepL X.K W zs es → ∃ us, gV (.ref a :: vs) zs = .ref a :: us ∧ RepL X.K W us (gD ds es)) (hgd : X.A.guards = some []) (hr : Room j X.A) (hj : k + 1 ≤ j) (hx : Passes (L2.CX X.prog X.w) X c.E)
    (ha : DA X c (e :: es) fa) (hkw : DK X c kws fk) (hN : X.N[i]? = some x := by rfl) (hv : Vis X.env.scope x := by first | exact Or.inl rfl | exact Or.inr (Or.inl rfl) | exact Or.inr (Or.inr rfl)) (hK : X.K = c.K := by rfl) (hall : (backToKw pos (keywordEach kws X.env)).all (·.1.isSome) = true := by rfl) (hks : (backToKw pos (keywordEach kws X.env)).filterMap (·.1) = ks := by rfl) (hdb : (x == ("__debug__" : Str)) = false := by decide) (hcd : (x == ("__classdict__" : Str)) = false := by decide)
    (he : starEach (e :: es) X.env = (false, eval e X.env) :: starEach es X.env := by rfl) (hpl : ((backTo pos (starEach (e :: es) X.env)).any (·.1) || (backToKw pos (keywordEach kws X.env)).any (·.1.isNone)) = false := by rfl) :
    DF X c (.Call (.Name x p) (e :: es) kws pos) (fMakeL i C (fMakeK c.De C n ks.length g gD fa fk)) := by
  obtain ⟨f, fd, F, M, co, hm, b⟩ := I
  obtain ⟨g', hb⟩ := hB fd b
  obtain ⟨ta, pa, va⟩ := ha
  obtain ⟨tk, pk, vk⟩ := hkw
  refine ⟨_, pe_makeKGL (i := i) (E := c.E) M F hgd (hr.mono hj) hN hv hb hx pa pk hall hks hdb hcd he hpl, ⟨fun {W0 W H σ ρ Q Dq} eo en q k => ⟨en.slot i _ q.1, ?_⟩⟩⟩
  refine va.run eo en q.2 fun vs ds W1 H1 g1 r1 q1 => vk.run eo (en.go g1) q1 fun zs es W2 H2 g2 r2 q2 => ⟨by rw [r1.len]; exact q2.1, by rw [r2.len]; exact q2.2.1, fun a dx na nd ne => ?_⟩
  obtain ⟨us, eu, ru⟩ := hD W2 a vs zs ds es (by rw [hK]; exact r1.mono g2.ext) (by rw [hK]; exact r2)
  rw [eu]
  rw [hK] at co ru ⊢
  refine made_new (c := c) (De := c.De) (W0 := W0) eo g2.ok ((en.ext.trans g1.ext).trans g2.ext) na nd ne co ru q2.2.2 fun a e W' H' no g3 ow so q => k a e W' H' (fun o => no (g2.owned (g1.owned o))) ((g1.trans g2).trans g3) ow so q
end
end DL

set_option Elab.async false
set_option linter.all false
set_option maxRecDepth 100000
set_option maxHeartbeats 2000000
/-! Defs proved by hand, as defs of data; streams. -/
namespace DL
open PySem PySem.Spec PyProof.Rows L2 LW RZ
section
variable {P : Program} {w : World} {K : PySem.W.Frag} {mg : Str → Option Value} {base : Heap}
/-- nothing is raised: whatever the frame lets out -/
theorem fnG_cx0 {k : Nat} {f : Addr} {fd : FuncData} {ps : List Str} {sp sp' : Sp} (F : FnG P w K mg base CX0 k f fd ps sp) (h : ∀ vs H Q E, sp' vs H Q E → sp vs H Q E) : FnG P w K mg base (L2.CX P w) k f fd ps sp' := by
  refine ⟨fun vs H Q E q => F.len vs H Q E (h _ _ _ _ q), fun A outer s H args us vs Q E gd hr e0 hb hv q => codeAny_mono (F.run A outer s H args us vs Q E gd hr e0 hb hv (h _ _ _ _ q)) fun r s' c => ?_⟩
  cases r with
  | error e => exact False.elim c
  | ok fl =>
    cases fl with
    | ret u => exact c
    | next => exact False.elim c
    | brk => exact False.elim c
    | cont => exact False.elim c
theorem cal_cx0 {x : Str} {k : Nat} {f : Addr} {fd : FuncData} {ps : List Str} {sp : Sp} {g : SpD} (F : FnG P w K mg base CX0 k f fd ps sp) (h : ∀ vs H Q E, spB K g vs H Q E → sp vs H Q E) (hm : mg x = some (.ref f)) (hk : PySem.W.keepIn K (.ref f) = true) (hb : Binds K fd ps []) : Cal P w K mg base x k ps g :=
  ⟨f, fd, fnD_of (fnG_cx0 F h), hm, hk, hb⟩
theorem Ok.draw {W : Wd} {H : Hp} (ok : Ok W H) {l : Addr} (t : W.T l) (x y z : Int) : Ok W (upd H l (.lst [.int x, .int y, .int z])) := by
  obtain ⟨hS, x', y', z', hl⟩ := ok.st l t
  refine ⟨fun b u e => ?_, fun m tm => ?_, ok.own, fun b a e => ?_⟩
  · exact (upd_ne fun q => by rw [q, hS] at e; cases e).trans (ok.le b u e)
  · obtain ⟨h1, i, j, k, h2⟩ := ok.st m tm
    by_cases q : m = l
    · exact ⟨h1, x, y, z, by rw [q, upd_same]⟩
    · exact ⟨h1, i, j, k, (upd_ne q).trans h2⟩
  · have n : b ≠ l := fun q => by rw [q, upd_same] at e; cases e
    rw [upd_ne n] at e
    obtain ⟨C, dx, fs, q⟩ := ok.dic b a e
    exact ⟨C, dx, fs, (upd_ne fun w => by rw [w, hl] at q; cases q).trans q⟩
theorem Ok.stream {W : Wd} {H : Hp} (ok : Ok W H) {p : Addr} (n : H p = none) (x y z : Int) : Ok ⟨W.S, fun l => W.T l ∨ l = p⟩ (upd H p (.lst [.int x, .int y, .int z])) := by
  have g := ok.gone n
  refine ⟨fun b u e => ?_, fun m tm => ?_, ok.own, fun b a e => ?_⟩
  · exact (upd_ne fun q => by rw [q, g.1] at e; cases e).trans (ok.le b u e)
  · by_cases q : m = p
    · exact ⟨by rw [q]; exact g.1, x, y, z, by rw [q, upd_same]⟩
    · obtain ⟨h1, i, j, k, h2⟩ := ok.st m (tm.resolve_right q)
      exact ⟨h1, i, j, k, (upd_ne q).trans h2⟩
  · have ne : b ≠ p := fun q => by rw [q, upd_same] at e; cases e
    rw [upd_ne ne] at e
    obtain ⟨C, dx, fs, q⟩ := ok.dic b a e
    exact ⟨C, dx, fs, (upd_ne fun w => by rw [w, n] at q; cases q).trans q⟩
theorem perm_map {α β : Type} {f : α → β} {ys zs : List β} (h : ys.Perm zs) : ∀ {bs : List α}, zs = bs.map f → ∃ bs' : List α, bs'.Perm bs ∧ bs'.map f = ys := by
  induction h with
  | nil => intro bs e; cases bs with
    | nil => exact ⟨[], .nil, rfl⟩
    | cons b bs => cases e
  | cons x h ih =>
    intro bs e
    cases bs with
    | nil => cases e
    | cons b bs =>
      rw [List.map_cons] at e
      injection e with e1 e2
      obtain ⟨bs', p, q⟩ := ih e2
      exact ⟨b :: bs', p.cons b, by rw [List.map_cons, q, e1]⟩
  | swap x y l =>
    intro bs e
    cases bs with
    | nil => cases e
    | cons b bs =>
      cases bs with
      | nil => cases e
      | cons c bs =>
        rw [List.map_cons, List.map_cons] at e
        injection e with e1 e2
        injection e2 with e2 e3
        exact ⟨c :: b :: bs, .swap b c bs, by rw [List.map_cons, List.map_cons, e1, e2, e3]⟩
  | trans h1 h2 ih1 ih2 =>
    intro bs e
    obtain ⟨b2, p2, e2⟩ := ih2 e
    obtain ⟨b1, p1, e1⟩ := ih1 e2.symm
    exact ⟨b1, p1.trans p2, e1⟩
/-- any order of what the values are worth -/
theorem RepL.perm {W : Wd} {vs ys : List V} {ds : List D} (r : RepL K W vs ds) (p : ys.Perm vs) : ∃ es, es.Perm ds ∧ RepL K W ys es := by
  obtain ⟨bs, rfl, rfl, rb⟩ := pairs_of r
  obtain ⟨bs', pb, e⟩ := perm_map p rfl
  refine ⟨bs'.map (·.2), pb.map _, ?_⟩
  rw [← e]
  exact repL_of fun b m => rb b (pb.mem_iff.mp m)
end
end DL

set_option Elab.async false
set_option linter.all false
set_option maxRecDepth 100000
set_option maxHeartbeats 2000000
namespace K05
open PySem PySem.Spec PyProof.Rows L2 LW RZ DL
def top (i : Nat) : Stmt := PySem.Challenge.pw_heardlate_k05_plans_made.main.body.getD i (.Pass ⟨0, 0, 0, 0⟩)
abbrev sStream : Stmt := top 32
abbrev sDraw : Stmt := top 33
abbrev sMixed : Stmt := top 35
/-- a stream of draws: three ints, whichever -/
def Stm (H : Hp) (l : Addr) : Prop := ∃ x y z : Int, H l = some (.lst [.int x, .int y, .int z])
structure TxtB (mg : Str → Option Value) : Prop where
  len : mg "len" = none
  int : mg "int" = none
  abs : mg "abs" = none
  max : mg "max" = none
/-- _law_stream(script, at): a new stream -/
def spStream (K : PySem.W.Frag) : Sp := fun vs H Q _ => ∃ (a : Addr) (ns : List Int) (i : Nat), vs = [.ref a, .int i] ∧ SqL K H a (ns.map V.int) ∧
  ∀ (p : Addr) (x y z : Int), H p = none → Q (.ref p) (upd H p (.lst [.int x, .int y, .int z]))
/-- _law_draw(stream, total): some number below total -/
def spDraw : Sp := fun vs H Q _ => ∃ (l : Addr) (n : Int), vs = [.ref l, .int n] ∧ Stm H l ∧ 0 < n ∧ n < 1000000 ∧
  ∀ (k x y z : Int), 0 ≤ k → k < n → Q (.int k) (upd H l (.lst [.int x, .int y, .int z]))
theorem mod_mul_ok {a b m : Int} (h : 0 < m) (h2 : m ≤ 2 ^ 63) : CMul (a % m) b := by
  have h0 := Int.emod_nonneg a (show m ≠ 0 by omega)
  have h1 := Int.emod_lt_of_pos a h
  exact .inl ⟨by omega, by omega⟩
theorem sql_upd {K : PySem.W.Frag} {H : Hp} {b l : Addr} {xs : List V} {o : HO} (h : SqL K H b xs) (n : b ≠ l) : SqL K (upd H l o) b xs := by
  rcases h with (h | ⟨u, h⟩) | h
  · exact .inl (.inl ((upd_ne n).trans h))
  · exact .inl (.inr ⟨u, (upd_ne n).trans h⟩)
  · exact .inr h
theorem sqt_upd {K : PySem.W.Frag} {H : Hp} {b l : Addr} {xs : List V} {o : HO} (h : SqT K H b xs) (n : b ≠ l) : SqT K (upd H l o) b xs := by
  rcases h with (h | ⟨u, h⟩) | h
  · exact .inl (.inl ((upd_ne n).trans h))
  · exact .inl (.inr ⟨u, (upd_ne n).trans h⟩)
  · exact .inr h
section
variable {P : Program} {w : World} {K : PySem.W.Frag} {mg : Str → Option Value} {base : Heap}
theorem scStream : FnScope ["script", "at", "cell", "great", "mixed"] ["script", "at"] (defScope sStream) := ⟨rfl, rfl, rfl, by decide +kernel, rfl, by decide +kernel, by decide +kernel⟩
theorem ok_stream {f : Addr} {fd : FuncData} (F : Fun K "_law_stream" "_law_stream" sStream f fd) (T : TxtB mg) : FnOk P w K mg base CX0 1 f fd ["script", "at"] (spStream K) := by
  refine F.ok scStream (fun vs H Q E h => ?_) (fun cdv A outer s H vs Q E hr h => ?_)
  · obtain ⟨a, ns, i, rfl, _⟩ := h
    rfl
  · obtain ⟨a, ns, i, rfl, hS, k⟩ := h
    refine ⟨_, (pss_cons (ps_set (i := 2) scStream.nd rfl (.inl rfl) (pe_op op_add (pe_op op_mul pe_int (pv 1)) pe_int))
      (pss_cons (ps_if (pt_cmpR op_lt (pv 1) (pe_callB call_len_seq (by rfl) T.len (by decide +kernel) (pa_cons (pv 0) pa_nil)) (nomark _))
        (pss_one (ps_set (i := 2) scStream.nd rfl (.inl rfl) (pe_ix ix_list (pv 0) (pv 1) (fun _ _ => rfl))))
        pss_nil)
      (pss_cons (ps_set (i := 3) scStream.nd rfl (.inl rfl) (pe_op op_mod (pe_callTy call_int1 (by rfl) T.int (by decide +kernel) (pa_cons (pe_callB call_abs (by rfl) T.abs (by decide +kernel) (pa_cons (pv 2) pa_nil)) pa_nil)) (pe_op op_powW (pe_op op_pow pe_int pe_int) pe_int)))
      (pss_cons (ps_set (i := 4) scStream.nd rfl (.inl rfl) (pe_op op_add (pe_op op_add (pe_op op_add (pe_op op_mul (pe_op op_mod (pe_callTy call_int1 (by rfl) T.int (by decide +kernel) (pa_cons (pv 3) pa_nil)) pe_int) pe_int) (pe_op op_mul pe_int (pv 1))) (pe_op op_mul pe_int (pe_callTy call_int1 (by rfl) T.int (by decide +kernel) (pa_cons (pe_cmpR op_lt (pv 2) pe_int (nomark _)) pa_nil)))) pe_int))
      (pss_one (ps_ret (pe_lst (pa_cons (pe_callB (call_max2 rfl) (by rfl) T.max (by decide +kernel) (pa_cons pe_int (pa_cons (pe_op op_sub (pv 3) (pe_op op_pow pe_int pe_int)) pa_nil))) (pa_cons (pe_op op_mod (pe_callTy call_int1 (by rfl) T.int (by decide +kernel) (pa_cons (pv 4) pa_nil)) pe_int) (pa_cons pe_int pa_nil)))))))))), ?_⟩
    refine ⟨_, rfl, _, _, rfl, rfl, .inl ⟨by decide, by decide⟩, _, _, rfl, rfl, ?_⟩
    refine ⟨_, rfl, _, rfl, a, _, rfl, .inl hS, _, _, rfl, rfl, _, rfl, ?_⟩
    refine ite2 (fun c => ?_) (fun c => ?_)
    · have hi : i < ns.length := by
        have c' := of_decide_eq_true c
        rw [List.length_map] at c'
        omega
      refine ⟨_, rfl, _, rfl, a, _, _, V.int ns[i], rfl, rfl, hS, atI_nat (by simp [hi]), ?_⟩
      refine ⟨_, rfl, _, rfl, .inl ⟨_, rfl, _, _, rfl, rfl, ⟨by decide, by decide, by decide⟩, _, _, rfl, rfl, ⟨by decide, by decide +kernel⟩, _, _, rfl, rfl, (show (0 : Int) < _ by decide +kernel), ?_⟩⟩
      refine ⟨_, rfl, .inl ⟨_, rfl, _, _, rfl, rfl, (show (0 : Int) < _ by decide), _, _, rfl, rfl, mod_mul_ok (by decide) (by decide), _, rfl, _, _, rfl, rfl, .inl ⟨by decide, by decide⟩, _, _, rfl, rfl, _, rfl, _, _, rfl, rfl, .inr ⟨_, rfl, _, _, rfl, rfl, .inl ⟨by decide, by decide⟩, _, _, rfl, rfl, _, _, rfl, rfl, ?_⟩⟩⟩
      refine ⟨_, rfl, _, _, rfl, rfl, ⟨by decide, by decide, by decide⟩, _, _, rfl, rfl, _, _, rfl, _, rfl, .inl ⟨_, rfl, _, _, rfl, rfl, (show (0 : Int) < _ by decide), (by show 3 ≤ sizeLine; decide), fun p hp => k p _ _ _ hp⟩⟩
    · refine ⟨_, rfl, _, rfl, .inl ⟨_, rfl, _, _, rfl, rfl, ⟨by decide, by decide, by decide⟩, _, _, rfl, rfl, ⟨by decide, by decide +kernel⟩, _, _, rfl, rfl, (show (0 : Int) < _ by decide +kernel), ?_⟩⟩
      refine ⟨_, rfl, .inl ⟨_, rfl, _, _, rfl, rfl, (show (0 : Int) < _ by decide), _, _, rfl, rfl, mod_mul_ok (by decide) (by decide), _, rfl, _, _, rfl, rfl, .inl ⟨by decide, by decide⟩, _, _, rfl, rfl, _, rfl, _, _, rfl, rfl, .inr ⟨_, rfl, _, _, rfl, rfl, .inl ⟨by decide, by decide⟩, _, _, rfl, rfl, _, _, rfl, rfl, ?_⟩⟩⟩
      refine ⟨_, rfl, _, _, rfl, rfl, ⟨by decide, by decide, by decide⟩, _, _, rfl, rfl, _, _, rfl, _, rfl, .inl ⟨_, rfl, _, _, rfl, rfl, (show (0 : Int) < _ by decide), (by show 3 ≤ sizeLine; decide), fun p hp => k p _ _ _ hp⟩⟩
theorem scDraw : FnScope ["stream", "total", "found", "one", "two"] ["stream", "total"] (defScope sDraw) := ⟨rfl, rfl, rfl, by decide +kernel, rfl, by decide +kernel, by decide +kernel⟩
theorem ok_draw {f : Addr} {fd : FuncData} (F : Fun K "_law_draw" "_law_draw" sDraw f fd) (T : TxtB mg) : FnOk P w K mg base CX0 1 f fd ["stream", "total"] spDraw := by
  refine F.ok scDraw (fun vs H Q E h => ?_) (fun cdv A outer s H vs Q E hr h => ?_)
  · obtain ⟨l, n, rfl, _⟩ := h
    rfl
  · obtain ⟨l, n, rfl, ⟨x, y, z, hl⟩, h1, h2, k⟩ := h
    refine ⟨_, (pss_cons (ps_if (pt_cmpR op_gt (pe_ix ix_list (pv 0) pe_int (fun _ _ => rfl)) pe_int (nomark _))
        (pss_cons (ps_set (i := 2) scDraw.nd rfl (.inl rfl) (pe_op op_mod (pe_callTy call_int1 (by rfl) T.int (by decide +kernel) (pa_cons (pe_ix ix_list (pv 0) pe_int (fun _ _ => rfl)) pa_nil)) (pv 1)))
        (pss_cons (ps_asg (pe_op op_fdiv (pe_ix ix_list (pv 0) pe_int (fun _ _ => rfl)) (pv 1)) (pg_sub (pv 0) pe_int set_list))
        (pss_one (ps_ret (pv 2)))))
        pss_nil)
      (pss_cons (ps_asg (pe_op op_add (pe_ix ix_list (pv 0) pe_int (fun _ _ => rfl)) pe_int) (pg_sub (pv 0) pe_int set_list))
      (pss_cons (ps_set (i := 3) scDraw.nd rfl (.inl rfl) (pe_op op_mod (pe_callTy call_int1 (by rfl) T.int (by decide +kernel) (pa_cons (pe_op op_add (pe_ix ix_list (pv 0) pe_int (fun _ _ => rfl)) (pe_op op_mul pe_int (pe_ix ix_list (pv 0) pe_int (fun _ _ => rfl)))) pa_nil)) pe_int))
      (pss_cons (ps_set (i := 4) scDraw.nd rfl (.inl rfl) (pe_op op_add (pe_op op_mul (pe_op op_mod (pe_callTy call_int1 (by rfl) T.int (by decide +kernel) (pa_cons (pe_op op_mul (pv 3) (pv 3)) pa_nil)) pe_int) (pv 3)) (pe_op op_mul pe_int (pe_ix ix_list (pv 0) pe_int (fun _ _ => rfl)))))
      (pss_cons (ps_set (i := 4) scDraw.nd rfl (.inl rfl) (pe_op op_mod (pe_callTy call_int1 (by rfl) T.int (by decide +kernel) (pa_cons (pv 4) pa_nil)) pe_int))
      (pss_one (ps_ret (pe_op op_mod (pe_callTy call_int1 (by rfl) T.int (by decide +kernel) (pa_cons (pe_op op_fdiv (pv 4) pe_int) pa_nil)) (pv 1))))))))), ?_⟩
    refine ⟨_, rfl, l, _, _, _, rfl, rfl, SqL.of hl, rfl, _, _, rfl, rfl, _, rfl, ?_⟩
    refine ite2 (fun c => ?_) (fun c => ?_)
    · refine ⟨_, rfl, l, _, _, _, rfl, rfl, SqL.of hl, rfl, .inl ⟨_, rfl, _, rfl, _, _, rfl, rfl, h1, ?_⟩⟩
      refine ⟨_, rfl, l, _, _, _, rfl, rfl, SqL.of hl, rfl, _, rfl, _, _, rfl, rfl, ⟨h1, by omega⟩, _, rfl, l, _, _, 0, rfl, rfl, hl, rfl, ?_⟩
      exact ⟨_, rfl, k _ _ _ _ (Int.emod_nonneg _ (by omega)) (Int.emod_lt_of_pos _ h1)⟩
    · refine ⟨_, rfl, l, _, _, _, rfl, rfl, SqL.of hl, rfl, _, _, rfl, rfl, _, rfl, l, _, _, 2, rfl, rfl, hl, rfl, ?_⟩
      refine ⟨_, rfl, l, _, _, _, rfl, rfl, SqL.of upd_same, rfl, _, rfl, l, _, _, _, rfl, rfl, SqL.of upd_same, rfl, _, _, rfl, rfl, .inl ⟨by decide, by decide⟩, _, _, rfl, rfl, .inl ⟨_, rfl, _, _, rfl, rfl, (show (0 : Int) < _ by decide), ?_⟩⟩
      refine ⟨_, rfl, _, rfl, _, _, rfl, rfl, mod_mul_ok (by decide) (by decide), .inl ⟨_, rfl, _, _, rfl, rfl, (show (0 : Int) < _ by decide), _, rfl, _, _, rfl, rfl, mod_mul_ok (by decide) (by decide), _, rfl, l, _, _, _, rfl, rfl, SqL.of upd_same, rfl, _, _, rfl, rfl, .inl ⟨by decide, by decide⟩, _, _, rfl, rfl, ?_⟩⟩
      refine ⟨_, rfl, .inl ⟨_, rfl, _, _, rfl, rfl, (show (0 : Int) < _ by decide), ?_⟩⟩
      exact ⟨_, rfl, _, _, rfl, rfl, ⟨by decide, by decide⟩, .inl ⟨_, rfl, _, rfl, _, _, rfl, rfl, h1, k _ _ _ _ (Int.emod_nonneg _ (by omega)) (Int.emod_lt_of_pos _ h1)⟩⟩
structure TxtD (K : PySem.W.Frag) (mg : Str → Option Value) (fD : Addr) (fdD : FuncData) : Prop where
  gD : mg "_law_draw" = some (.ref fD)
  kD : PySem.W.keepIn K (.ref fD) = true
  bD : Binds K fdD ["stream", "total"] []
end
structure TxtM (K : PySem.W.Frag) (mg : Str → Option Value) (fD : Addr) (fdD : FuncData) : Prop where
  gD : mg "_law_draw" = some (.ref fD)
  kD : PySem.W.keepIn K (.ref fD) = true
  bD : Binds K fdD ["stream", "total"] []
  list : mg "list" = none
  len : mg "len" = none
  range : mg "range" = none
  tuple : mg "tuple" = none
theorem erase_perm {α : Type} : ∀ (l : List α) (i : Nat) (h : i < l.length), (l[i] :: l.eraseIdx i).Perm l
  | x :: l, 0, h => .refl _
  | x :: l, i + 1, h => (List.Perm.swap x _ _).trans ((erase_perm l i (Nat.lt_of_succ_lt_succ h)).cons x)
/-- _law_mixed(stream, items): a new list of them in some order -/
def spMixed (K : PySem.W.Frag) : Sp := fun vs H Q _ => ∃ (l b : Addr) (xs : List V), vs = [.ref l, .ref b] ∧ St3 H l ∧ (SqL K H b xs ∨ SqT K H b xs) ∧ xs.length ≤ 1000 ∧ ∀ (p : Addr) (H' : Hp) (ys : List V), Aft l H H' → (∀ c a, H' c = some (.own a) → H c = some (.own a)) → H p = none → H' p = some (.lst ys) → ys.Perm xs → Q (.ref p) H'
section
variable {P : Program} {w : World} {K : PySem.W.Frag} {mg : Str → Option Value} {base : Heap}
theorem scMixed : FnScope ["stream", "items", "left", "turn"] ["stream", "items"] (defScope sMixed) := ⟨rfl, rfl, rfl, by decide +kernel, rfl, by decide +kernel, by decide +kernel⟩
theorem ok_mixed {f fD : Addr} {fd fdD : FuncData} (F : Fun K "_law_mixed" "_law_mixed" sMixed f fd) (T : TxtM K mg fD fdD) (GD : FnOk P w K mg base CX0 1 fD fdD ["stream", "total"] spDraw) : FnOk P w K mg base CX0 2 f fd ["stream", "items"] (spMixed K) := by
  refine F.ok scMixed (fun vs H Q E h => ?_) (fun cdv A outer s H vs Q E hr h => ?_)
  · obtain ⟨l, b, xs, rfl, _⟩ := h
    rfl
  · obtain ⟨l, b, xs, rfl, hS, hB, few, k⟩ := h
    refine ⟨_, (pss_cons (ps_set (i := 2) scMixed.nd rfl (.inr rfl) (pe_callTy call_list_of (by rfl) T.list (by decide +kernel) (pa_cons (pv 1) pa_nil)))
      (pss_one (ps_ret (pe_lc (own := [("turn", 3)]) (g := gName 3) (tt := tYes) (by rfl) scMixed.nd (pi_range1 (by rfl) T.range (pa_cons (pe_callB call_len_seq (by rfl) T.len (by decide +kernel) (pa_cons (pv 1) pa_nil)) pa_nil)) (blkOk_by (own := [("turn", 3)]) (N := ["stream", "items", "left", "turn"]) (sc := defScope sMixed) (by decide +kernel)) (fun _ _ _ _ _ => (pg_name (i := 3) scMixed.nd rfl (.inl rfl))) (fun _ _ _ _ _ => pts_nil) (fun _ _ _ _ _ => (pe_bmK K PySem.F.plainAttrs_list PySem.F.slot_list_pop PySem.F.type_list_pop mt_popAt (pv 2) (pa_cons (pe_call GD hr rfl T.gD T.kD T.bD .nil pass0 (pa_cons (pv 0) (pa_cons (pe_callB (call_lenK K) (by rfl) T.len (by decide +kernel) (pa_cons (pv 2) pa_nil)) pa_nil))) pa_nil))))))), ?_⟩
    refine ⟨_, rfl, b, xs, rfl, hB, fun q hq => ?_⟩
    have A0 : Aft l H H := Aft.refl hS
    have nq : q ≠ l := A0.ne hq
    have A1 : Aft l H (upd H q (.lst xs)) := A0.put hq nq
    have hB1 : SqL K (upd H q (.lst xs)) b xs ∨ SqT K (upd H q (.lst xs)) b xs := hB.imp (fun h => sameL (fun c o e => (upd_ne fun z => by rw [z, hq] at e; cases e).trans e) h) fun h => sameT (fun c o e => (upd_ne fun z => by rw [z, hq] at e; cases e).trans e) h
    refine ⟨_, rfl, _, _, rfl, hB1, ?_⟩
    have noown : ∀ {G : Hp} {p : Addr} {xs : List V}, (∀ c a, G c = some (.own a) → H c = some (.own a)) → ∀ c a, upd G p (.lst xs) c = some (.own a) → H c = some (.own a) := fun {G p xs} h c a e => by
      by_cases z : c = p
      · rw [z, upd_same] at e; cases e
      · rw [upd_ne z] at e; exact h c a e
    refine ⟨_, rfl, by omega, by omega, fun D hD => lc_it (walk_range (lo := 0) (n := xs.length)) (fun i H1 => Aft l H H1 ∧ (∀ c a, H1 c = some (.own a) → H c = some (.own a)) ∧ ∃ ls ys, H1 q = some (.lst ls) ∧ H1 D = some (.lst ys) ∧ ls.length + i = xs.length ∧ ys.length = i ∧ (ys ++ ls).Perm xs)
      ⟨A1.put (A1.free hD) (A1.ne hD), noown (noown fun c a e => e), xs, [], ?_, upd_same, rfl, rfl, .refl _⟩ (fun _ _ _ _ => trivial) (fun i x H1 H2 hi ⟨a1, no, ls, ys, eL, eD, hl, hy, pm⟩ ⟨e, ev⟩ => ?_) fun H1 ⟨a1, no, ls, ys, eL, eD, hl, hy, pm⟩ => k D H1 ys a1 no (A1.free hD) eD (by
        have z : ls = [] := List.eq_nil_of_length_eq_zero (by omega)
        rw [z, List.append_nil] at pm
        exact pm)⟩
    · have ne : q ≠ D := by
        rintro rfl
        rw [upd_same] at hD
        cases hD
      exact (upd_ne ne).trans upd_same
    · subst e ev
      have ne : q ≠ D := by
        rintro rfl
        rw [upd_same] at hD
        cases hD
      have nD : D ≠ l := A1.ne hD
      refine ⟨rfl, _, rfl, .inl ⟨rfl, _, SqL.of eL⟩, _, rfl, _, rfl, q, ls, rfl, .inl (SqL.of eL), l, _, rfl, a1.st, by omega, by omega, fun m x y z g1 g2 => ?_⟩
      obtain ⟨j, rfl⟩ := Int.eq_ofNat_of_zero_le g1
      have hj : j < ls.length := by omega
      obtain ⟨kk, h1, h2, _⟩ := atI_get (atI_nat (List.getElem?_eq_getElem hj))
      have hkk : kk < ls.length := (List.getElem?_eq_some_iff.mp h2).1
      have ek : ls[kk] = ls[j] := (List.getElem?_eq_some_iff.mp h2).2
      have a2 : Aft l H (upd H2 l (.lst [.int x, .int y, .int z])) := a1.draw
      have hq' : H q = none := hq
      refine ⟨q, ls, j, kk, ls[j], rfl, rfl, (upd_ne nq).trans eL, by omega, by omega, h1, h2, ys, (upd_ne ne.symm).trans ((upd_ne nD).trans eD), ?_, (a2.put hq' nq).put (A1.free hD) nD, noown (noown (noown no)), ls.eraseIdx kk, ys ++ [ls[j]], (upd_ne ne).trans upd_same, upd_same, ?_, ?_, ?_⟩
      · have z : sizeLine = 16777216 := sizeLine_eq
        omega
      · rw [List.length_eraseIdx_of_lt hkk]
        omega
      · rw [List.length_append, hy]
        rfl
      · rw [List.append_assoc]
        refine (List.Perm.append_left ys ?_).trans pm
        rw [← ek]
        exact erase_perm ls kk hkk
theorem cal_stream (T : TxtB mg) {f : Addr} {fd : FuncData} (F : Fun K "_law_stream" "_law_stream" sStream f fd) (hm : mg "_law_stream" = some (.ref f)) (hb : Binds K fd ["script", "at"] []) :
    Cal P w K mg base "_law_stream" 1 ["script", "at"] (fun ds Q _ => ∃ (ns : List Int) (i : Nat), ds = [.scr ns, .int i] ∧ Q .stm) := by
  refine cal_cx0 (FnG.of (ok_stream F T)) (fun vs H Q E h => ?_) hm F.kp hb
  obtain ⟨W, ds, Dq, De, ok, rl, ⟨ns, i, rfl, q⟩, hQ, _⟩ := h
  cases rl with
  | cons r1 r2 =>
    cases r2 with
    | cons r3 r4 =>
      cases r4
      cases r3
      cases r1 with
      | scr z s => exact ⟨_, ns, i, rfl, sameL ok.le s.list, fun p x y z n => hQ _ .stm ⟨W.S, fun l => W.T l ∨ l = p⟩ _ ⟨Same.refl _, fun _ h => .inl h⟩ (ok.stream n x y z) (.stm (.inr rfl)) q⟩
theorem cal_draw (T : TxtB mg) {f : Addr} {fd : FuncData} (F : Fun K "_law_draw" "_law_draw" sDraw f fd) (hm : mg "_law_draw" = some (.ref f)) (hb : Binds K fd ["stream", "total"] []) :
    Cal P w K mg base "_law_draw" 1 ["stream", "total"] (fun ds Q _ => ∃ n : Int, ds = [.stm, .int n] ∧ 0 < n ∧ n < 1000000 ∧ ∀ k : Int, 0 ≤ k → k < n → Q (.int k)) := by
  refine cal_cx0 (FnG.of (ok_draw F T)) (fun vs H Q E h => ?_) hm F.kp hb
  obtain ⟨W, ds, Dq, De, ok, rl, ⟨n, rfl, n0, n1, q⟩, hQ, _⟩ := h
  cases rl with
  | cons r1 r2 =>
    cases r2 with
    | cons r3 r4 =>
      cases r4
      cases r3
      cases r1 with
      | stm t => exact ⟨_, n, rfl, (ok.st _ t).2, n0, n1, fun k x y z h1 h2 => hQ _ (.int k) W _ (Ext.refl W) (ok.draw t x y z) (.int k) (q k h1 h2)⟩
theorem cal_mixed {f fD : Addr} {fd fdD : FuncData} (T : TxtM K mg fD fdD) (TB : TxtB mg) (FD : Fun K "_law_draw" "_law_draw" sDraw fD fdD) (F : Fun K "_law_mixed" "_law_mixed" sMixed f fd) (hm : mg "_law_mixed" = some (.ref f)) (hb : Binds K fd ["stream", "items"] []) :
    Cal P w K mg base "_law_mixed" 2 ["stream", "items"] (fun ds Q _ => ∃ xs : List D, (ds = [.stm, .tup xs] ∨ ∃ n, ds = [.stm, .lst n xs]) ∧ xs.length ≤ 1000 ∧ ∀ ys : List D, ys.Perm xs → Q (.lst false ys)) := by
  refine cal_cx0 (FnG.of (ok_mixed F T (ok_draw FD TB))) (fun vs H Q E h => ?_) hm F.kp hb
  obtain ⟨W, ds, Dq, De, ok, rl, ⟨xs, hds, few, q⟩, hQ, _⟩ := h
  have fin : ∀ (l b : Addr) (vs' : List V), W.T l → (SqL K H b vs' ∨ SqT K H b vs') → RepL K W vs' xs → spMixed K [.ref l, .ref b] H Q E := fun l b vs' t hs rl => by
    refine ⟨l, b, vs', rfl, (ok.st l t).2, hs, by rw [rl.len]; exact few, fun p H' ys af no np e pm => ?_⟩
    obtain ⟨es, pe, re⟩ := rl.perm pm
    have gone := ok.gone np
    have neT : ∀ m, W.T m → m ≠ p := fun m tm z => gone.2 (by rw [← z]; exact tm)
    have keep : ∀ b o, H b = some o → b ≠ l → H' b = some o := fun b o e n => af.at e n
    have ext : Ext W ⟨upd W.S p (.lst ys), W.T⟩ := ⟨fun b u eb => (upd_ne fun z => by rw [z, gone.1] at eb; cases eb).trans eb, fun _ h => h⟩
    refine hQ (.ref p) (.lst false es) _ H' ext ⟨fun b u eb => ?_, fun m tm => ⟨(upd_ne (neT m tm)).trans (ok.st m tm).1, ?_⟩, fun b x eb => ?_, fun b x eb => ?_⟩ (.lst (fun z => by cases z) ?_ upd_same (re.mono ext)) (q es pe)
    · have eb' : upd W.S p (.lst ys) b = some u := eb
      by_cases z : b = p
      · rw [z, upd_same] at eb'; rw [z, ← Option.some.inj eb']; exact e
      · rw [upd_ne z] at eb'
        exact keep b u (ok.le b u eb') fun z => by rw [z, (ok.st l t).1] at eb'; cases eb'
    · by_cases z : m = l
      · rw [z]; exact af.st
      · obtain ⟨i, j, k, h⟩ := (ok.st m tm).2
        exact ⟨i, j, k, keep m _ h z⟩
    · have eb' : upd W.S p (.lst ys) b = some (.own x) := eb
      have ne : b ≠ p := fun z => by rw [z, upd_same] at eb'; cases eb'
      rw [upd_ne ne] at eb'
      obtain ⟨C, dx, fs, h⟩ := ok.own b x eb'
      exact ⟨C, dx, fs, ext.s _ _ h⟩
    · obtain ⟨C, dx, fs, h⟩ := ok.dic b x (no b x eb)
      refine ⟨C, dx, fs, keep x _ h fun z => ?_⟩
      obtain ⟨i, j, k, h2⟩ := (ok.st l t).2
      rw [z, h2] at h; cases h
    · rw [pm.length_eq, rl.len]
      have z : sizeLine = 16777216 := sizeLine_eq
      omega
  rcases hds with rfl | ⟨n, rfl⟩
  · cases rl with
    | cons r1 r2 =>
      cases r2 with
      | cons r3 r4 =>
        cases r4
        cases r1 with
        | stm t =>
          cases r3 with
          | tup z s l =>
            exact fin _ _ _ t (.inr (s.sq ok.le)) l
  · cases rl with
    | cons r1 r2 =>
      cases r2 with
      | cons r3 r4 =>
        cases r4
        cases r1 with
        | stm t =>
          cases r3 with
          | lst n z s l => exact fin _ _ _ t (.inl (SqL.of (ok.le _ _ s))) l
end
end K05

set_option Elab.async false
set_option linter.all false
set_option maxRecDepth 100000
set_option maxHeartbeats 2000000
/-! The law itself: its def over data, as the walk asks for it. -/
namespace DL
open PySem PySem.Spec PyProof.Rows L2 LW RZ
theorem fnG_noX {P : Program} {w : World} {K : PySem.W.Frag} {mg : Str → Option Value} {base : Heap} {k : Nat} {f : Addr} {fd : FuncData} {ps : List Str} {sp : Sp} (F : FnG P w K mg base (L2.CX P w) k f fd ps sp) :
    FnG P w K mg base CX0 k f fd ps (fun vs H Q _ => sp vs H Q noE) := by
  refine ⟨fun vs H Q E q => F.len vs H Q noE q, fun A outer s H args us vs Q E gd hr e0 hb hv q => codeAny_mono (F.run A outer s H args us vs Q noE gd hr e0 hb hv q) fun r s' c => ?_⟩
  cases r with
  | error e =>
    obtain ⟨_, _, _, _, _, _, _, _, _, _, _, _, q⟩ := c
    exact q.elim
  | ok fl =>
    cases fl with
    | ret u => exact c
    | next => exact False.elim c
    | brk => exact False.elim c
    | cont => exact False.elim c
/-- what is there when the law is called: the script, which nobody changes -/
theorem first_ok {H : Hp} (o : Only H) : Ok ⟨H, fun _ => False⟩ H := by
  refine ⟨fun _ _ e => e, fun _ t => t.elim, fun b x e => ?_, fun b x e => ?_⟩
  · have e' : H b = some (.own x) := e
    rcases o b with z | ⟨o', xs, z⟩
    · rw [z] at e'; cases e'
    · rw [z] at e'; cases e'
  · rcases o b with z | ⟨o', xs, z⟩
    · rw [z] at e; cases e
    · rw [z] at e; cases e
/-- what a law's def must do -/
def gLaw : SpD := fun ds Q _ => ∃ ns : List Int, ds = [.scr ns] ∧ ns.length ≤ 63 ∧ Q (.bl true)
/-- the goal that the walk leaves, from the law's def over data -/
theorem walk_ofD {l : PySem.W.OpenLaw} {n k : Nat} {q : Program} {loose : List Str} {XP : (Str → Option Value) → Heap → Prop} {YP : World → Heap → Prop} {d : DefRec} {K : Params → PySem.W.Frag} {x : Str}
    (most : l.most = some n) (fits : n ≤ 63) (plain : d.params.defaults = []) (room : Room k callerA)
    (hY : ∀ (w : World) (h : Heap), YP w h → (K w.params).In h)
    (F : ∀ (w : World) (mg : Str → Option Value) (fa : Addr) (h : Heap), (K w.params).In h → h.Ns mainGlobals mg → mg d.name = some (.ref fa) →
      ∃ fd : FuncData, (∀ (s : Shared) (u : Value), BindsTo s fd ⟨[u], []⟩ [(x, u)]) ∧
        ∀ base : Heap, (K w.params).In base → base.Ns mainGlobals mg → FnD l.prog w (K w.params) mg base k fa fd [x] gLaw) :
    PySem.W.WalkO q loose XP YP l.row.toRowW d [] (fun f vs => PySem.call f vs) := by
  refine walk_ofG (x := x) (sp := fun K vs H Q _ => spD K gLaw vs H Q noE) most (Nat.le_trans fits (by rw [sizeLine_eq]; decide)) plain room hY (fun w mg fa h h1 h2 h3 => ?_) fun K H a ns hl only hs => ?_
  · obtain ⟨fd, bnd, all⟩ := F w mg fa h h1 h2 h3
    exact ⟨fd, bnd, fun base b1 b2 => fnG_noX (all base b1 b2)⟩
  · have z : SqZ K H a (ns.map V.int) := by
      rcases hs with (h | ⟨o, h⟩) | h
      · rcases only a with e | ⟨o, xs, e⟩
        · rw [h] at e; cases e
        · rw [h] at e; cases e
      · exact .inl ⟨o, h⟩
      · exact .inr (.inr h)
    refine ⟨⟨H, fun _ => False⟩, [.scr ns], fun d => d = .bl true, noX, first_ok only, .cons (.scr (Nat.le_trans hl fits) z) .nil, ⟨ns, rfl, Nat.le_trans hl fits, rfl⟩, fun v d W' H' g r e => ?_, fun _ _ _ _ _ _ _ z => z.elim⟩
    subst e
    cases r
    rfl
end DL

set_option Elab.async false
set_option linter.all false
set_option maxRecDepth 100000
set_option maxHeartbeats 2000000
/-! Readings: loops and comprehensions whose items tell one thing each. -/
namespace DL
open PySem PySem.Spec PyProof.Rows L2 LW RZ
theorem lc_map {g : DTG} {te : DTE} {ρ : Env'} {F : D → D} : ∀ (ds acc : List D) {Q : List D → Prop}, (∀ d ∈ ds, ∀ R : D → Prop, R (F d) → g d ρ fun ρ1 => te ρ1 R) → Q (acc ++ ds.map F) → lcD g dYes te ρ acc ds Q
  | [], acc, Q, _, q => by rw [List.map_nil, List.append_nil] at q; exact q
  | d :: ds, acc, Q, h, q => h d List.mem_cons_self _ (lc_map ds (acc ++ [F d]) (fun e m => h e (List.mem_cons_of_mem _ m)) (by rw [List.append_assoc]; exact q))
theorem sc_map {g : DTG} {te : DTE} {ρ : Env'} {F : D → Str} : ∀ (ds : List D) (acc : List Str) {Q : List Str → Prop}, (∀ d ∈ ds, ∀ R : D → Prop, R (.str (F d)) → g d ρ fun ρ1 => te ρ1 R) → acc.length + ds.length < scanBound → Q (LS.insAll (ds.map F) acc) → scD g dYes te ρ acc ds Q
  | [], acc, Q, _, _, q => q
  | d :: ds, acc, Q, h, z, q => h d List.mem_cons_self _ ⟨F d, rfl, by rw [List.length_cons] at z; omega, sc_map ds (LS.ins (F d) acc) (fun e m => h e (List.mem_cons_of_mem _ m)) (by
      have := LS.ins_len (k := F d) (L := acc)
      rw [List.length_cons] at z
      omega) q⟩
theorem sk_map {g : DTG} {te : DTE} {ρ : Env'} {F : D → List Key} : ∀ (ds : List D) (acc : List (List Key)) {Q : List (List Key) → Prop}, (∀ d ∈ ds, F d ≠ [] ∧ ∀ R : D → Prop, R (.tup ((F d).map kD)) → g d ρ fun ρ1 => te ρ1 R) → acc.length + ds.length < 64 → Q (LS.insAll (ds.map F) acc) → scK g dYes te ρ acc ds Q
  | [], acc, Q, _, _, q => q
  | d :: ds, acc, Q, h, z, q => (h d List.mem_cons_self).2 _ ⟨F d, (h d List.mem_cons_self).1, rfl, by rw [List.length_cons] at z; omega, sk_map ds (LS.ins (F d) acc) (fun e m => h e (List.mem_cons_of_mem _ m)) (by
      have := LS.ins_len (k := F d) (L := acc)
      rw [List.length_cons] at z
      omega) q⟩
theorem dc_map {t : Bool} {g : DTG} {tk tv : DTE} {ρ : Env'} {F G : D → D} : ∀ (ds : List D) (acc : List (D × D)) {Q : List (D × D) → Prop}, (∀ d ∈ ds, isKey t (F d) = true ∧ ∀ R : D → D → Prop, R (F d) (G d) → g d ρ fun ρ1 => tk ρ1 fun y => tv ρ1 fun z => R y z) → Q (mergeD acc (ds.map fun d => (F d, G d))) → dcD t g dYes tk tv ρ acc ds Q
  | [], acc, Q, _, q => q
  | d :: ds, acc, Q, h, q => (h d List.mem_cons_self).2 (fun y z => isKey t y = true ∧ dcD t g dYes tk tv ρ (putD acc y z) ds Q) ⟨(h d List.mem_cons_self).1, dc_map ds (putD acc (F d) (G d)) (fun e m => h e (List.mem_cons_of_mem _ m)) q⟩
/-- no two alike: as many as there are -/
theorem insAll_len_nodup {α : Type} [DecidableEq α] : ∀ (ks L : List α), (ks ++ L).Nodup → (LS.insAll ks L).length = ks.length + L.length
  | [], L, _ => by show L.length = _; simp
  | k :: ks, L, h => by
    have h1 : k ∉ ks ++ L := (List.nodup_cons.mp h).1
    have h2 : (ks ++ L).Nodup := (List.nodup_cons.mp h).2
    have e : LS.ins k L = k :: L := by
      unfold LS.ins
      rw [if_neg fun m => h1 (List.mem_append_right _ m)]
    rw [LS.insAll, e, insAll_len_nodup ks (k :: L), List.length_cons, List.length_cons]
    · omega
    · have p : (ks ++ k :: L).Perm (k :: (ks ++ L)) := List.perm_middle
      exact p.nodup_iff.mpr h
/-- a loop in which nothing happens but the names it sets: Pv holds of the slots all along -/
theorem for_inv {g : DTG} {body : DTS} {Dd : DEnds} (Pv : Env' → Prop) : ∀ (ds : List D) {ρ : Env'}, (∀ d ∈ ds, ∀ ρ, Pv ρ → ∀ N : Env' → Prop, (∀ ρ', Pv ρ' → N ρ') → g d ρ fun ρ1 => body { Dd with nx := N, bk := Dd.nx, ct := N } ρ1) → Pv ρ → (∀ ρ, Pv ρ → Dd.nx ρ) → forD g body Dd ds ρ
  | [], ρ, _, p, q => q ρ p
  | d :: ds, ρ, h, p, q => by
    show g d ρ fun ρ1 => body { Dd with nx := fun ρ => forD g body Dd ds ρ, bk := Dd.nx, ct := fun ρ => forD g body Dd ds ρ } ρ1
    exact h d List.mem_cons_self ρ p _ fun ρ' p' => for_inv Pv ds (fun e m => h e (List.mem_cons_of_mem _ m)) p' q
end DL

set_option Elab.async false
set_option linter.all false
set_option maxRecDepth 100000
/-! rd: a reading, opened. -/
namespace DL
open PySem PySem.Spec PyProof.Rows L2 LW RZ
end DL

set_option Elab.async false
set_option linter.all false
set_option maxRecDepth 100000
set_option maxHeartbeats 2000000
namespace K05
open PySem PySem.Spec PyProof.Rows L2 LW RZ DL
section
variable {P : Program} {w : World} {K : PySem.W.Frag} {mg : Str → Option Value} {base : Heap}
theorem sc_is_integer : FnScope ["value"] ["value"] (defScope (top 2)) := ⟨rfl, rfl, rfl, by decide +kernel, rfl, by decide +kernel, by decide +kernel⟩
def isIntD : D → Bool
  | .int _ => true
  | _ => false
theorem isInt_eq (d : D) : (isiB "int" d && !isiB "bool" d) = isIntD d := by cases d <;> rfl
theorem ok_is_integer (T : Bl mg) (F : Dfn K mg "is_integer" "is_integer" (top 2) ["value"]) : Cal P w K mg base "is_integer" 1 ["value"] (fun ds Q _ => ∃ d, ds = [d] ∧ Q (.bl (isIntD d))) := by
  refine okC F sc_is_integer (by decide) (by rintro ds Q De ⟨d, rfl, _⟩; rfl) fun f cdv A outer s H E De hgd hr => ⟨_, (dss_one (ds_ret (de_and (de_isi "int" (by rfl) T.«isinstance» (by rfl) T.«int» (by decide +kernel) (dv 0)) (de_one (de_not (de_isi "bool" (by rfl) T.«isinstance» (by rfl) T.«bool» (by decide +kernel) (dv 0))))))), ?_⟩
  rintro ds Dq ⟨d, rfl, q⟩
  have e := isInt_eq d
  show (if isiB "int" d = true then Dq (.bl (!isiB "bool" d)) else Dq (.bl false))
  cases h : isiB "int" d with
  | true => rw [h] at e; rw [if_pos rfl, show (!isiB "bool" d) = isIntD d from e]; exact q
  | false => rw [h] at e; rw [if_neg Bool.false_ne_true, show false = isIntD d from e]; exact q
theorem sc_is_between : FnScope ["value", "least", "most"] ["value", "least", "most"] (defScope (top 3)) := ⟨rfl, rfl, rfl, by decide +kernel, rfl, by decide +kernel, by decide +kernel⟩
def btwD (lo hi : Int) : D → Bool
  | .int i => decide (lo ≤ i) && decide (i ≤ hi)
  | _ => false
theorem ok_is_between (T : Bl mg) (C_is_integer : Cal P w K mg base "is_integer" 1 ["value"] (fun ds Q _ => ∃ d, ds = [d] ∧ Q (.bl (isIntD d)))) (F : Dfn K mg "is_between" "is_between" (top 3) ["value", "least", "most"]) :
    Cal P w K mg base "is_between" 2 ["value", "least", "most"] (fun ds Q _ => ∃ d lo hi, ds = [d, .int lo, .int hi] ∧ Q (.bl (btwD lo hi d))) := by
  refine okC F sc_is_between (by decide) (by rintro ds Q De ⟨d, lo, hi, rfl, _⟩; rfl) fun f cdv A outer s H E De hgd hr => ⟨_, (dss_one (ds_ret (de_and (de_cal C_is_integer hgd hr (by decide) (by rfl) (passes_call (takes_of rfl rfl rfl rfl) fun _ _ _ _ h => h) (da_cons (dv 0) da_nil)) (de_one (de_chain op_leA l_le op_leA l_le (dv 1) (dv 0) (dv 2)))))), ?_⟩
  rintro ds Dq ⟨d, lo, hi, rfl, q⟩
  refine ⟨d, rfl, ?_⟩
  cases d with
  | int i =>
    show (if true = true then (if decide (lo ≤ i) = true then Dq (.bl (decide (i ≤ hi))) else Dq (.bl false)) else _)
    rw [if_pos rfl]
    have q' : Dq (.bl (decide (lo ≤ i) && decide (i ≤ hi))) := q
    cases h : decide (lo ≤ i) with
    | true => rw [h] at q'; exact q'
    | false => rw [h] at q'; exact q'
  | _ => exact q
end
end K05


set_option Elab.async false
set_option linter.all false
set_option maxRecDepth 100000
set_option maxHeartbeats 2000000
namespace K05
open PySem PySem.Spec PyProof.Rows L2 LW RZ DL
section
variable {P : Program} {w : World} {K : PySem.W.Frag} {mg : Str → Option Value} {base : Heap}
theorem sign_lt (a b : Nat) : decide ([a] < [b]) = decide (a < b) := by
  by_cases h : a < b
  · rw [decide_eq_true h]
    exact decide_eq_true (List.cons_lt_cons_iff.mpr (.inl h))
  · rw [decide_eq_false h]
    refine decide_eq_false fun z => ?_
    rcases List.cons_lt_cons_iff.mp z with z | ⟨_, z⟩
    · exact h z
    · exact absurd z (by simp)
theorem bools_true : ∀ ds : List D, boolsD ([] ++ ds.map fun _ => D.bl true) = some (ds.map fun _ => true)
  | [] => rfl
  | d :: ds => by
    have h := bools_true ds
    rw [List.nil_append] at h
    show (boolsD (ds.map fun _ => D.bl true)).map (true :: ·) = _
    rw [h]
    rfl
theorem sc_is_name : FnScope ["value", "sign"] ["value"] (defScope (top 12)) := ⟨rfl, rfl, rfl, by decide +kernel, rfl, by decide +kernel, by decide +kernel⟩
def okSign (c : Nat) : Prop := 97 ≤ c ∧ c ≤ 122
def okName (s : Str) : Prop := 1 ≤ s.length ∧ s.length ≤ 8 ∧ ∀ c ∈ s.cps.toList, okSign c
theorem ok_is_name (T : Bl mg) (F : Dfn K mg "is_name" "is_name" (top 12) ["value"]) : Cal P w K mg base "is_name" 1 ["value"] (fun ds Q _ => ∃ s : Str, ds = [.str s] ∧ okName s ∧ Q (.bl true)) := by
  refine okC F sc_is_name (by decide) (by rintro ds Q De ⟨d, rfl, _⟩; rfl) fun f cdv A outer s H E De hgd hr => ⟨_, (dss_cons (ds_if (DW.dt (dw_or (dt_not (dt_val (de_isi "str" (by rfl) T.«isinstance» (by rfl) T.«str» (by decide +kernel) (dv 0)))) (dw_or1 (dt_not (dt_chain op_leA l_le op_leA l_le de_int (de_callB (call_lenA) l_len (by rfl) T.«len» (by decide +kernel) (da_cons (dv 0) da_nil)) de_int)))))
        (dss_one (ds_ret de_bl))
        dss_nil)
      (dss_one (ds_ret (de_callB (call_all rfl) l_all (by rfl) T.«all» (by decide +kernel) (da_cons (de_fresh (df_lc (own := [("sign", 1)]) (by rfl) sc_is_name.nd (di_any (dv 0)) (blkOk_by (own := [("sign", 1)]) (N := ["value", "sign"]) (sc := defScope (top 12)) (by decide +kernel)) (fun _ _ _ _ _ => (dg_name (i := 1) sc_is_name.nd rfl (.inl rfl))) (fun _ _ _ _ _ => dts_nil) (fun _ _ _ _ _ => (de_chain op_leA l_le op_leA l_le de_str (dv 1) de_str)) (by decide))) da_nil))))), ?_⟩
  rintro ds Dq ⟨s, rfl, ⟨h1, h2, h3⟩, q⟩
  rw [show startD ["value", "sign"] [D.str s] = [.dat (.str s), .un] from rfl]
  dsimp only [DL.dAnd, DL.dAndV, DL.dAny, DL.dAppend, DL.dAsg, DL.dB, DL.dBreak, DL.dC, DL.dCall, DL.dChain, DL.dCons, DL.dConsA, DL.dCont, DL.dDrop, DL.dEnumL, DL.dEnumT, DL.dFld, DL.dFldO, DL.dFldSet, DL.dFmt, DL.dFn, DL.dFor, DL.dFresh, DL.dGet1, DL.dGet2, DL.dIfE, DL.dIfS, DL.dInK, DL.dIsi, DL.dIsiO, DL.dJoin, DL.dKeys, DL.dLenSc, DL.dLenSet, DL.dLenSk, DL.dLock, DL.dLockS, DL.dMth, DL.dNeg, DL.dNever, DL.dNext, DL.dNil, DL.dNilA, DL.dNone, DL.dNot, DL.dNotV, DL.dOp, DL.dOr, DL.dOrV, DL.dPar, DL.dPut, DL.dRet, DL.dRetN, DL.dRng1, DL.dRng2, DL.dSeq, DL.dSet, DL.dSetO, DL.dSl, DL.dSome, DL.dTruth, DL.dTup, DL.dVar, DL.dView, DL.dViewT, DL.dYes, DL.dZip, DL.fDc, DL.fDictP, DL.fDictPT, DL.fDisp, DL.fLc, DL.fListT, DL.fLock, DL.fLst, DL.fMake, DL.fMakeK, DL.fMakeL, DL.fNew, DL.gAdd, DL.gBools, DL.gCmp, DL.gConsD, DL.gDin, DL.gEq, DL.gEqO, DL.gGe, DL.gGet, DL.gGt, DL.gI, DL.gIb, DL.gIc, DL.gIn, DL.gInO, DL.gInt, DL.gIsN, DL.gIx, DL.gLe, DL.gLen, DL.gLenO, DL.gLt, DL.gNameD, DL.gNe, DL.gNilD, DL.gNotN, DL.gRepr, DL.gSl, DL.gSorted, DL.gStrI, DL.gStrO, DL.gStrS, DL.gSum, DL.gTupD, DL.gTuple, DL.jCons, DL.jNil, DL.pCons, DL.pNil, startD, isiB, List.map_cons, List.map_nil, List.cons_append, List.nil_append, List.length_cons, List.length_nil, List.set_cons_zero, List.set_cons_succ, List.getElem?_cons_zero, List.getElem?_cons_succ, List.replicate]
  rw [if_neg (by decide)]
  have hz : sizeLine = 16777216 := sizeLine_eq
  refine ⟨by omega, ?_⟩
  rw [if_pos (decide_eq_true (by omega)), if_neg (by rw [decide_eq_true (by omega)]; decide)]
  refine ⟨by omega, lc_map (F := fun _ => .bl true) _ _ (fun d m R r => ?_) ?_⟩
  · obtain ⟨u, mu, rfl⟩ := List.mem_map.mp m
    have hu := h3 u mu
    show (if (!strLt ⟨#[u]⟩ "a") = true then R (.bl (!strLt "z" ⟨#[u]⟩)) else R (.bl false))
    have e1 : strLt ⟨#[u]⟩ "a" = false := by
      show decide ([u] < [97]) = false
      rw [sign_lt]
      exact decide_eq_false (by have := hu.1; omega)
    have e2 : strLt "z" ⟨#[u]⟩ = false := by
      show decide ([122] < [u]) = false
      rw [sign_lt]
      exact decide_eq_false (by have := hu.2; omega)
    rw [e1, e2]
    exact r
  · refine ⟨(DL.signs s).map fun _ => true, ?_, ?_⟩
    · exact bools_true _
    · rw [List.all_map]
      have z : (DL.signs s).all (id ∘ fun _ => true) = true := List.all_eq_true.mpr fun _ _ => rfl
      rw [z]
      exact q
theorem all_true (ds : List D) : (ds.map fun _ => true).all id = true := by
  rw [List.all_map]
  exact List.all_eq_true.mpr fun _ _ => rfl
theorem strs_flat : ∀ es : List Str, D.flatL (es.map D.str) = true
  | [] => rfl
  | e :: es => by
    show (D.flat (.str e) && D.flatL (es.map D.str)) = true
    rw [strs_flat es]
    rfl
theorem strs_lay : ∀ es : List Str, (∀ e ∈ es, PyData.strOk e = true) → PyData.canLayAll0 (D.pyL (es.map D.str)) = true ∧ PyData.depthAll (D.pyL (es.map D.str)) = 0
  | [], _ => ⟨rfl, rfl⟩
  | e :: es, h => by
    obtain ⟨h1, h2⟩ := strs_lay es fun e m => h e (List.mem_cons_of_mem _ m)
    have h0 := h e List.mem_cons_self
    constructor
    · show PyData.canLayAll0 (.str e :: D.pyL (es.map D.str)) = true
      simp [PyData.canLayAll0, PyData.canLay0, h1, h0]
    · show PyData.depthAll (.str e :: D.pyL (es.map D.str)) = 0
      simp [PyData.depthAll, PyData.depth, h2]
theorem strs_cmp {es : List Str} (h : ∀ e ∈ es, PyData.strOk e = true) : D.cmp (.tup (es.map D.str)) = true := by
  obtain ⟨h1, h2⟩ := strs_lay es h
  have f := strs_flat es
  have e : D.py (.tup (es.map D.str)) = .tuple (D.pyL (es.map D.str)) := rfl
  unfold D.cmp SeqAt.shaped
  rw [e]
  simp [D.flat, f, PyData.canLay0, PyData.depth, h1, h2]
theorem in_strs (x : Str) : ∀ es : List Str, inD (.str x) (es.map D.str) = decide (x ∈ es)
  | [] => by simp [inD]
  | e :: es => by
    have ih := in_strs x es
    unfold inD at ih ⊢
    rw [List.map_cons, List.any_cons, ih]
    have z : eqD (.str e) (.str x) = decide (e = x) := by
      show (e == x) = _
      exact Bool.beq_eq_decide_eq e x
    rw [z]
    by_cases h : e = x
    · simp [h]
    · have h2 : ¬ x = e := fun q => h q.symm
      simp [h, h2]
theorem eq_int (i j : Int) : eqD (.int i) (.int j) = decide (i = j) := Bool.beq_eq_decide_eq i j
theorem int_cmp (i : Int) : (D.int i).cmp = true := by simp [D.cmp, D.flat, SeqAt.shaped, D.py, PyData.canLay0, PyData.depth]
theorem str_cmp {x : Str} (h : PyData.strOk x = true) : (D.str x).cmp = true := by simp [D.cmp, D.flat, SeqAt.shaped, D.py, PyData.canLay0, PyData.depth, h]
theorem name_ok {s : Str} (h : okName s) : PyData.strOk s = true := by
  unfold PyData.strOk
  rw [← Array.all_toList]
  refine List.all_eq_true.mpr fun c m => ?_
  have := (h.2.2 c m).2
  exact decide_eq_true (by omega)
theorem sc_are_events : FnScope ["value", "event"] ["value"] (defScope (top 17)) := ⟨rfl, rfl, rfl, by decide +kernel, rfl, by decide +kernel, by decide +kernel⟩
theorem ok_are_events (T : Bl mg) (C_is_name : Cal P w K mg base "is_name" 1 ["value"] (fun ds Q _ => ∃ s : Str, ds = [.str s] ∧ okName s ∧ Q (.bl true))) (F : Dfn K mg "are_events" "are_events" (top 17) ["value"]) :
    Cal P w K mg base "are_events" 2 ["value"] (fun ds Q _ => ∃ es : List Str, ds = [.tup (es.map D.str)] ∧ (∀ e ∈ es, okName e) ∧ (PySem.Str.ofString "start") ∉ es ∧ es.Nodup ∧ es.length + 1 < scanBound ∧ Q (.bl true)) := by
  refine okC F sc_are_events (by decide) (by rintro ds Q De ⟨d, rfl, _⟩; rfl) fun f cdv A outer s H E De hgd hr => ⟨_, (dss_cons (ds_if (DW.dt (dw_or (dt_not (dt_val (de_isi "tuple" (by rfl) T.«isinstance» (by rfl) T.«tuple» (by decide +kernel) (dv 0)))) (dw_or1 (dt_not (dt_val (de_callB (call_all rfl) l_all (by rfl) T.«all» (by decide +kernel) (da_cons (de_fresh (df_lc (own := [("event", 1)]) (by rfl) sc_are_events.nd (di_any (dv 0)) (blkOk_by (own := [("event", 1)]) (N := ["value", "event"]) (sc := defScope (top 17)) (by decide +kernel)) (fun _ _ _ _ _ => (dg_name (i := 1) sc_are_events.nd rfl (.inl rfl))) (fun _ _ _ _ _ => dts_nil) (fun _ _ _ _ _ => (de_cal C_is_name hgd hr (by decide) (by rfl) (passN fun _ _ _ h => h) (da_cons (dv 1) da_nil))) (by decide))) da_nil)))))))
        (dss_one (ds_ret de_bl))
        dss_nil)
      (dss_one (ds_ret (de_and (de_cmp (op_ninA hr.units (u65 hr)) l_nin de_str (dv 0) (by rfl)) (de_one (de_cmp (op_eqA hr.units) l_eq (de_lenSet (by rfl) (by rfl) T.«len» (by rfl) T.«set» (dv 0)) (de_callB (call_lenA) l_len (by rfl) T.«len» (by decide +kernel) (da_cons (dv 0) da_nil)) (nomark _))))))), ?_⟩
  rintro ds Dq ⟨es, rfl, hn, hs, nd, few, q⟩
  rw [show startD ["value", "event"] [D.tup (es.map D.str)] = [.dat (.tup (es.map D.str)), .un] from rfl]
  dsimp only [DL.dAnd, DL.dAndV, DL.dAny, DL.dAppend, DL.dAsg, DL.dB, DL.dBreak, DL.dC, DL.dCall, DL.dChain, DL.dCons, DL.dConsA, DL.dCont, DL.dDrop, DL.dEnumL, DL.dEnumT, DL.dFld, DL.dFldO, DL.dFldSet, DL.dFmt, DL.dFn, DL.dFor, DL.dFresh, DL.dGet1, DL.dGet2, DL.dIfE, DL.dIfS, DL.dInK, DL.dIsi, DL.dIsiO, DL.dJoin, DL.dKeys, DL.dLenSc, DL.dLenSet, DL.dLenSk, DL.dLock, DL.dLockS, DL.dMth, DL.dNeg, DL.dNever, DL.dNext, DL.dNil, DL.dNilA, DL.dNone, DL.dNot, DL.dNotV, DL.dOp, DL.dOr, DL.dOrV, DL.dPar, DL.dPut, DL.dRet, DL.dRetN, DL.dRng1, DL.dRng2, DL.dSeq, DL.dSet, DL.dSetO, DL.dSl, DL.dSome, DL.dTruth, DL.dTup, DL.dVar, DL.dView, DL.dViewT, DL.dYes, DL.dZip, DL.fDc, DL.fDictP, DL.fDictPT, DL.fDisp, DL.fLc, DL.fListT, DL.fLock, DL.fLst, DL.fMake, DL.fMakeK, DL.fMakeL, DL.fNew, DL.gAdd, DL.gBools, DL.gCmp, DL.gConsD, DL.gDin, DL.gEq, DL.gEqO, DL.gGe, DL.gGet, DL.gGt, DL.gI, DL.gIb, DL.gIc, DL.gIn, DL.gInO, DL.gInt, DL.gIsN, DL.gIx, DL.gLe, DL.gLen, DL.gLenO, DL.gLt, DL.gNameD, DL.gNe, DL.gNilD, DL.gNotN, DL.gRepr, DL.gSl, DL.gSorted, DL.gStrI, DL.gStrO, DL.gStrS, DL.gSum, DL.gTupD, DL.gTuple, DL.jCons, DL.jNil, DL.pCons, DL.pNil, startD, isiB, List.map_cons, List.map_nil, List.cons_append, List.nil_append, List.length_cons, List.length_nil, List.set_cons_zero, List.set_cons_succ, List.getElem?_cons_zero, List.getElem?_cons_succ, List.replicate]
  rw [if_neg (by decide)]
  refine lc_map (F := fun _ => .bl true) _ _ (fun d m R r => ?_) ⟨_, bools_true _, ?_⟩
  · obtain ⟨e, me, rfl⟩ := List.mem_map.mp m
    exact ⟨e, rfl, hn e me, r⟩
  · rw [if_neg (by rw [all_true]; decide)]
    refine ⟨str_cmp (by decide +kernel), strs_cmp fun e m => name_ok (hn e m), ?_⟩
    rw [if_pos (by rw [if_pos rfl, in_strs, decide_eq_false hs]; rfl)]
    refine ⟨es, rfl, few, int_cmp _, int_cmp _, ?_⟩
    rw [insAll_len_nodup es [] (by rw [List.append_nil]; exact nd), List.length_map, List.length_nil, Nat.add_zero, eq_int, decide_eq_true rfl]
    exact q
end
end K05

set_option Elab.async false
set_option linter.all false
set_option maxRecDepth 100000
set_option maxHeartbeats 2000000
namespace K05
open PySem PySem.Spec PyProof.Rows L2 LW RZ DL
section
variable {P : Program} {w : World} {K : PySem.W.Frag} {mg : Str → Option Value} {base : Heap} {tk : Tok}
abbrev start : Str := PySem.Str.ofString "start"
def delD : Option Int → D
  | none => .non
  | some i => .int i
/-- a step -/
structure Stp where
  e : Str
  b : Str
  l : Int
  m : Int
  d : Option Int
def Stp.D (x : Stp) : D := .tup [.str x.e, .str x.b, .int x.l, .int x.m, delD x.d]
def okDel : Option Int → Prop
  | none => True
  | some i => 0 ≤ i ∧ i ≤ 99
structure okStp (es : List Str) (x : Stp) : Prop where
  e1 : okName x.e
  e2 : x.e ≠ start
  e3 : x.e ∉ es
  b1 : x.b = start ∨ x.b ∈ es
  m1 : 1 ≤ x.m
  m2 : x.m ≤ 99
  l1 : 1 ≤ x.l
  l2 : x.l ≤ x.m
  d1 : okDel x.d
theorem eq_str (x y : Str) : eqD (.str x) (.str y) = decide (x = y) := Bool.beq_eq_decide_eq x y
theorem ifn {c : Prop} [Decidable c] {a b : Prop} (h : ¬ c) (q : b) : if c then a else b := by rw [if_neg h]; exact q
theorem ifp {c : Prop} [Decidable c] {a b : Prop} (h : c) (q : a) : if c then a else b := by rw [if_pos h]; exact q
theorem btw_in {lo hi i : Int} (h1 : lo ≤ i) (h2 : i ≤ hi) : btwD lo hi (.int i) = true := by
  show (decide (lo ≤ i) && decide (i ≤ hi)) = true
  rw [decide_eq_true h1, decide_eq_true h2]
  rfl
abbrev gBtw : SpD := fun ds Q _ => ∃ d lo hi, ds = [d, .int lo, .int hi] ∧ Q (.bl (btwD lo hi d))
abbrev gName : SpD := fun ds Q _ => ∃ s : Str, ds = [.str s] ∧ okName s ∧ Q (.bl true)
theorem sc_is_delay : FnScope ["value"] ["value"] (defScope (top 20)) := ⟨rfl, rfl, rfl, by decide +kernel, rfl, by decide +kernel, by decide +kernel⟩
theorem ok_is_delay (T : Bl mg) (C_is_between : Cal P w K mg base "is_between" 2 ["value", "least", "most"] gBtw) (G_MAX_DELAY : mg "MAX_DELAY" = some (.int 99 tk)) (F : Dfn K mg "is_delay" "is_delay" (top 20) ["value"]) :
    Cal P w K mg base "is_delay" 3 ["value"] (fun ds Q _ => ∃ d, ds = [delD d] ∧ okDel d ∧ Q (.bl true)) := by
  refine okC F sc_is_delay (by decide) (by rintro ds Q De ⟨d, rfl, _⟩; rfl) fun f cdv A outer s H E De hgd hr => ⟨_, (dss_one (ds_ret (de_or (de_cmp op_isN l_isN (dv 0) de_non (nomark _)) (de_one (de_cal C_is_between hgd hr (by decide) (by rfl) (passes_call (takes_of rfl rfl rfl rfl) fun _ _ _ _ h => h) (da_cons (dv 0) (da_cons de_int (da_cons (de_globI (by rfl) G_MAX_DELAY) da_nil)))))))), ?_⟩
  rintro ds Dq ⟨d, rfl, h, q⟩
  cases d with
  | none => exact q
  | some i =>
    refine ⟨.int i, 0, 99, rfl, ?_⟩
    rw [btw_in h.1 h.2]
    exact q
theorem sc__is_step : FnScope ["value", "events", "end", "begin", "least", "most", "delay"] ["value", "events"] (defScope (top 21)) := ⟨rfl, rfl, rfl, by decide +kernel, rfl, by decide +kernel, by decide +kernel⟩
theorem ok_is_step (T : Bl mg) (C_is_name : Cal P w K mg base "is_name" 1 ["value"] gName) (C_is_between : Cal P w K mg base "is_between" 2 ["value", "least", "most"] gBtw) (C_is_delay : Cal P w K mg base "is_delay" 3 ["value"] (fun ds Q _ => ∃ d, ds = [delD d] ∧ okDel d ∧ Q (.bl true))) (G_MAX_DURATION : mg "MAX_DURATION" = some (.int 99 tk)) (F : Dfn K mg "_is_step" "_is_step" (top 21) ["value", "events"]) :
    Cal P w K mg base "_is_step" 4 ["value", "events"] (fun ds Q _ => ∃ (x : Stp) (es : List Str), ds = [x.D, .tup (es.map DL.D.str)] ∧ okStp es x ∧ (∀ e ∈ es, PyData.strOk e = true) ∧ PyData.strOk x.b = true ∧ Q (.bl true)) := by
  refine okC F sc__is_step (by decide) (by rintro ds Q De ⟨x, es, rfl, _⟩; rfl) fun f cdv A outer s H E De hgd hr => ⟨_, (dss_cons (ds_if (DW.dt (dw_or (dt_not (dt_val (de_isi "tuple" (by rfl) T.«isinstance» (by rfl) T.«tuple» (by decide +kernel) (dv 0)))) (dw_or1 (dt_cmp (op_neA hr.units) l_ne (de_callB (call_lenA) l_len (by rfl) T.«len» (by decide +kernel) (da_cons (dv 0) da_nil)) de_int (nomark _)))))
        (dss_one (ds_ret de_bl))
        dss_nil)
      (dss_cons (ds_asg (dv 0) (dg_tup (n := 5) rfl (dgs_cons (dg_name (i := 2) sc__is_step.nd rfl (.inl rfl)) (dgs_cons (dg_name (i := 3) sc__is_step.nd rfl (.inl rfl)) (dgs_cons (dg_name (i := 4) sc__is_step.nd rfl (.inl rfl)) (dgs_cons (dg_name (i := 5) sc__is_step.nd rfl (.inl rfl)) (dgs_cons (dg_name (i := 6) sc__is_step.nd rfl (.inl rfl)) dgs_nil)))))))
      (dss_cons (ds_if (DW.dt (dw_or (dt_not (dt_val (de_cal C_is_name hgd hr (by decide) (by rfl) (passes_call (takes_of rfl rfl rfl rfl) fun _ _ _ _ h => h) (da_cons (dv 2) da_nil)))) (dw_or (dt_cmp (op_eqA hr.units) l_eq (dv 2) de_str (nomark _)) (dw_or1 (dt_cmp (op_inA hr.units (u65 hr)) l_in (dv 2) (dv 1) (by rfl))))))
        (dss_one (ds_ret de_bl))
        dss_nil)
      (dss_cons (ds_if (DW.dt (dw_and (dt_cmp (op_neA hr.units) l_ne (dv 3) de_str (nomark _)) (dw_and1 (dt_cmp (op_ninA hr.units (u65 hr)) l_nin (dv 3) (dv 1) (by rfl)))))
        (dss_one (ds_ret de_bl))
        dss_nil)
      (dss_one (ds_ret (de_and (de_cal C_is_between hgd hr (by decide) (by rfl) (passes_call (takes_of rfl rfl rfl rfl) fun _ _ _ _ h => h) (da_cons (dv 5) (da_cons de_int (da_cons (de_globI (by rfl) G_MAX_DURATION) da_nil)))) (de_and (de_cal C_is_between hgd hr (by decide) (by rfl) (passes_call (takes_of rfl rfl rfl rfl) fun _ _ _ _ h => h) (da_cons (dv 4) (da_cons de_int (da_cons (dv 5) da_nil)))) (de_one (de_cal C_is_delay hgd hr (by decide) (by rfl) (passes_call (takes_of rfl rfl rfl rfl) fun _ _ _ _ h => h) (da_cons (dv 6) da_nil))))))))))), ?_⟩
  rintro ds Dq ⟨x, es, rfl, ok, ho, hb, q⟩
  obtain ⟨e, b, l, m, d⟩ := x
  obtain ⟨e1, e2, e3, b1, m1, m2, l1, l2, d1⟩ := ok
  dsimp only at e1 e2 e3 b1 m1 m2 l1 l2 d1 hb
  rw [show startD ["value", "events", "end", "begin", "least", "most", "delay"] [Stp.D ⟨e, b, l, m, d⟩, .tup (es.map DL.D.str)] = [.dat (.tup [.str e, .str b, .int l, .int m, delD d]), .dat (.tup (es.map DL.D.str)), .un, .un, .un, .un, .un] from rfl]
  have sc := str_cmp (x := start) (by decide +kernel)
  have bc := str_cmp hb
  have ec := str_cmp (name_ok e1)
  have esc := strs_cmp ho
  dsimp only [DL.dAnd, DL.dAndV, DL.dAny, DL.dAppend, DL.dAsg, DL.dB, DL.dBreak, DL.dC, DL.dCall, DL.dChain, DL.dCons, DL.dConsA, DL.dCont, DL.dDrop, DL.dEnumL, DL.dEnumT, DL.dFld, DL.dFldO, DL.dFldSet, DL.dFmt, DL.dFn, DL.dFor, DL.dFresh, DL.dGet1, DL.dGet2, DL.dIfE, DL.dIfS, DL.dInK, DL.dIsi, DL.dIsiO, DL.dJoin, DL.dKeys, DL.dLenSc, DL.dLenSet, DL.dLenSk, DL.dLock, DL.dLockS, DL.dMth, DL.dNeg, DL.dNever, DL.dNext, DL.dNil, DL.dNilA, DL.dNone, DL.dNot, DL.dNotV, DL.dOp, DL.dOr, DL.dOrV, DL.dPar, DL.dPut, DL.dRet, DL.dRetN, DL.dRng1, DL.dRng2, DL.dSeq, DL.dSet, DL.dSetO, DL.dSl, DL.dSome, DL.dTruth, DL.dTup, DL.dVar, DL.dView, DL.dViewT, DL.dYes, DL.dZip, DL.fDc, DL.fDictP, DL.fDictPT, DL.fDisp, DL.fLc, DL.fListT, DL.fLock, DL.fLst, DL.fMake, DL.fMakeK, DL.fMakeL, DL.fNew, DL.gAdd, DL.gBools, DL.gCmp, DL.gConsD, DL.gDin, DL.gEq, DL.gEqO, DL.gGe, DL.gGet, DL.gGt, DL.gI, DL.gIb, DL.gIc, DL.gIn, DL.gInO, DL.gInt, DL.gIsN, DL.gIx, DL.gLe, DL.gLen, DL.gLenO, DL.gLt, DL.gNameD, DL.gNe, DL.gNilD, DL.gNotN, DL.gRepr, DL.gSl, DL.gSorted, DL.gStrI, DL.gStrO, DL.gStrS, DL.gSum, DL.gTupD, DL.gTuple, DL.jCons, DL.jNil, DL.pCons, DL.pNil, startD, isiB, List.map_cons, List.map_nil, List.cons_append, List.nil_append, List.length_cons, List.length_nil, List.set_cons_zero, List.set_cons_succ, List.getElem?_cons_zero, List.getElem?_cons_succ, List.replicate]
  refine ifn (by decide) (And.intro (int_cmp _) (And.intro (int_cmp _) (ifn (by rw [eq_int]; decide) ⟨rfl, e, rfl, e1, ?_⟩)))
  refine ifn (by decide) (And.intro ec (And.intro sc (ifn (by rw [eq_str, decide_eq_false e2]; decide) ⟨ec, esc, ?_⟩)))
  refine ifn (by rw [if_neg (by decide), in_strs, decide_eq_false e3]; decide) ⟨bc, sc, ?_⟩
  by_cases hbs : b = start
  · exact ifn (by rw [eq_str, decide_eq_true hbs]; decide) ⟨.int m, 1, 99, rfl, ifp (btw_in m1 m2) ⟨.int l, 1, m, rfl, ifp (btw_in l1 l2) ⟨d, rfl, d1, q⟩⟩⟩
  · exact ifp (by rw [eq_str, decide_eq_false hbs]; rfl) ⟨bc, esc, ifn (by rw [if_pos rfl, in_strs, decide_eq_true (b1.resolve_left hbs)]; decide) ⟨.int m, 1, 99, rfl, ifp (btw_in m1 m2) ⟨.int l, 1, m, rfl, ifp (btw_in l1 l2) ⟨d, rfl, d1, q⟩⟩⟩⟩
theorem sc_are_steps : FnScope ["value", "events", "step"] ["value", "events"] (defScope (top 18)) := ⟨rfl, rfl, rfl, by decide +kernel, rfl, by decide +kernel, by decide +kernel⟩
theorem ok_are_steps (T : Bl mg) (C__is_step : Cal P w K mg base "_is_step" 4 ["value", "events"] (fun ds Q _ => ∃ (x : Stp) (es : List Str), ds = [x.D, .tup (es.map DL.D.str)] ∧ okStp es x ∧ (∀ e ∈ es, PyData.strOk e = true) ∧ PyData.strOk x.b = true ∧ Q (.bl true))) (F : Dfn K mg "are_steps" "are_steps" (top 18) ["value", "events"]) :
    Cal P w K mg base "are_steps" 5 ["value", "events"] (fun ds Q _ => ∃ (xs : List Stp) (es : List Str), ds = [.tup (xs.map Stp.D), .tup (es.map DL.D.str)] ∧ (∀ x ∈ xs, okStp es x ∧ PyData.strOk x.b = true) ∧ (∀ e ∈ es, PyData.strOk e = true) ∧ (xs.map Stp.e).Nodup ∧ xs.length < scanBound ∧ Q (.bl true)) := by
  refine okC F sc_are_steps (by decide) (by rintro ds Q De ⟨x, es, rfl, _⟩; rfl) fun f cdv A outer s H E De hgd hr => ⟨_, (dss_cons (ds_if (DW.dt (dw_or (dt_not (dt_val (de_isi "tuple" (by rfl) T.«isinstance» (by rfl) T.«tuple» (by decide +kernel) (dv 0)))) (dw_or1 (dt_not (dt_val (de_callB (call_all rfl) l_all (by rfl) T.«all» (by decide +kernel) (da_cons (de_fresh (df_lc (own := [("step", 2)]) (by rfl) sc_are_steps.nd (di_any (dv 0)) (blkOk_by (own := [("step", 2)]) (N := ["value", "events", "step"]) (sc := defScope (top 18)) (by decide +kernel)) (fun _ _ _ _ _ => (dg_name (i := 2) sc_are_steps.nd rfl (.inl rfl))) (fun _ _ _ _ _ => dts_nil) (fun _ _ _ _ _ => (de_cal C__is_step hgd hr (by decide) (by rfl) (passN fun _ _ _ h => h) (da_cons (dv 2) (da_cons (dv 1) da_nil)))) (by decide))) da_nil)))))))
        (dss_one (ds_ret de_bl))
        dss_nil)
      (dss_one (ds_ret (de_cmp (op_eqA hr.units) l_eq (de_lenSc (own := [("step", 2)]) (hu1 hr) (by rfl) sc_are_steps.nd (by rfl) T.«len» (di_any (dv 0)) (blkOk_by (own := [("step", 2)]) (N := ["value", "events", "step"]) (sc := defScope (top 18)) (by decide +kernel)) (fun _ _ _ _ _ => (dg_name (i := 2) sc_are_steps.nd rfl (.inl rfl))) (fun _ _ _ _ _ => dts_nil) (fun _ _ _ _ _ => (de_ix (dv 2) de_int (fun _ _ => rfl))) (by decide)) (de_callB (call_lenA) l_len (by rfl) T.«len» (by decide +kernel) (da_cons (dv 0) da_nil)) (nomark _))))), ?_⟩
  rintro ds Dq ⟨xs, es, rfl, ok, ho, nd, few, q⟩
  rw [show startD ["value", "events", "step"] [.tup (xs.map Stp.D), .tup (es.map DL.D.str)] = [.dat (.tup (xs.map Stp.D)), .dat (.tup (es.map DL.D.str)), .un] from rfl]
  dsimp only [DL.dAnd, DL.dAndV, DL.dAny, DL.dAppend, DL.dAsg, DL.dB, DL.dBreak, DL.dC, DL.dCall, DL.dChain, DL.dCons, DL.dConsA, DL.dCont, DL.dDrop, DL.dEnumL, DL.dEnumT, DL.dFld, DL.dFldO, DL.dFldSet, DL.dFmt, DL.dFn, DL.dFor, DL.dFresh, DL.dGet1, DL.dGet2, DL.dIfE, DL.dIfS, DL.dInK, DL.dIsi, DL.dIsiO, DL.dJoin, DL.dKeys, DL.dLenSc, DL.dLenSet, DL.dLenSk, DL.dLock, DL.dLockS, DL.dMth, DL.dNeg, DL.dNever, DL.dNext, DL.dNil, DL.dNilA, DL.dNone, DL.dNot, DL.dNotV, DL.dOp, DL.dOr, DL.dOrV, DL.dPar, DL.dPut, DL.dRet, DL.dRetN, DL.dRng1, DL.dRng2, DL.dSeq, DL.dSet, DL.dSetO, DL.dSl, DL.dSome, DL.dTruth, DL.dTup, DL.dVar, DL.dView, DL.dViewT, DL.dYes, DL.dZip, DL.fDc, DL.fDictP, DL.fDictPT, DL.fDisp, DL.fLc, DL.fListT, DL.fLock, DL.fLst, DL.fMake, DL.fMakeK, DL.fMakeL, DL.fNew, DL.gAdd, DL.gBools, DL.gCmp, DL.gConsD, DL.gDin, DL.gEq, DL.gEqO, DL.gGe, DL.gGet, DL.gGt, DL.gI, DL.gIb, DL.gIc, DL.gIn, DL.gInO, DL.gInt, DL.gIsN, DL.gIx, DL.gLe, DL.gLen, DL.gLenO, DL.gLt, DL.gNameD, DL.gNe, DL.gNilD, DL.gNotN, DL.gRepr, DL.gSl, DL.gSorted, DL.gStrI, DL.gStrO, DL.gStrS, DL.gSum, DL.gTupD, DL.gTuple, DL.jCons, DL.jNil, DL.pCons, DL.pNil, startD, isiB, List.map_cons, List.map_nil, List.cons_append, List.nil_append, List.length_cons, List.length_nil, List.set_cons_zero, List.set_cons_succ, List.getElem?_cons_zero, List.getElem?_cons_succ, List.replicate]
  refine ifn (by decide) (lc_map (F := fun _ => .bl true) _ _ (fun d m R r => ?_) ⟨_, bools_true _, ifn (by rw [all_true]; decide) ?_⟩)
  · obtain ⟨x, mx, rfl⟩ := List.mem_map.mp m
    exact ⟨x, es, rfl, (ok x mx).1, ho, (ok x mx).2, r⟩
  · refine sc_map (F := fun d => match d with | .tup (.str s :: _) => s | _ => start) _ [] (fun d m R r => ?_) (by rw [List.length_map]; simpa using few) ?_
    · obtain ⟨x, mx, rfl⟩ := List.mem_map.mp m
      obtain ⟨e, b, l, m, dd⟩ := x
      exact r
    · have hm : (xs.map Stp.D).map (fun d => match d with | .tup (.str s :: _) => s | _ => start) = xs.map Stp.e := by
        rw [List.map_map]
        exact List.map_congr_left fun x _ => by cases x; rfl
      rw [hm]
      refine ⟨int_cmp _, int_cmp _, ?_⟩
      rw [eq_int, insAll_len_nodup _ [] (by rw [List.append_nil]; exact nd), List.length_map, List.length_map]
      rw [decide_eq_true (by simp)]
      exact q
end
end K05

set_option Elab.async false
set_option linter.all false
set_option maxRecDepth 100000
set_option maxHeartbeats 2000000
namespace K05
open PySem PySem.Spec PyProof.Rows L2 LW RZ DL
section
variable {P : Program} {w : World} {K : PySem.W.Frag} {mg : Str → Option Value} {base : Heap} {tk : Tok}
/-- a bound -/
structure Bnd where
  a : Str
  b : Str
  m : Int
def Bnd.D (x : Bnd) : D := .tup [.str x.a, .str x.b, .int x.m]
structure okBnd (ps : List Str) (x : Bnd) : Prop where
  a1 : x.a ∈ ps
  b1 : x.b ∈ ps
  ab : x.a ≠ x.b
  m1 : -999 ≤ x.m
  m2 : x.m ≤ 999
def Bnd.k (x : Bnd) : List Key := [.inr x.a, .inr x.b]
theorem sc__is_bound : FnScope ["value", "points", "first", "second", "most"] ["value", "points"] (defScope (top 22)) := ⟨rfl, rfl, rfl, by decide +kernel, rfl, by decide +kernel, by decide +kernel⟩
theorem ok_is_bound (T : Bl mg) (C_is_between : Cal P w K mg base "is_between" 2 ["value", "least", "most"] gBtw) (G_MAX_BOUND : mg "MAX_BOUND" = some (.int 999 tk)) (F : Dfn K mg "_is_bound" "_is_bound" (top 22) ["value", "points"]) :
    Cal P w K mg base "_is_bound" 3 ["value", "points"] (fun ds Q _ => ∃ (x : Bnd) (ps : List Str), ds = [x.D, .tup (ps.map DL.D.str)] ∧ okBnd ps x ∧ (∀ e ∈ ps, PyData.strOk e = true) ∧ Q (.bl true)) := by
  refine okC F sc__is_bound (by decide) (by rintro ds Q De ⟨x, es, rfl, _⟩; rfl) fun f cdv A outer s H E De hgd hr => ⟨_, (dss_cons (ds_if (DW.dt (dw_or (dt_not (dt_val (de_isi "tuple" (by rfl) T.«isinstance» (by rfl) T.«tuple» (by decide +kernel) (dv 0)))) (dw_or1 (dt_cmp (op_neA hr.units) l_ne (de_callB (call_lenA) l_len (by rfl) T.«len» (by decide +kernel) (da_cons (dv 0) da_nil)) de_int (nomark _)))))
        (dss_one (ds_ret de_bl))
        dss_nil)
      (dss_cons (ds_asg (dv 0) (dg_tup (n := 3) rfl (dgs_cons (dg_name (i := 2) sc__is_bound.nd rfl (.inl rfl)) (dgs_cons (dg_name (i := 3) sc__is_bound.nd rfl (.inl rfl)) (dgs_cons (dg_name (i := 4) sc__is_bound.nd rfl (.inl rfl)) dgs_nil)))))
      (dss_cons (ds_if (DW.dt (dw_or (dt_cmp (op_ninA hr.units (u65 hr)) l_nin (dv 2) (dv 1) (by rfl)) (dw_or (dt_cmp (op_ninA hr.units (u65 hr)) l_nin (dv 3) (dv 1) (by rfl)) (dw_or1 (dt_cmp (op_eqA hr.units) l_eq (dv 2) (dv 3) (nomark _))))))
        (dss_one (ds_ret de_bl))
        dss_nil)
      (dss_one (ds_ret (de_cal C_is_between hgd hr (by decide) (by rfl) (passes_call (takes_of rfl rfl rfl rfl) fun _ _ _ _ h => h) (da_cons (dv 4) (da_cons (de_neg (de_globI (by rfl) G_MAX_BOUND)) (da_cons (de_globI (by rfl) G_MAX_BOUND) da_nil))))))))), ?_⟩
  rintro ds Dq ⟨x, ps, rfl, ok, ho, q⟩
  obtain ⟨a, b, m⟩ := x
  obtain ⟨a1, b1, ab, m1, m2⟩ := ok
  dsimp only at a1 b1 ab m1 m2
  rw [show startD ["value", "points", "first", "second", "most"] [Bnd.D ⟨a, b, m⟩, .tup (ps.map DL.D.str)] = [.dat (.tup [.str a, .str b, .int m]), .dat (.tup (ps.map DL.D.str)), .un, .un, .un] from rfl]
  have ac := str_cmp (ho a a1)
  have bc := str_cmp (ho b b1)
  have pc := strs_cmp ho
  dsimp only [DL.dAnd, DL.dAndV, DL.dAny, DL.dAppend, DL.dAsg, DL.dB, DL.dBreak, DL.dC, DL.dCall, DL.dChain, DL.dCons, DL.dConsA, DL.dCont, DL.dDrop, DL.dEnumL, DL.dEnumT, DL.dFld, DL.dFldO, DL.dFldSet, DL.dFmt, DL.dFn, DL.dFor, DL.dFresh, DL.dGet1, DL.dGet2, DL.dIfE, DL.dIfS, DL.dInK, DL.dIsi, DL.dIsiO, DL.dJoin, DL.dKeys, DL.dLenSc, DL.dLenSet, DL.dLenSk, DL.dLock, DL.dLockS, DL.dMth, DL.dNeg, DL.dNever, DL.dNext, DL.dNil, DL.dNilA, DL.dNone, DL.dNot, DL.dNotV, DL.dOp, DL.dOr, DL.dOrV, DL.dPar, DL.dPut, DL.dRet, DL.dRetN, DL.dRng1, DL.dRng2, DL.dSeq, DL.dSet, DL.dSetO, DL.dSl, DL.dSome, DL.dTruth, DL.dTup, DL.dVar, DL.dView, DL.dViewT, DL.dYes, DL.dZip, DL.fDc, DL.fDictP, DL.fDictPT, DL.fDisp, DL.fLc, DL.fListT, DL.fLock, DL.fLst, DL.fMake, DL.fMakeK, DL.fMakeL, DL.fNew, DL.gAdd, DL.gBools, DL.gCmp, DL.gConsD, DL.gDin, DL.gEq, DL.gEqO, DL.gGe, DL.gGet, DL.gGt, DL.gI, DL.gIb, DL.gIc, DL.gIn, DL.gInO, DL.gInt, DL.gIsN, DL.gIx, DL.gLe, DL.gLen, DL.gLenO, DL.gLt, DL.gNameD, DL.gNe, DL.gNilD, DL.gNotN, DL.gRepr, DL.gSl, DL.gSorted, DL.gStrI, DL.gStrO, DL.gStrS, DL.gSum, DL.gTupD, DL.gTuple, DL.jCons, DL.jNil, DL.pCons, DL.pNil, startD, isiB, List.map_cons, List.map_nil, List.cons_append, List.nil_append, List.length_cons, List.length_nil, List.set_cons_zero, List.set_cons_succ, List.getElem?_cons_zero, List.getElem?_cons_succ, List.replicate]
  refine ifn (by decide) ⟨int_cmp _, int_cmp _, ifn (by rw [eq_int]; decide) ⟨rfl, ac, pc, ifn (by rw [if_pos rfl, in_strs, decide_eq_true a1]; decide) ⟨bc, pc, ifn (by rw [if_pos rfl, in_strs, decide_eq_true b1]; decide) ⟨ac, bc, ifn (by rw [eq_str, decide_eq_false ab]; decide) ⟨.int m, -999, 999, rfl, ?_⟩⟩⟩⟩⟩
  rw [btw_in m1 m2]
  exact q
theorem sc_are_bounds : FnScope ["value", "points", "bound"] ["value", "points"] (defScope (top 19)) := ⟨rfl, rfl, rfl, by decide +kernel, rfl, by decide +kernel, by decide +kernel⟩
theorem ok_are_bounds (T : Bl mg) (C__is_bound : Cal P w K mg base "_is_bound" 3 ["value", "points"] (fun ds Q _ => ∃ (x : Bnd) (ps : List Str), ds = [x.D, .tup (ps.map DL.D.str)] ∧ okBnd ps x ∧ (∀ e ∈ ps, PyData.strOk e = true) ∧ Q (.bl true))) (F : Dfn K mg "are_bounds" "are_bounds" (top 19) ["value", "points"]) :
    Cal P w K mg base "are_bounds" 4 ["value", "points"] (fun ds Q _ => ∃ (xs : List Bnd) (ps : List Str), ds = [.tup (xs.map Bnd.D), .tup (ps.map DL.D.str)] ∧ (∀ x ∈ xs, okBnd ps x) ∧ (∀ e ∈ ps, PyData.strOk e = true) ∧ (xs.map Bnd.k).Nodup ∧ xs.length < 64 ∧ Q (.bl true)) := by
  refine okC F sc_are_bounds (by decide) (by rintro ds Q De ⟨x, es, rfl, _⟩; rfl) fun f cdv A outer s H E De hgd hr => ⟨_, (dss_cons (ds_if (DW.dt (dw_or (dt_not (dt_val (de_isi "tuple" (by rfl) T.«isinstance» (by rfl) T.«tuple» (by decide +kernel) (dv 0)))) (dw_or1 (dt_not (dt_val (de_callB (call_all rfl) l_all (by rfl) T.«all» (by decide +kernel) (da_cons (de_fresh (df_lc (own := [("bound", 2)]) (by rfl) sc_are_bounds.nd (di_any (dv 0)) (blkOk_by (own := [("bound", 2)]) (N := ["value", "points", "bound"]) (sc := defScope (top 19)) (by decide +kernel)) (fun _ _ _ _ _ => (dg_name (i := 2) sc_are_bounds.nd rfl (.inl rfl))) (fun _ _ _ _ _ => dts_nil) (fun _ _ _ _ _ => (de_cal C__is_bound hgd hr (by decide) (by rfl) (passN fun _ _ _ h => h) (da_cons (dv 2) (da_cons (dv 1) da_nil)))) (by decide))) da_nil)))))))
        (dss_one (ds_ret de_bl))
        dss_nil)
      (dss_one (ds_ret (de_cmp (op_eqA hr.units) l_eq (de_lenSk (own := [("bound", 2)]) (hu1 hr) (by rfl) sc_are_bounds.nd (by rfl) T.«len» (di_any (dv 0)) (blkOk_by (own := [("bound", 2)]) (N := ["value", "points", "bound"]) (sc := defScope (top 19)) (by decide +kernel)) (fun _ _ _ _ _ => (dg_name (i := 2) sc_are_bounds.nd rfl (.inl rfl))) (fun _ _ _ _ _ => dts_nil) (fun _ _ _ _ _ => (de_sl (dv 2) do_none (do_some de_int))) (by decide)) (de_callB (call_lenA) l_len (by rfl) T.«len» (by decide +kernel) (da_cons (dv 0) da_nil)) (nomark _))))), ?_⟩
  rintro ds Dq ⟨xs, ps, rfl, ok, ho, nd, few, q⟩
  rw [show startD ["value", "points", "bound"] [.tup (xs.map Bnd.D), .tup (ps.map DL.D.str)] = [.dat (.tup (xs.map Bnd.D)), .dat (.tup (ps.map DL.D.str)), .un] from rfl]
  dsimp only [DL.dAnd, DL.dAndV, DL.dAny, DL.dAppend, DL.dAsg, DL.dB, DL.dBreak, DL.dC, DL.dCall, DL.dChain, DL.dCons, DL.dConsA, DL.dCont, DL.dDrop, DL.dEnumL, DL.dEnumT, DL.dFld, DL.dFldO, DL.dFldSet, DL.dFmt, DL.dFn, DL.dFor, DL.dFresh, DL.dGet1, DL.dGet2, DL.dIfE, DL.dIfS, DL.dInK, DL.dIsi, DL.dIsiO, DL.dJoin, DL.dKeys, DL.dLenSc, DL.dLenSet, DL.dLenSk, DL.dLock, DL.dLockS, DL.dMth, DL.dNeg, DL.dNever, DL.dNext, DL.dNil, DL.dNilA, DL.dNone, DL.dNot, DL.dNotV, DL.dOp, DL.dOr, DL.dOrV, DL.dPar, DL.dPut, DL.dRet, DL.dRetN, DL.dRng1, DL.dRng2, DL.dSeq, DL.dSet, DL.dSetO, DL.dSl, DL.dSome, DL.dTruth, DL.dTup, DL.dVar, DL.dView, DL.dViewT, DL.dYes, DL.dZip, DL.fDc, DL.fDictP, DL.fDictPT, DL.fDisp, DL.fLc, DL.fListT, DL.fLock, DL.fLst, DL.fMake, DL.fMakeK, DL.fMakeL, DL.fNew, DL.gAdd, DL.gBools, DL.gCmp, DL.gConsD, DL.gDin, DL.gEq, DL.gEqO, DL.gGe, DL.gGet, DL.gGt, DL.gI, DL.gIb, DL.gIc, DL.gIn, DL.gInO, DL.gInt, DL.gIsN, DL.gIx, DL.gLe, DL.gLen, DL.gLenO, DL.gLt, DL.gNameD, DL.gNe, DL.gNilD, DL.gNotN, DL.gRepr, DL.gSl, DL.gSorted, DL.gStrI, DL.gStrO, DL.gStrS, DL.gSum, DL.gTupD, DL.gTuple, DL.jCons, DL.jNil, DL.pCons, DL.pNil, startD, isiB, List.map_cons, List.map_nil, List.cons_append, List.nil_append, List.length_cons, List.length_nil, List.set_cons_zero, List.set_cons_succ, List.getElem?_cons_zero, List.getElem?_cons_succ, List.replicate]
  refine ifn (by decide) (lc_map (F := fun _ => .bl true) _ _ (fun d m R r => ?_) ⟨_, bools_true _, ifn (by rw [all_true]; decide) ?_⟩)
  · obtain ⟨x, mx, rfl⟩ := List.mem_map.mp m
    exact ⟨x, ps, rfl, ok x mx, ho, r⟩
  · refine sk_map (F := fun d => match d with | .tup [.str a, .str b, _] => [.inr a, .inr b] | _ => []) _ [] (fun d m => ?_) (by rw [List.length_map]; simpa using few) ?_
    · obtain ⟨x, mx, rfl⟩ := List.mem_map.mp m
      obtain ⟨a, b, m⟩ := x
      refine ⟨(by intro h; cases h), fun R r => ?_⟩
      exact r
    · have hm : (xs.map Bnd.D).map (fun d => match d with | .tup [.str a, .str b, _] => [.inr a, .inr b] | _ => []) = xs.map Bnd.k := by
        rw [List.map_map]
        exact List.map_congr_left fun x _ => by cases x; rfl
      rw [hm]
      refine ⟨int_cmp _, int_cmp _, ?_⟩
      rw [eq_int, insAll_len_nodup _ [] (by rw [List.append_nil]; exact nd), List.length_map, List.length_map]
      rw [decide_eq_true (by simp)]
      exact q
end
end K05

set_option Elab.async false
set_option linter.all false
set_option maxRecDepth 100000
set_option maxHeartbeats 2000000
namespace K05
open PySem PySem.Spec PyProof.Rows L2 LW RZ DL
section
variable {P : Program} {w : World} {K : PySem.W.Frag} {mg : Str → Option Value} {base : Heap} {tk tk2 : Tok}
def points (es : List Str) (xs : List Stp) : List Str := start :: (es ++ xs.map Stp.e)
/-- parts that are right -/
structure okParts (es : List Str) (xs : List Stp) (bs : List Bnd) : Prop where
  n : ∀ e ∈ es, okName e
  s : start ∉ es
  nd : es.Nodup
  x : ∀ x ∈ xs, okStp es x
  xd : (xs.map Stp.e).Nodup
  b : ∀ b ∈ bs, okBnd (points es xs) b
  bd : (bs.map Bnd.k).Nodup
  el : es.length ≤ 10
  xl : xs.length ≤ 5
  bl : bs.length < 64
theorem okParts.begins {es : List Str} {xs : List Stp} {bs : List Bnd} (h : okParts es xs bs) : ∀ x ∈ xs, PyData.strOk x.b = true := fun x m => by
  rcases (h.x x m).b1 with e | e
  · rw [e]; decide +kernel
  · exact name_ok (h.n _ e)
theorem okParts.pts {es : List Str} {xs : List Stp} {bs : List Bnd} (h : okParts es xs bs) : ∀ p ∈ points es xs, PyData.strOk p = true := fun p m => by
  rcases List.mem_cons.mp m with rfl | m
  · decide +kernel
  · rcases List.mem_append.mp m with m | m
    · exact name_ok (h.n _ m)
    · obtain ⟨x, mx, rfl⟩ := List.mem_map.mp m
      exact name_ok (h.x x mx).e1
abbrev gParts : SpD := fun ds Q _ => ∃ es xs bs, ds = [.tup (es.map DL.D.str), .tup (xs.map Stp.D), .tup (bs.map Bnd.D)] ∧ okParts es xs bs ∧ Q .non
abbrev gEvents : SpD := fun ds Q _ => ∃ es : List Str, ds = [.tup (es.map D.str)] ∧ (∀ e ∈ es, okName e) ∧ (PySem.Str.ofString "start") ∉ es ∧ es.Nodup ∧ es.length + 1 < scanBound ∧ Q (.bl true)
abbrev gSteps : SpD := fun ds Q _ => ∃ (xs : List Stp) (es : List Str), ds = [.tup (xs.map Stp.D), .tup (es.map DL.D.str)] ∧ (∀ x ∈ xs, okStp es x ∧ PyData.strOk x.b = true) ∧ (∀ e ∈ es, PyData.strOk e = true) ∧ (xs.map Stp.e).Nodup ∧ xs.length < scanBound ∧ Q (.bl true)
abbrev gBounds : SpD := fun ds Q _ => ∃ (xs : List Bnd) (ps : List Str), ds = [.tup (xs.map Bnd.D), .tup (ps.map DL.D.str)] ∧ (∀ x ∈ xs, okBnd ps x) ∧ (∀ e ∈ ps, PyData.strOk e = true) ∧ (xs.map Bnd.k).Nodup ∧ xs.length < 64 ∧ Q (.bl true)
theorem sc__check_parts : FnScope ["events", "steps", "bounds", "points", "step"] ["events", "steps", "bounds"] (defScope (top 30)) := ⟨rfl, rfl, rfl, by decide +kernel, rfl, by decide +kernel, by decide +kernel⟩
theorem ok_check_parts (T : Bl mg) (C_are_bounds : Cal P w K mg base "are_bounds" 4 ["value", "points"] gBounds) (C_are_events : Cal P w K mg base "are_events" 2 ["value"] gEvents) (C_are_steps : Cal P w K mg base "are_steps" 5 ["value", "events"] gSteps) (G_MAX_EVENTS : mg "MAX_EVENTS" = some (.int 10 tk)) (G_MAX_STEPS : mg "MAX_STEPS" = some (.int 5 tk2)) (F : Dfn K mg "_check_parts" "_check_parts" (top 30) ["events", "steps", "bounds"]) :
    Cal P w K mg base "_check_parts" 6 ["events", "steps", "bounds"] gParts := by
  refine okC F sc__check_parts (by decide) (by rintro ds Q De ⟨es, xs, bs, rfl, _⟩; rfl) fun f cdv A outer s H E De hgd hr => ⟨_, (dss_cons (ds_if (dt_not (dt_val (de_cal C_are_events hgd hr (by decide) (by rfl) (passes_call (takes_of rfl rfl rfl rfl) fun _ _ _ _ h => h) (da_cons (dv 0) da_nil))))
        (dss_one ds_never)
        dss_nil)
      (dss_cons (ds_if (dt_not (dt_val (de_cal C_are_steps hgd hr (by decide) (by rfl) (passes_call (takes_of rfl rfl rfl rfl) fun _ _ _ _ h => h) (da_cons (dv 1) (da_cons (dv 0) da_nil)))))
        (dss_one ds_never)
        dss_nil)
      (dss_cons (ds_set (i := 3) sc__check_parts.nd rfl (.inl rfl) (de_op (op_addA) l_add (de_op (op_addA) l_add (de_tup (da_cons de_str da_nil)) (dv 0)) (de_callTy (call_tupleA) l_tuple (by rfl) T.«tuple» (by decide +kernel) (da_cons (de_fresh (df_lc (own := [("step", 4)]) (by rfl) sc__check_parts.nd (di_any (dv 1)) (blkOk_by (own := [("step", 4)]) (N := ["events", "steps", "bounds", "points", "step"]) (sc := defScope (top 30)) (by decide +kernel)) (fun _ _ _ _ _ => (dg_name (i := 4) sc__check_parts.nd rfl (.inl rfl))) (fun _ _ _ _ _ => dts_nil) (fun _ _ _ _ _ => (de_ix (dv 4) de_int (fun _ _ => rfl))) (by decide))) da_nil))))
      (dss_cons (ds_if (dt_not (dt_val (de_cal C_are_bounds hgd hr (by decide) (by rfl) (passes_call (takes_of rfl rfl rfl rfl) fun _ _ _ _ h => h) (da_cons (dv 2) (da_cons (dv 3) da_nil)))))
        (dss_one ds_never)
        dss_nil)
      (dss_cons (ds_if (dt_cmp op_gtA l_gt (de_callB (call_lenA) l_len (by rfl) T.«len» (by decide +kernel) (da_cons (dv 0) da_nil)) (de_globI (by rfl) G_MAX_EVENTS) (nomark _))
        (dss_one ds_never)
        dss_nil)
      (dss_one (ds_if (dt_cmp op_gtA l_gt (de_callB (call_lenA) l_len (by rfl) T.«len» (by decide +kernel) (da_cons (dv 1) da_nil)) (de_globI (by rfl) G_MAX_STEPS) (nomark _))
        (dss_one ds_never)
        dss_nil))))))), ?_⟩
  rintro ds Dq ⟨es, xs, bs, rfl, ok, q⟩
  rw [show startD ["events", "steps", "bounds", "points", "step"] [.tup (es.map DL.D.str), .tup (xs.map Stp.D), .tup (bs.map Bnd.D)] = [.dat (.tup (es.map DL.D.str)), .dat (.tup (xs.map Stp.D)), .dat (.tup (bs.map Bnd.D)), .un, .un] from rfl]
  dsimp only [DL.dAnd, DL.dAndV, DL.dAny, DL.dAppend, DL.dAsg, DL.dB, DL.dBreak, DL.dC, DL.dCall, DL.dChain, DL.dCons, DL.dConsA, DL.dCont, DL.dDrop, DL.dEnumL, DL.dEnumT, DL.dFld, DL.dFldO, DL.dFldSet, DL.dFmt, DL.dFn, DL.dFor, DL.dFresh, DL.dGet1, DL.dGet2, DL.dIfE, DL.dIfS, DL.dInK, DL.dIsi, DL.dIsiO, DL.dJoin, DL.dKeys, DL.dLenSc, DL.dLenSet, DL.dLenSk, DL.dLock, DL.dLockS, DL.dMth, DL.dNeg, DL.dNever, DL.dNext, DL.dNil, DL.dNilA, DL.dNone, DL.dNot, DL.dNotV, DL.dOp, DL.dOr, DL.dOrV, DL.dPar, DL.dPut, DL.dRet, DL.dRetN, DL.dRng1, DL.dRng2, DL.dSeq, DL.dSet, DL.dSetO, DL.dSl, DL.dSome, DL.dTruth, DL.dTup, DL.dVar, DL.dView, DL.dViewT, DL.dYes, DL.dZip, DL.fDc, DL.fDictP, DL.fDictPT, DL.fDisp, DL.fLc, DL.fListT, DL.fLock, DL.fLst, DL.fMake, DL.fMakeK, DL.fMakeL, DL.fNew, DL.gAdd, DL.gBools, DL.gCmp, DL.gConsD, DL.gDin, DL.gEq, DL.gEqO, DL.gGe, DL.gGet, DL.gGt, DL.gI, DL.gIb, DL.gIc, DL.gIn, DL.gInO, DL.gInt, DL.gIsN, DL.gIx, DL.gLe, DL.gLen, DL.gLenO, DL.gLt, DL.gNameD, DL.gNe, DL.gNilD, DL.gNotN, DL.gRepr, DL.gSl, DL.gSorted, DL.gStrI, DL.gStrO, DL.gStrS, DL.gSum, DL.gTupD, DL.gTuple, DL.jCons, DL.jNil, DL.pCons, DL.pNil, startD, isiB, List.map_cons, List.map_nil, List.cons_append, List.nil_append, List.length_cons, List.length_nil, List.set_cons_zero, List.set_cons_succ, List.getElem?_cons_zero, List.getElem?_cons_succ, List.replicate]
  have sB : (64 : Nat) ≤ scanBound := by decide
  have sL : (64 : Nat) ≤ sizeLine := by decide
  have el := ok.el
  have xl := ok.xl
  refine ⟨es, rfl, ok.n, ok.s, ok.nd, by omega, ifn (by decide) ?_⟩
  refine ⟨xs, es, rfl, fun x m => ⟨ok.x x m, ok.begins x m⟩, fun e m => name_ok (ok.n e m), ok.xd, by omega, ifn (by decide) ?_⟩
  refine ⟨by omega, by rw [List.length_map]; omega, lc_map (F := fun d => match d with | .tup (.str s :: _) => .str s | _ => .non) _ _ (fun d m R r => ?_) ?_⟩
  · obtain ⟨x, mx, rfl⟩ := List.mem_map.mp m
    obtain ⟨e, b, l, m, dd⟩ := x
    exact r
  · have hm : (xs.map Stp.D).map (fun d => match d with | .tup (.str s :: _) => D.str s | _ => .non) = (xs.map Stp.e).map DL.D.str := by
      rw [List.map_map, List.map_map]
      exact List.map_congr_left fun x _ => by cases x; rfl
    rw [hm, List.nil_append]
    refine ⟨by simp only [List.length_map]; omega, bs, points es xs, ?_, ok.b, ok.pts, ok.bd, ok.bl, ifn (by decide) (ifn ?_ (ifn ?_ q))⟩
    · rw [points, List.map_cons, List.map_append]
    · rw [List.length_map, decide_eq_true_eq]; omega
    · rw [List.length_map, decide_eq_true_eq]; omega
end
end K05

set_option Elab.async false
set_option linter.all false
set_option maxRecDepth 100000
set_option maxHeartbeats 2000000
/-! What `sorted` asks of the parts of a plan: which comparisons are decided. -/
namespace K05
open PySem PySem.Spec PyProof.Rows L2 LW RZ DL
open PySem.W (Decided TupDec decL alike)
theorem flat_strs : ∀ es : List Str, D.flatL (es.map DL.D.str) = true
  | [] => rfl
  | e :: es => by
    rw [List.map_cons, D.flatL, flat_strs es]
    rfl
theorem flat_del (d : Option Int) : (delD d).flat = true := by cases d <;> rfl
theorem flat_steps : ∀ xs : List Stp, D.flatL (xs.map Stp.D) = true
  | [] => rfl
  | x :: xs => by
    rw [List.map_cons, D.flatL, flat_steps xs]
    obtain ⟨e, b, l, m, d⟩ := x
    cases d <;> rfl
theorem flat_bounds : ∀ xs : List Bnd, D.flatL (xs.map Bnd.D) = true
  | [] => rfl
  | x :: xs => by
    rw [List.map_cons, D.flatL, flat_bounds xs]
    rfl
theorem dec_strs (es : List Str) : Decided ((es.map DL.D.str).map D.py) := by
  have h : ∀ d ∈ (es.map DL.D.str).map D.py, ∃ s : Str, d = .str s := fun d m => by
    rw [List.map_map] at m
    obtain ⟨s, _, rfl⟩ := List.mem_map.mp m
    exact ⟨s, rfl⟩
  refine ⟨fun d m => ?_, .inr ⟨fun d m d' m' => ?_, fun d m => ?_⟩⟩
  · obtain ⟨s, rfl⟩ := h d m
    rfl
  · obtain ⟨s, rfl⟩ := h d m
    obtain ⟨s', rfl⟩ := h d' m'
    rfl
  · obtain ⟨s, rfl⟩ := h d m
    exact ⟨(by intro z; cases z), fun xs z => by cases z⟩
def pyDel : Option Int → PyData
  | none => .none
  | some i => .int i
theorem step_py (x : Stp) : x.D.py = .tuple [.str x.e, .str x.b, .int x.l, .int x.m, pyDel x.d] := by
  obtain ⟨e, b, l, m, d⟩ := x
  cases d <;> rfl
theorem bound_py (x : Bnd) : x.D.py = .tuple [.str x.a, .str x.b, .int x.m] := rfl
theorem inj_of {α β : Type} {f : α → β} : ∀ {xs : List α}, (xs.map f).Nodup → ∀ x ∈ xs, ∀ y ∈ xs, f x = f y → x = y
  | [], _, x, m, _, _, _ => by cases m
  | z :: zs, h, x, mx, y, my, e => by
    obtain ⟨h1, h2⟩ := List.nodup_cons.mp h
    rcases List.mem_cons.mp mx with ex | mx' <;> rcases List.mem_cons.mp my with ey | my'
    · rw [ex, ey]
    · exact absurd (List.mem_map.mpr ⟨y, my', by rw [← e, ex]⟩) h1
    · exact absurd (List.mem_map.mpr ⟨x, mx', by rw [e, ey]⟩) h1
    · exact inj_of h2 x mx' y my' e
theorem eqv_str (x y : Str) : PyData.eqv (.str x) (.str y) = decide (x = y) := by
  exact Bool.beq_eq_decide_eq x y
theorem dec_steps {xs : List Stp} (nd : (xs.map Stp.e).Nodup) : Decided ((xs.map Stp.D).map D.py) := by
  have h : ∀ d ∈ (xs.map Stp.D).map D.py, ∃ x ∈ xs, d = .tuple [.str x.e, .str x.b, .int x.l, .int x.m, pyDel x.d] := fun d m => by
    rw [List.map_map] at m
    obtain ⟨x, mx, rfl⟩ := List.mem_map.mp m
    exact ⟨x, mx, step_py x⟩
  refine ⟨fun d m => ?_, .inl ⟨fun d m => ?_, fun x r y u m m' => ?_, fun u v m m' => ?_⟩⟩
  · obtain ⟨x, mx, rfl⟩ := h d m
    obtain ⟨e, b, l, m, d⟩ := x
    cases d <;> rfl
  · obtain ⟨x, mx, rfl⟩ := h d m
    exact ⟨_, _, rfl⟩
  · obtain ⟨x, mx, e⟩ := h _ m
    obtain ⟨y, my, e'⟩ := h _ m'
    cases e
    cases e'
    rfl
  · obtain ⟨x, mx, e⟩ := h _ m
    obtain ⟨y, my, e'⟩ := h _ m'
    cases e
    cases e'
    by_cases q : x.e = y.e
    · obtain rfl := inj_of nd x mx y my q
      obtain ⟨e, b, l, m, d⟩ := x
      cases d <;> simp [decL, alike, pyDel]
    · simp [decL, alike, eqv_str, q]
theorem dec_bounds {xs : List Bnd} (nd : (xs.map Bnd.k).Nodup) : Decided ((xs.map Bnd.D).map D.py) := by
  have h : ∀ d ∈ (xs.map Bnd.D).map D.py, ∃ x ∈ xs, d = .tuple [.str x.a, .str x.b, .int x.m] := fun d m => by
    rw [List.map_map] at m
    obtain ⟨x, mx, rfl⟩ := List.mem_map.mp m
    exact ⟨x, mx, bound_py x⟩
  refine ⟨fun d m => ?_, .inl ⟨fun d m => ?_, fun x r y u m m' => ?_, fun u v m m' => ?_⟩⟩
  · obtain ⟨x, mx, rfl⟩ := h d m
    rfl
  · obtain ⟨x, mx, rfl⟩ := h d m
    exact ⟨_, _, rfl⟩
  · obtain ⟨x, mx, e⟩ := h _ m
    obtain ⟨y, my, e'⟩ := h _ m'
    cases e
    cases e'
    rfl
  · obtain ⟨x, mx, e⟩ := h _ m
    obtain ⟨y, my, e'⟩ := h _ m'
    cases e
    cases e'
    by_cases q : x.a = y.a
    · by_cases q' : x.b = y.b
      · obtain rfl := inj_of nd x mx y my (by rw [Bnd.k, Bnd.k, q, q'])
        simp [decL, alike]
      · simp [decL, alike, eqv_str, q, q']
    · simp [decL, alike, eqv_str, q]
theorem dp_strs (es : List Str) : ∀ x ∈ es.map DL.D.str, x.py.depth ≤ 60 := fun x m => by
  obtain ⟨s, _, rfl⟩ := List.mem_map.mp m
  simp [D.py, PyData.depth, PyData.depthAll]
theorem dp_steps (xs : List Stp) : ∀ x ∈ xs.map Stp.D, x.py.depth ≤ 60 := fun x m => by
  obtain ⟨s, _, rfl⟩ := List.mem_map.mp m
  rw [step_py]
  obtain ⟨e, b, l, m, d⟩ := s
  cases d <;> simp [pyDel, PyData.depth, PyData.depthAll]
theorem dp_bounds (xs : List Bnd) : ∀ x ∈ xs.map Bnd.D, x.py.depth ≤ 60 := fun x m => by
  obtain ⟨s, _, rfl⟩ := List.mem_map.mp m
  rw [bound_py]
  simp [PyData.depth, PyData.depthAll]
end K05

set_option Elab.async false
set_option linter.all false
set_option maxRecDepth 100000
set_option maxHeartbeats 2000000
namespace K05
open PySem PySem.Spec PyProof.Rows L2 LW RZ DL
def mtop (i j : Nat) : Stmt := match top i with
  | .ClassDef _ _ _ b _ _ _ _ _ _ _ => b.getD j (.Pass ⟨0, 0, 0, 0⟩)
  | s => s
def sortE (es : List Str) : List Str := es.mergeSort fun a b => leD (.str a) (.str b)
def sortS (xs : List Stp) : List Stp := xs.mergeSort fun a b => leD a.D b.D
def sortB (xs : List Bnd) : List Bnd := xs.mergeSort fun a b => leD a.D b.D
theorem put_lt {f : Str} {v : D} : ∀ {fs : List (Str × D)} {n : Nat}, fs.length < n → (putFD f v fs).length < n + 1
  | [], n, h => Nat.succ_lt_succ h
  | (g, x) :: r, n, h => by
    rw [putFD]
    split
    · exact Nat.lt_succ_of_lt h
    · exact match n, h with
      | n + 1, h => Nat.succ_lt_succ (put_lt (Nat.lt_of_succ_lt_succ h))
theorem sort_strs (es : List Str) : sortD (es.map DL.D.str) = (sortE es).map DL.D.str := (List.map_mergeSort (f := DL.D.str) (s := leD) (l := es) (r := fun a b => leD (.str a) (.str b)) (fun a _ b _ => rfl)).symm
theorem sort_steps (xs : List Stp) : sortD (xs.map Stp.D) = (sortS xs).map Stp.D := (List.map_mergeSort (f := Stp.D) (s := leD) (l := xs) (r := fun (a b : Stp) => leD a.D b.D) (fun a _ b _ => rfl)).symm
theorem sort_bounds (xs : List Bnd) : sortD (xs.map Bnd.D) = (sortB xs).map Bnd.D := (List.map_mergeSort (f := Bnd.D) (s := leD) (l := xs) (r := fun (a b : Bnd) => leD a.D b.D) (fun a _ b _ => rfl)).symm
theorem putD_new {es : List (D × D)} {y z : D} (h : ∀ p ∈ es, keyEq p.1 y = false) : putD es y z = es ++ [(y, z)] := by
  unfold putD
  rw [if_neg]
  rw [List.any_eq_true]
  rintro ⟨p, m, e⟩
  rw [h p m] at e
  cases e
theorem merge_nodup : ∀ (l acc : List (D × D)), (∀ p ∈ acc, ∀ q ∈ l, keyEq p.1 q.1 = false) → l.Pairwise (fun p q => keyEq p.1 q.1 = false) → mergeD acc l = acc ++ l
  | [], acc, _, _ => (List.append_nil _).symm
  | q :: l, acc, h, pw => by
    show mergeD (putD acc q.1 q.2) l = _
    obtain ⟨p1, p2⟩ := List.pairwise_cons.mp pw
    rw [putD_new fun p m => h p m q List.mem_cons_self, merge_nodup l (acc ++ [(q.1, q.2)]) (fun p m r mr => by
      rcases List.mem_append.mp m with m | m
      · exact h p m r (List.mem_cons_of_mem _ mr)
      · rw [List.mem_singleton.mp m]
        exact p1 r mr) p2, List.append_assoc]
    rfl
theorem sortS_perm (xs : List Stp) : (sortS xs).Perm xs := List.mergeSort_perm _ _
theorem sortB_perm (xs : List Bnd) : (sortB xs).Perm xs := List.mergeSort_perm _ _
theorem sortE_perm (xs : List Str) : (sortE xs).Perm xs := List.mergeSort_perm _ _
theorem merge_steps {xs : List Stp} (nd : (xs.map Stp.e).Nodup) : mergeD [] (((sortS xs).map Stp.D).map fun d => (match d with | .tup (.str s :: _) => D.str s | _ => .non, d)) = (sortS xs).map fun x => (D.str x.e, x.D) := by
  have e : (((sortS xs).map Stp.D).map fun d => (match d with | .tup (.str s :: _) => D.str s | _ => .non, d)) = (sortS xs).map fun x => (D.str x.e, x.D) := by
    rw [List.map_map]
    exact List.map_congr_left fun x _ => by cases x; rfl
  rw [e, merge_nodup _ [] (fun p m => by cases m), List.nil_append]
  rw [List.pairwise_map]
  have n : ((sortS xs).map Stp.e).Nodup := ((sortS_perm xs).map Stp.e).nodup_iff.mpr nd
  exact (List.pairwise_map.mp n).imp fun {a b} h => by
    show (a.e == b.e) = false
    rw [beq_eq_false_iff_ne]
    exact h
theorem merge_bounds {xs : List Bnd} (nd : (xs.map Bnd.k).Nodup) : mergeD [] (((sortB xs).map Bnd.D).map fun d => (match d with | .tup [a, b, _] => D.tup [a, b] | _ => .non, match d with | .tup [_, _, m] => m | _ => .non)) = (sortB xs).map fun x => (D.tup [.str x.a, .str x.b], D.int x.m) := by
  have e : (((sortB xs).map Bnd.D).map fun d => (match d with | .tup [a, b, _] => D.tup [a, b] | _ => .non, match d with | .tup [_, _, m] => m | _ => .non)) = (sortB xs).map fun x => (D.tup [.str x.a, .str x.b], D.int x.m) := by
    rw [List.map_map]
    exact List.map_congr_left fun x _ => by cases x; rfl
  rw [e, merge_nodup _ [] (fun p m => by cases m), List.nil_append]
  rw [List.pairwise_map]
  have n : ((sortB xs).map Bnd.k).Nodup := ((sortB_perm xs).map Bnd.k).nodup_iff.mpr nd
  exact (List.pairwise_map.mp n).imp fun {a b} h => by
    show (a.a == b.a && (a.b == b.b && true)) = false
    rw [Bool.and_eq_false_iff, Bool.and_eq_false_iff]
    by_cases q : a.a = b.a
    · by_cases q' : a.b = b.b
      · exact absurd (by rw [Bnd.k, Bnd.k, q, q']) h
      · exact .inr (.inl (beq_eq_false_iff_ne.mpr q'))
    · exact .inl (beq_eq_false_iff_ne.mpr q)
/-- a plan's fields -/
def planF (h : Int) (es : List Str) (xs : List Stp) (bs : List Bnd) : List (Str × D) :=
  [("_horizon", .int h), ("_events", .tup ((sortE es).map DL.D.str)), ("_steps", .tup ((sortS xs).map Stp.D)), ("_bounds", .tup ((sortB bs).map Bnd.D)), ("_ends", .tup (((sortS xs).map Stp.e).map DL.D.str)), ("_points", .tup ((points (sortE es) (sortS xs)).map DL.D.str)), ("_step_by_end", .dct false ((sortS xs).map fun x => (D.str x.e, x.D))), ("_most_by_pair", .dct true ((sortB bs).map fun x => (D.tup [.str x.a, .str x.b], D.int x.m)))]
section
variable {P : Program} {w : World} {K : PySem.W.Frag} {mg : Str → Option Value} {base : Heap} {tk : Tok} {CP : Addr}
theorem sc_Plan___init__ : FnScope ["self", "horizon", "events", "steps", "bounds", "step", "first", "second", "most"] ["self", "horizon", "events", "steps", "bounds"] (defScope (mtop 28 0)) := ⟨rfl, rfl, rfl, by decide +kernel, rfl, by decide +kernel, by decide +kernel⟩
abbrev gInit (R : Int → List Str → List Stp → List Bnd → List (Str × D) → Prop) : SpI := fun ds Q _ => ∃ h es xs bs, ds = [.int h, .tup (es.map DL.D.str), .tup (xs.map Stp.D), .tup (bs.map Bnd.D)] ∧ 0 ≤ h ∧ h ≤ 99 ∧ okParts es xs bs ∧ ∀ fs, R h es xs bs fs → Q fs
theorem ok_init {x : Str} {dvs : List V} {kws : List (Str × V)} {params : Arguments} {f : Addr} {fd : FuncData} (T : Bl mg) (C__check_parts : Cal P w K mg base "_check_parts" 6 ["events", "steps", "bounds"] gParts) (C_is_between : Cal P w K mg base "is_between" 2 ["value", "least", "most"] gBtw) (G_MAX_HORIZON : mg "MAX_HORIZON" = some (.int 99 tk)) (n__bounds : NoAttr K CP "_bounds") (n__ends : NoAttr K CP "_ends") (n__events : NoAttr K CP "_events") (n__horizon : NoAttr K CP "_horizon") (n__most_by_pair : NoAttr K CP "_most_by_pair") (n__points : NoAttr K CP "_points") (n__step_by_end : NoAttr K CP "_step_by_end") (n__steps : NoAttr K CP "_steps") (F : FunD K x "Plan.__init__" params (defBody (mtop 28 0)) (defScope (mtop 28 0)) dvs kws f fd) :
    FnG P w K mg base (L2.CX P w) 8 f fd ["self", "horizon", "events", "steps", "bounds"] (spI K CP (gInit fun h es xs bs fs => fs = planF h es xs bs)) := by
  refine okI F sc_Plan___init__ (by decide) (by rintro ds Q De ⟨h, es, xs, bs, rfl, _⟩; rfl) fun a cdv A outer s H E De hgd hr => ⟨_, (dss_cons (ds_if (dt_not (dt_val (de_cal C_is_between hgd hr (by decide) (by rfl) (passes_call (takes_of rfl rfl rfl rfl) fun _ _ _ _ h => h) (da_cons (dv 1) (da_cons de_int (da_cons (de_globI (by rfl) G_MAX_HORIZON) da_nil))))))
        (dss_one ds_never)
        dss_nil)
      (dss_cons (ds_expr (de_cal C__check_parts hgd hr (by decide) (by rfl) (passes_call (takes_of rfl rfl rfl rfl) fun _ _ _ _ h => h) (da_cons (dv 2) (da_cons (dv 3) (da_cons (dv 4) da_nil)))))
      (dss_cons (ds_fld 0 n__horizon (dv 1))
      (dss_cons (ds_fld 0 n__events (de_callTy (call_tupleA) l_tuple (by rfl) T.«tuple» (by decide +kernel) (da_cons (de_callB (cr_sortD hr.units) l_sorted (by rfl) T.«sorted» (by decide +kernel) (da_cons (dv 2) da_nil)) da_nil)))
      (dss_cons (ds_fld 0 n__steps (de_callTy (call_tupleA) l_tuple (by rfl) T.«tuple» (by decide +kernel) (da_cons (de_callB (cr_sortD hr.units) l_sorted (by rfl) T.«sorted» (by decide +kernel) (da_cons (dv 3) da_nil)) da_nil)))
      (dss_cons (ds_fld 0 n__bounds (de_callTy (call_tupleA) l_tuple (by rfl) T.«tuple» (by decide +kernel) (da_cons (de_callB (cr_sortD hr.units) l_sorted (by rfl) T.«sorted» (by decide +kernel) (da_cons (dv 4) da_nil)) da_nil)))
      (dss_cons (ds_fld 0 n__ends (de_callTy (call_tupleA) l_tuple (by rfl) T.«tuple» (by decide +kernel) (da_cons (de_fresh (df_lc (own := [("step", 5)]) (by rfl) sc_Plan___init__.nd (di_any (de_fldO 0 n__steps)) (blkOk_by (own := [("step", 5)]) (N := ["self", "horizon", "events", "steps", "bounds", "step", "first", "second", "most"]) (sc := defScope (mtop 28 0)) (by decide +kernel)) (fun _ _ _ _ _ => (dg_name (i := 5) sc_Plan___init__.nd rfl (.inl rfl))) (fun _ _ _ _ _ => dts_nil) (fun _ _ _ _ _ => (de_ix (dv 5) de_int (fun _ _ => rfl))) (by decide))) da_nil)))
      (dss_cons (ds_fld 0 n__points (de_op (op_addA) l_add (de_op (op_addA) l_add (de_tup (da_cons de_str da_nil)) (de_fldO 0 n__events)) (de_fldO 0 n__ends)))
      (dss_cons (ds_fld 0 n__step_by_end (de_fresh (df_dcK (own := [("step", 5)]) (by rfl) sc_Plan___init__.nd (di_any (de_fldO 0 n__steps)) (blkOk_by (own := [("step", 5)]) (N := ["self", "horizon", "events", "steps", "bounds", "step", "first", "second", "most"]) (sc := defScope (mtop 28 0)) (by decide +kernel)) (fun _ _ _ _ _ => (dg_name (i := 5) sc_Plan___init__.nd rfl (.inl rfl))) (fun _ _ _ _ _ => dts_nil) (fun _ _ _ _ _ => (de_ix (dv 5) de_int (fun _ _ => rfl))) (fun _ _ _ _ _ => (dv 5)) (by decide))))
      (dss_one (ds_fld 0 n__most_by_pair (de_fresh (df_dcT hr.units0 (own := [("first", 6), ("second", 7), ("most", 8)]) (by rfl) sc_Plan___init__.nd (di_any (de_fldO 0 n__bounds)) (blkOk_by (own := [("first", 6), ("second", 7), ("most", 8)]) (N := ["self", "horizon", "events", "steps", "bounds", "step", "first", "second", "most"]) (sc := defScope (mtop 28 0)) (by decide +kernel)) (fun _ _ _ _ _ => (dg_tup (n := 3) rfl (dgs_cons (dg_name (i := 6) sc_Plan___init__.nd rfl (.inl rfl)) (dgs_cons (dg_name (i := 7) sc_Plan___init__.nd rfl (.inl rfl)) (dgs_cons (dg_name (i := 8) sc_Plan___init__.nd rfl (.inl rfl)) dgs_nil))))) (fun _ _ _ _ _ => dts_nil) (fun _ _ _ _ _ => (de_tup (da_cons (dv 6) (da_cons (dv 7) da_nil)))) (fun _ _ _ _ _ => (dv 8)) (by decide)))))))))))))), ?_⟩
  rintro ds Dq ⟨h, es, xs, bs, rfl, h1, h2, ok, q⟩
  rw [show startI ["self", "horizon", "events", "steps", "bounds", "step", "first", "second", "most"] a CP [.int h, .tup (es.map DL.D.str), .tup (xs.map Stp.D), .tup (bs.map Bnd.D)] = [.oi a CP [], .dat (.int h), .dat (.tup (es.map DL.D.str)), .dat (.tup (xs.map Stp.D)), .dat (.tup (bs.map Bnd.D)), .un, .un, .un, .un] from rfl]
  dsimp only [DL.dAnd, DL.dAndV, DL.dAny, DL.dAppend, DL.dAsg, DL.dB, DL.dBreak, DL.dC, DL.dCall, DL.dChain, DL.dCons, DL.dConsA, DL.dCont, DL.dDrop, DL.dEnumL, DL.dEnumT, DL.dFld, DL.dFldO, DL.dFldSet, DL.dFmt, DL.dFn, DL.dFor, DL.dFresh, DL.dGet1, DL.dGet2, DL.dIfE, DL.dIfS, DL.dInK, DL.dIsi, DL.dIsiO, DL.dJoin, DL.dKeys, DL.dLenSc, DL.dLenSet, DL.dLenSk, DL.dLock, DL.dLockS, DL.dMth, DL.dNeg, DL.dNever, DL.dNext, DL.dNil, DL.dNilA, DL.dNone, DL.dNot, DL.dNotV, DL.dOp, DL.dOr, DL.dOrV, DL.dPar, DL.dPut, DL.dRet, DL.dRetN, DL.dRng1, DL.dRng2, DL.dSeq, DL.dSet, DL.dSetO, DL.dSl, DL.dSome, DL.dTruth, DL.dTup, DL.dVar, DL.dView, DL.dViewT, DL.dYes, DL.dZip, DL.fDc, DL.fDictP, DL.fDictPT, DL.fDisp, DL.fLc, DL.fListT, DL.fLock, DL.fLst, DL.fMake, DL.fMakeK, DL.fMakeL, DL.fNew, DL.gAdd, DL.gBools, DL.gCmp, DL.gConsD, DL.gDin, DL.gEq, DL.gEqO, DL.gGe, DL.gGet, DL.gGt, DL.gI, DL.gIb, DL.gIc, DL.gIn, DL.gInO, DL.gInt, DL.gIsN, DL.gIx, DL.gLe, DL.gLen, DL.gLenO, DL.gLt, DL.gNameD, DL.gNe, DL.gNilD, DL.gNotN, DL.gRepr, DL.gSl, DL.gSorted, DL.gStrI, DL.gStrO, DL.gStrS, DL.gSum, DL.gTupD, DL.gTuple, DL.jCons, DL.jNil, DL.pCons, DL.pNil, startD, isiB, List.map_cons, List.map_nil, List.cons_append, List.nil_append, List.length_cons, List.length_nil, List.set_cons_zero, List.set_cons_succ, List.getElem?_cons_zero, List.getElem?_cons_succ, List.replicate]
  refine ⟨.int h, 0, 99, rfl, ?_⟩
  rw [btw_in h1 h2]
  refine ifn (by decide) ⟨es, xs, bs, rfl, ok, rfl, by omega, flat_strs es, dec_strs es, dp_strs es, rfl, put_lt (by decide), flat_steps xs, dec_steps ok.xd, dp_steps xs, rfl, ?_, flat_bounds bs, dec_bounds ok.bd, dp_bounds bs, rfl, ?_, rfl, _, rfl, ?_⟩
  · exact put_lt (put_lt (by decide))
  · exact put_lt (put_lt (put_lt (by decide)))
  · rw [sort_strs es, sort_bounds bs, sort_steps xs]
    refine lc_map (F := fun d => match d with | .tup (.str s :: _) => .str s | _ => .non) _ _ (fun d m R r => ?_) ?_
    · obtain ⟨x, mx, rfl⟩ := List.mem_map.mp m
      obtain ⟨e, b, l, m, dd⟩ := x
      exact r
    · have hm : ((sortS xs).map Stp.D).map (fun d => match d with | .tup (.str s :: _) => D.str s | _ => .non) = ((sortS xs).map Stp.e).map DL.D.str := by
        rw [List.map_map, List.map_map]
        exact List.map_congr_left fun x _ => by cases x; rfl
      rw [hm, List.nil_append]
      refine ⟨rfl, ?_, ?_, rfl, _, rfl, ?_⟩
      · exact put_lt (put_lt (put_lt (put_lt (by decide))))
      · exact by decide
      · refine ⟨?_, rfl, _, rfl, ?_, rfl, ?_, rfl, _, rfl, ?_⟩
        · have := ok.el
          rw [List.length_map, sortE, List.length_mergeSort]
          exact Nat.le_trans (Nat.add_le_add_left this _) (by decide)
        · have := ok.el
          have := ok.xl
          rw [List.length_append, List.length_map, List.length_map, List.length_map, sortE, sortS, List.length_mergeSort, List.length_mergeSort]
          exact Nat.le_trans (Nat.add_le_add (Nat.add_le_add_left ‹es.length ≤ 10› _) this) (by decide)
        · exact put_lt (put_lt (put_lt (put_lt (put_lt (by decide)))))
        · refine dc_map (t := false) (F := fun d => match d with | .tup (.str s :: _) => .str s | _ => .non) (G := fun d => d) _ [] (fun d m => ?_) ?_
          · obtain ⟨x, mx, rfl⟩ := List.mem_map.mp m
            obtain ⟨e, b, l, m, dd⟩ := x
            exact ⟨rfl, fun R r => r⟩
          · refine ⟨rfl, put_lt (put_lt (put_lt (put_lt (put_lt (put_lt (by decide)))))), rfl, _, rfl, ?_⟩
            refine dc_map (t := true) (F := fun d => match d with | .tup [a, b, _] => .tup [a, b] | _ => .non) (G := fun d => match d with | .tup [_, _, m] => m | _ => .non) _ [] (fun d m => ?_) ?_
            · obtain ⟨x, mx, rfl⟩ := List.mem_map.mp m
              obtain ⟨a, b, m⟩ := x
              refine ⟨rfl, fun R r => ?_⟩
              refine ⟨rfl, ?_⟩
              have two : (2 : Nat) ≤ sizeLine := by decide
              exact ⟨two, r⟩
            · refine ⟨rfl, put_lt (put_lt (put_lt (put_lt (put_lt (put_lt (put_lt (by decide))))))), _, rfl, q _ ?_⟩
              rw [merge_steps ok.xd, merge_bounds ok.bd]
              have hp : [D.str (Str.ofString "start")] ++ List.map DL.D.str (sortE es) ++ List.map DL.D.str (List.map Stp.e (sortS xs)) = (points (sortE es) (sortS xs)).map DL.D.str := by
                rw [points, List.map_cons, List.map_append]
                rfl
              rw [hp]
              rfl
end
end K05

set_option Elab.async false
set_option linter.all false
set_option maxRecDepth 100000
set_option maxHeartbeats 2000000
namespace K05
open PySem PySem.Spec PyProof.Rows L2 LW RZ DL
theorem points_perm (es : List Str) (xs : List Stp) : (points (sortE es) (sortS xs)).Perm (points es xs) :=
  ((sortE_perm es).append ((sortS_perm xs).map Stp.e)).cons _
theorem find_step : ∀ {xs : List Stp}, (xs.map Stp.e).Nodup → ∀ y ∈ xs, findK (xs.map fun x => (D.str x.e, x.D)) (.str y.e) = some y.D
  | [], _, y, m => by cases m
  | x :: xs, nd, y, m => by
    obtain ⟨h1, h2⟩ := List.nodup_cons.mp nd
    unfold findK
    rw [List.map_cons, List.find?_cons]
    rcases List.mem_cons.mp m with rfl | m'
    · rw [show keyEq (D.str y.e, y.D).1 (.str y.e) = true from beq_self_eq_true y.e]
      rfl
    · have ne : x.e ≠ y.e := fun e => h1 (List.mem_map.mpr ⟨y, m', e.symm⟩)
      rw [show keyEq (D.str x.e, x.D).1 (.str y.e) = false from beq_eq_false_iff_ne.mpr ne]
      exact find_step h2 y m'
section
variable {P : Program} {w : World} {K : PySem.W.Frag} {mg : Str → Option Value} {base : Heap} {tk : Tok} {CP : Addr} {x : Str} {dvs : List V} {kws : List (Str × V)} {params : Arguments} {f : Addr} {fd : FuncData}
abbrev planD (CP : Addr) (h : Int) (es : List Str) (xs : List Stp) (bs : List Bnd) : D := .obj CP (planF h es xs bs)
theorem sc_Plan___len__ : FnScope ["self"] ["self"] (defScope (mtop 28 25)) := ⟨rfl, rfl, rfl, by decide +kernel, rfl, by decide +kernel, by decide +kernel⟩
theorem ok_len (T : Bl mg) (n__points : NoAttr K CP "_points") (F : Fun K x "Plan.__len__" (mtop 28 25) f fd) :
    FnD P w K mg base 1 f fd ["self"] (fun ds Q _ => ∃ h es xs bs, ds = [planD CP h es xs bs] ∧ Q (.int (1 + es.length + xs.length))) := by
  refine okD F sc_Plan___len__ (by decide) (by rintro ds Q De ⟨h, es, xs, bs, rfl, _⟩; rfl) fun cdv A outer s H E De hgd hr => ⟨_, (dss_one (ds_ret (de_callB (call_lenA) l_len (by rfl) T.«len» (by decide +kernel) (da_cons (de_fld n__points (dv 0)) da_nil)))), ?_⟩
  rintro ds Dq ⟨h, es, xs, bs, rfl, q⟩
  rw [show startD ["self"] [planD CP h es xs bs] = [.dat (planD CP h es xs bs)] from rfl]
  dsimp only [DL.dAnd, DL.dAndV, DL.dAny, DL.dAppend, DL.dAsg, DL.dB, DL.dBreak, DL.dC, DL.dCall, DL.dChain, DL.dCons, DL.dConsA, DL.dCont, DL.dDrop, DL.dEnumL, DL.dEnumT, DL.dFld, DL.dFldO, DL.dFldSet, DL.dFmt, DL.dFn, DL.dFor, DL.dFresh, DL.dGet1, DL.dGet2, DL.dIfE, DL.dIfS, DL.dInK, DL.dIsi, DL.dIsiO, DL.dJoin, DL.dKeys, DL.dLenSc, DL.dLenSet, DL.dLenSk, DL.dLock, DL.dLockS, DL.dMth, DL.dNeg, DL.dNever, DL.dNext, DL.dNil, DL.dNilA, DL.dNone, DL.dNot, DL.dNotV, DL.dOp, DL.dOr, DL.dOrV, DL.dPar, DL.dPut, DL.dRet, DL.dRetN, DL.dRng1, DL.dRng2, DL.dSeq, DL.dSet, DL.dSetO, DL.dSl, DL.dSome, DL.dTruth, DL.dTup, DL.dVar, DL.dView, DL.dViewT, DL.dYes, DL.dZip, DL.fDc, DL.fDictP, DL.fDictPT, DL.fDisp, DL.fLc, DL.fListT, DL.fLock, DL.fLst, DL.fMake, DL.fMakeK, DL.fMakeL, DL.fNew, DL.gAdd, DL.gBools, DL.gCmp, DL.gConsD, DL.gDin, DL.gEq, DL.gEqO, DL.gGe, DL.gGet, DL.gGt, DL.gI, DL.gIb, DL.gIc, DL.gIn, DL.gInO, DL.gInt, DL.gIsN, DL.gIx, DL.gLe, DL.gLen, DL.gLenO, DL.gLt, DL.gNameD, DL.gNe, DL.gNilD, DL.gNotN, DL.gRepr, DL.gSl, DL.gSorted, DL.gStrI, DL.gStrO, DL.gStrS, DL.gSum, DL.gTupD, DL.gTuple, DL.jCons, DL.jNil, DL.pCons, DL.pNil, startD, isiB, List.map_cons, List.map_nil, List.cons_append, List.nil_append, List.length_cons, List.length_nil, List.set_cons_zero, List.set_cons_succ, List.getElem?_cons_zero, List.getElem?_cons_succ, List.replicate]
  have e : (((points (sortE es) (sortS xs)).map DL.D.str).length : Int) = 1 + es.length + xs.length := by
    rw [List.length_map, points, List.length_cons, List.length_append, List.length_map, (sortE_perm es).length_eq, (sortS_perm xs).length_eq]
    omega
  rw [← e] at q
  exact ⟨rfl, _, rfl, q⟩
theorem sc_Plan___contains__ : FnScope ["self", "value"] ["self", "value"] (defScope (mtop 28 24)) := ⟨rfl, rfl, rfl, by decide +kernel, rfl, by decide +kernel, by decide +kernel⟩
theorem ok_contains (T : Bl mg) (n__points : NoAttr K CP "_points") (F : Fun K x "Plan.__contains__" (mtop 28 24) f fd) :
    FnD P w K mg base 1 f fd ["self", "value"] (fun ds Q _ => ∃ h es xs bs v, ds = [planD CP h es xs bs, v] ∧ v.cmp = true ∧ (∀ p ∈ points es xs, PyData.strOk p = true) ∧ Q (.bl (inD v ((points (sortE es) (sortS xs)).map DL.D.str)))) := by
  refine okD F sc_Plan___contains__ (by decide) (by rintro ds Q De ⟨h, es, xs, bs, v, rfl, _⟩; rfl) fun cdv A outer s H E De hgd hr => ⟨_, (dss_one (ds_ret (de_cmp (op_inA hr.units (u65 hr)) l_in (dv 1) (de_fld n__points (dv 0)) (by rfl)))), ?_⟩
  rintro ds Dq ⟨h, es, xs, bs, v, rfl, vc, ho, q⟩
  rw [show startD ["self", "value"] [planD CP h es xs bs, v] = [.dat (planD CP h es xs bs), .dat v] from rfl]
  dsimp only [DL.dAnd, DL.dAndV, DL.dAny, DL.dAppend, DL.dAsg, DL.dB, DL.dBreak, DL.dC, DL.dCall, DL.dChain, DL.dCons, DL.dConsA, DL.dCont, DL.dDrop, DL.dEnumL, DL.dEnumT, DL.dFld, DL.dFldO, DL.dFldSet, DL.dFmt, DL.dFn, DL.dFor, DL.dFresh, DL.dGet1, DL.dGet2, DL.dIfE, DL.dIfS, DL.dInK, DL.dIsi, DL.dIsiO, DL.dJoin, DL.dKeys, DL.dLenSc, DL.dLenSet, DL.dLenSk, DL.dLock, DL.dLockS, DL.dMth, DL.dNeg, DL.dNever, DL.dNext, DL.dNil, DL.dNilA, DL.dNone, DL.dNot, DL.dNotV, DL.dOp, DL.dOr, DL.dOrV, DL.dPar, DL.dPut, DL.dRet, DL.dRetN, DL.dRng1, DL.dRng2, DL.dSeq, DL.dSet, DL.dSetO, DL.dSl, DL.dSome, DL.dTruth, DL.dTup, DL.dVar, DL.dView, DL.dViewT, DL.dYes, DL.dZip, DL.fDc, DL.fDictP, DL.fDictPT, DL.fDisp, DL.fLc, DL.fListT, DL.fLock, DL.fLst, DL.fMake, DL.fMakeK, DL.fMakeL, DL.fNew, DL.gAdd, DL.gBools, DL.gCmp, DL.gConsD, DL.gDin, DL.gEq, DL.gEqO, DL.gGe, DL.gGet, DL.gGt, DL.gI, DL.gIb, DL.gIc, DL.gIn, DL.gInO, DL.gInt, DL.gIsN, DL.gIx, DL.gLe, DL.gLen, DL.gLenO, DL.gLt, DL.gNameD, DL.gNe, DL.gNilD, DL.gNotN, DL.gRepr, DL.gSl, DL.gSorted, DL.gStrI, DL.gStrO, DL.gStrS, DL.gSum, DL.gTupD, DL.gTuple, DL.jCons, DL.jNil, DL.pCons, DL.pNil, startD, isiB, List.map_cons, List.map_nil, List.cons_append, List.nil_append, List.length_cons, List.length_nil, List.set_cons_zero, List.set_cons_succ, List.getElem?_cons_zero, List.getElem?_cons_succ, List.replicate]
  exact ⟨rfl, _, rfl, vc, strs_cmp fun p m => ho p ((points_perm es xs).mem_iff.mp m), q⟩
theorem sc_Plan_step : FnScope ["self", "end"] ["self", "end"] (defScope (mtop 28 8)) := ⟨rfl, rfl, rfl, by decide +kernel, rfl, by decide +kernel, by decide +kernel⟩
theorem ok_step (T : Bl mg) (n__ends : NoAttr K CP "_ends") (n__step_by_end : NoAttr K CP "_step_by_end") (F : Fun K x "Plan.step" (mtop 28 8) f fd) :
    FnD P w K mg base 1 f fd ["self", "end"] (fun ds Q _ => ∃ h es xs bs y, ds = [planD CP h es xs bs, .str y.e] ∧ okParts es xs bs ∧ y ∈ xs ∧ Q y.D) := by
  refine okD F sc_Plan_step (by decide) (by rintro ds Q De ⟨h, es, xs, bs, y, rfl, _⟩; rfl) fun cdv A outer s H E De hgd hr => ⟨_, (dss_cons (ds_if (dt_cmp (op_ninA hr.units (u65 hr)) l_nin (dv 1) (de_fld n__ends (dv 0)) (by rfl))
        (dss_one ds_never)
        dss_nil)
      (dss_one (ds_ret (de_dget (hu1 hr) (de_fld n__step_by_end (dv 0)) (dv 1) (fun _ _ => rfl))))), ?_⟩
  rintro ds Dq ⟨h, es, xs, bs, y, rfl, ok, my, q⟩
  rw [show startD ["self", "end"] [planD CP h es xs bs, .str y.e] = [.dat (planD CP h es xs bs), .dat (.str y.e)] from rfl]
  dsimp only [DL.dAnd, DL.dAndV, DL.dAny, DL.dAppend, DL.dAsg, DL.dB, DL.dBreak, DL.dC, DL.dCall, DL.dChain, DL.dCons, DL.dConsA, DL.dCont, DL.dDrop, DL.dEnumL, DL.dEnumT, DL.dFld, DL.dFldO, DL.dFldSet, DL.dFmt, DL.dFn, DL.dFor, DL.dFresh, DL.dGet1, DL.dGet2, DL.dIfE, DL.dIfS, DL.dInK, DL.dIsi, DL.dIsiO, DL.dJoin, DL.dKeys, DL.dLenSc, DL.dLenSet, DL.dLenSk, DL.dLock, DL.dLockS, DL.dMth, DL.dNeg, DL.dNever, DL.dNext, DL.dNil, DL.dNilA, DL.dNone, DL.dNot, DL.dNotV, DL.dOp, DL.dOr, DL.dOrV, DL.dPar, DL.dPut, DL.dRet, DL.dRetN, DL.dRng1, DL.dRng2, DL.dSeq, DL.dSet, DL.dSetO, DL.dSl, DL.dSome, DL.dTruth, DL.dTup, DL.dVar, DL.dView, DL.dViewT, DL.dYes, DL.dZip, DL.fDc, DL.fDictP, DL.fDictPT, DL.fDisp, DL.fLc, DL.fListT, DL.fLock, DL.fLst, DL.fMake, DL.fMakeK, DL.fMakeL, DL.fNew, DL.gAdd, DL.gBools, DL.gCmp, DL.gConsD, DL.gDin, DL.gEq, DL.gEqO, DL.gGe, DL.gGet, DL.gGt, DL.gI, DL.gIb, DL.gIc, DL.gIn, DL.gInO, DL.gInt, DL.gIsN, DL.gIx, DL.gLe, DL.gLen, DL.gLenO, DL.gLt, DL.gNameD, DL.gNe, DL.gNilD, DL.gNotN, DL.gRepr, DL.gSl, DL.gSorted, DL.gStrI, DL.gStrO, DL.gStrS, DL.gSum, DL.gTupD, DL.gTuple, DL.jCons, DL.jNil, DL.pCons, DL.pNil, startD, isiB, List.map_cons, List.map_nil, List.cons_append, List.nil_append, List.length_cons, List.length_nil, List.set_cons_zero, List.set_cons_succ, List.getElem?_cons_zero, List.getElem?_cons_succ, List.replicate]
  have ho : ∀ e ∈ (sortS xs).map Stp.e, PyData.strOk e = true := fun e m => by
    obtain ⟨x, mx, rfl⟩ := List.mem_map.mp m
    exact name_ok (ok.x x ((sortS_perm xs).mem_iff.mp mx)).e1
  have mi : y.e ∈ (sortS xs).map Stp.e := List.mem_map.mpr ⟨y, (sortS_perm xs).mem_iff.mpr my, rfl⟩
  refine ⟨rfl, _, rfl, str_cmp (ho _ mi), strs_cmp ho, ifn (by rw [if_pos rfl, in_strs, decide_eq_true mi]; decide) ?_⟩
  have nd : ((sortS xs).map Stp.e).Nodup := ((sortS_perm xs).map Stp.e).nodup_iff.mpr ok.xd
  have fd := find_step nd y ((sortS_perm xs).mem_iff.mpr my)
  refine ⟨rfl, _, rfl, rfl, ?_⟩
  rw [fd]
  exact q
end
end K05

set_option Elab.async false
set_option linter.all false
set_option maxRecDepth 100000
set_option maxHeartbeats 2000000
namespace K05
open PySem PySem.Spec PyProof.Rows L2 LW RZ DL
theorem num_len : ∀ n : Nat, n < 100 → (Str.ofString (toString (n : Int))).length ≤ 2 := by decide +kernel
theorem num_log : ∀ n : Nat, n < 100 → (n : Int).natAbs.log2 < 1920 := by decide +kernel
theorem app_le {a b : Str} {n m : Nat} (h1 : a.length ≤ n) (h2 : b.length ≤ m) : (a ++ b).length ≤ n + m := by
  rw [Str.length_append]
  omega
section
variable {P : Program} {w : World} {K : PySem.W.Frag} {mg : Str → Option Value} {base : Heap} {tk : Tok} {CP : Addr} {x : Str} {dvs : List V} {kws : List (Str × V)} {params : Arguments} {f : Addr} {fd : FuncData}
def told (n k m : Nat) : Str := Str.empty ++ "plan of " ++ Str.ofString (toString (n : Int)) ++ " events, " ++ Str.ofString (toString (k : Int)) ++ " steps, " ++ Str.ofString (toString (m : Int)) ++ " bounds"
theorem sc_Plan___str__ : FnScope ["self"] ["self"] (defScope (mtop 28 27)) := ⟨rfl, rfl, rfl, by decide +kernel, rfl, by decide +kernel, by decide +kernel⟩
theorem ok_str (T : Bl mg) (n__events : NoAttr K CP "_events") (n__steps : NoAttr K CP "_steps") (n__bounds : NoAttr K CP "_bounds") (F : Fun K x "Plan.__str__" (mtop 28 27) f fd) :
    FnD P w K mg base 1 f fd ["self"] (fun ds Q _ => ∃ h es xs bs, ds = [planD CP h es xs bs] ∧ es.length < 100 ∧ xs.length < 100 ∧ bs.length < 100 ∧ Q (.str (told es.length xs.length bs.length))) := by
  refine okD F sc_Plan___str__ (by decide) (by rintro ds Q De ⟨h, es, xs, bs, rfl, _⟩; rfl) fun cdv A outer s H E De hgd hr => ⟨_, (dss_one (ds_ret (de_join (dj_cons de_str (dj_cons (de_fmt (de_callB (call_lenA) l_len (by rfl) T.«len» (by decide +kernel) (da_cons (de_fld n__events (dv 0)) da_nil))) (dj_cons de_str (dj_cons (de_fmt (de_callB (call_lenA) l_len (by rfl) T.«len» (by decide +kernel) (da_cons (de_fld n__steps (dv 0)) da_nil))) (dj_cons de_str (dj_cons (de_fmt (de_callB (call_lenA) l_len (by rfl) T.«len» (by decide +kernel) (da_cons (de_fld n__bounds (dv 0)) da_nil))) (dj_cons de_str dj_nil)))))))))), ?_⟩
  rintro ds Dq ⟨h, es, xs, bs, rfl, l1, l2, l3, q⟩
  rw [show startD ["self"] [planD CP h es xs bs] = [.dat (planD CP h es xs bs)] from rfl]
  dsimp only [DL.dAnd, DL.dAndV, DL.dAny, DL.dAppend, DL.dAsg, DL.dB, DL.dBreak, DL.dC, DL.dCall, DL.dChain, DL.dCons, DL.dConsA, DL.dCont, DL.dDrop, DL.dEnumL, DL.dEnumT, DL.dFld, DL.dFldO, DL.dFldSet, DL.dFmt, DL.dFn, DL.dFor, DL.dFresh, DL.dGet1, DL.dGet2, DL.dIfE, DL.dIfS, DL.dInK, DL.dIsi, DL.dIsiO, DL.dJoin, DL.dKeys, DL.dLenSc, DL.dLenSet, DL.dLenSk, DL.dLock, DL.dLockS, DL.dMth, DL.dNeg, DL.dNever, DL.dNext, DL.dNil, DL.dNilA, DL.dNone, DL.dNot, DL.dNotV, DL.dOp, DL.dOr, DL.dOrV, DL.dPar, DL.dPut, DL.dRet, DL.dRetN, DL.dRng1, DL.dRng2, DL.dSeq, DL.dSet, DL.dSetO, DL.dSl, DL.dSome, DL.dTruth, DL.dTup, DL.dVar, DL.dView, DL.dViewT, DL.dYes, DL.dZip, DL.fDc, DL.fDictP, DL.fDictPT, DL.fDisp, DL.fLc, DL.fListT, DL.fLock, DL.fLst, DL.fMake, DL.fMakeK, DL.fMakeL, DL.fNew, DL.gAdd, DL.gBools, DL.gCmp, DL.gConsD, DL.gDin, DL.gEq, DL.gEqO, DL.gGe, DL.gGet, DL.gGt, DL.gI, DL.gIb, DL.gIc, DL.gIn, DL.gInO, DL.gInt, DL.gIsN, DL.gIx, DL.gLe, DL.gLen, DL.gLenO, DL.gLt, DL.gNameD, DL.gNe, DL.gNilD, DL.gNotN, DL.gRepr, DL.gSl, DL.gSorted, DL.gStrI, DL.gStrO, DL.gStrS, DL.gSum, DL.gTupD, DL.gTuple, DL.jCons, DL.jNil, DL.pCons, DL.pNil, startD, isiB, List.map_cons, List.map_nil, List.cons_append, List.nil_append, List.length_cons, List.length_nil, List.set_cons_zero, List.set_cons_succ, List.getElem?_cons_zero, List.getElem?_cons_succ, List.replicate]
  have e1 : ((sortE es).map DL.D.str).length = es.length := by rw [List.length_map, (sortE_perm es).length_eq]
  have e2 : ((sortS xs).map Stp.D).length = xs.length := by rw [List.length_map, (sortS_perm xs).length_eq]
  have e3 : ((sortB bs).map Bnd.D).length = bs.length := by rw [List.length_map, (sortB_perm bs).length_eq]
  rw [← e1, ← e2, ← e3] at q
  rw [← e1] at l1
  rw [← e2] at l2
  rw [← e3] at l3
  have big : (100 : Nat) ≤ sizeLine := by decide
  have t0 : (Str.empty ++ Str.ofString "plan of ").length ≤ 10 := by decide +kernel
  have t1 := app_le t0 (num_len _ l1)
  have t2 := app_le t1 (show (Str.ofString " events, ").length ≤ 10 by decide +kernel)
  have t3 := app_le t2 (num_len _ l2)
  have t4 := app_le t3 (show (Str.ofString " steps, ").length ≤ 10 by decide +kernel)
  have t5 := app_le t4 (num_len _ l3)
  have t6 := app_le t5 (show (Str.ofString " bounds").length ≤ 10 by decide +kernel)
  exact ⟨by decide +kernel, rfl, _, rfl, num_log _ l1, Nat.le_trans t1 (Nat.le_trans (by decide) big), Nat.le_trans t2 (Nat.le_trans (by decide) big), rfl, _, rfl, num_log _ l2, Nat.le_trans t3 (Nat.le_trans (by decide) big), Nat.le_trans t4 (Nat.le_trans (by decide) big), rfl, _, rfl, num_log _ l3, Nat.le_trans t5 (Nat.le_trans (by decide) big), Nat.le_trans t6 (Nat.le_trans (by decide) big), q⟩
end
end K05

set_option Elab.async false
set_option linter.all false
set_option maxRecDepth 100000
set_option maxHeartbeats 2000000
namespace K05
open PySem PySem.Spec PyProof.Rows L2 LW RZ DL
section
variable {P : Program} {w : World} {K : PySem.W.Frag} {mg : Str → Option Value} {base : Heap} {tk : Tok} {CP : Addr} {x : Str} {dvs : List V} {kws : List (Str × V)} {params : Arguments} {f : Addr} {fd : FuncData}
theorem sc_Plan__check_points : FnScope ["self", "points", "point"] ["self", "points"] (defScope (mtop 28 28)) := ⟨rfl, rfl, rfl, by decide +kernel, rfl, by decide +kernel, by decide +kernel⟩
abbrev gChkPts (CP : Addr) : SpD := fun ds Q _ => ∃ h es xs bs a b, ds = [planD CP h es xs bs, .tup [.str a, .str b]] ∧ (∀ p ∈ points es xs, PyData.strOk p = true) ∧ a ∈ points es xs ∧ b ∈ points es xs ∧ Q .non
theorem ok_check_points (T : Bl mg) (n__points : NoAttr K CP "_points") (F : Fun K x "Plan._check_points" (mtop 28 28) f fd) :
    FnD P w K mg base 1 f fd ["self", "points"] (gChkPts CP) := by
  refine okD F sc_Plan__check_points (by decide) (by rintro ds Q De ⟨h, es, xs, bs, a, b, rfl, _⟩; rfl) fun cdv A outer s H E De hgd hr => ⟨_, (dss_one (ds_for (passes_of rfl) rfl (di_any (dv 1)) (dg_name (i := 2) sc_Plan__check_points.nd rfl (.inl rfl))
        (dss_one (ds_if (dt_cmp (op_ninA hr.units (u65 hr)) l_nin (dv 2) (de_fld n__points (dv 0)) (by rfl))
          (dss_one ds_never)
          dss_nil)))), ?_⟩
  rintro ds Dq ⟨h, es, xs, bs, a, b, rfl, ho, ma, mb, q⟩
  rw [show startD ["self", "points", "point"] [planD CP h es xs bs, .tup [.str a, .str b]] = [.dat (planD CP h es xs bs), .dat (.tup [.str a, .str b]), .un] from rfl]
  have hs : ∀ p ∈ points (sortE es) (sortS xs), PyData.strOk p = true := fun p m => ho p ((points_perm es xs).mem_iff.mp m)
  have pc := strs_cmp hs
  have ma' := (points_perm es xs).mem_iff.mpr ma
  have mb' := (points_perm es xs).mem_iff.mpr mb
  dsimp only [DL.dAnd, DL.dAndV, DL.dAny, DL.dAppend, DL.dAsg, DL.dB, DL.dBreak, DL.dC, DL.dCall, DL.dChain, DL.dCons, DL.dConsA, DL.dCont, DL.dDrop, DL.dEnumL, DL.dEnumT, DL.dFld, DL.dFldO, DL.dFldSet, DL.dFmt, DL.dFn, DL.dFor, DL.dFresh, DL.dGet1, DL.dGet2, DL.dIfE, DL.dIfS, DL.dInK, DL.dIsi, DL.dIsiO, DL.dJoin, DL.dKeys, DL.dLenSc, DL.dLenSet, DL.dLenSk, DL.dLock, DL.dLockS, DL.dMth, DL.dNeg, DL.dNever, DL.dNext, DL.dNil, DL.dNilA, DL.dNone, DL.dNot, DL.dNotV, DL.dOp, DL.dOr, DL.dOrV, DL.dPar, DL.dPut, DL.dRet, DL.dRetN, DL.dRng1, DL.dRng2, DL.dSeq, DL.dSet, DL.dSetO, DL.dSl, DL.dSome, DL.dTruth, DL.dTup, DL.dVar, DL.dView, DL.dViewT, DL.dYes, DL.dZip, DL.fDc, DL.fDictP, DL.fDictPT, DL.fDisp, DL.fLc, DL.fListT, DL.fLock, DL.fLst, DL.fMake, DL.fMakeK, DL.fMakeL, DL.fNew, DL.gAdd, DL.gBools, DL.gCmp, DL.gConsD, DL.gDin, DL.gEq, DL.gEqO, DL.gGe, DL.gGet, DL.gGt, DL.gI, DL.gIb, DL.gIc, DL.gIn, DL.gInO, DL.gInt, DL.gIsN, DL.gIx, DL.gLe, DL.gLen, DL.gLenO, DL.gLt, DL.gNameD, DL.gNe, DL.gNilD, DL.gNotN, DL.gRepr, DL.gSl, DL.gSorted, DL.gStrI, DL.gStrO, DL.gStrS, DL.gSum, DL.gTupD, DL.gTuple, DL.jCons, DL.jNil, DL.pCons, DL.pNil, startD, isiB, List.map_cons, List.map_nil, List.cons_append, List.nil_append, List.length_cons, List.length_nil, List.set_cons_zero, List.set_cons_succ, List.getElem?_cons_zero, List.getElem?_cons_succ, List.replicate]
  refine ⟨rfl, _, rfl, str_cmp (hs a ma'), pc, ifn (by rw [if_pos rfl, in_strs, decide_eq_true ma']; decide) ?_⟩
  refine ⟨rfl, _, rfl, str_cmp (hs b mb'), pc, ifn (by rw [if_pos rfl, in_strs, decide_eq_true mb']; decide) ?_⟩
  exact q
theorem find_bound : ∀ {xs : List Bnd}, (xs.map Bnd.k).Nodup → ∀ y ∈ xs, findK (xs.map fun x => (D.tup [.str x.a, .str x.b], D.int x.m)) (.tup [.str y.a, .str y.b]) = some (.int y.m)
  | [], _, y, m => by cases m
  | x :: xs, nd, y, m => by
    obtain ⟨h1, h2⟩ := List.nodup_cons.mp nd
    unfold findK
    rw [List.map_cons, List.find?_cons]
    rcases List.mem_cons.mp m with rfl | m'
    · rw [show keyEq (D.tup [.str y.a, .str y.b]) (.tup [.str y.a, .str y.b]) = true from by
        show (y.a == y.a && (y.b == y.b && true)) = true
        rw [beq_self_eq_true, beq_self_eq_true]
        rfl]
      rfl
    · have ne : x.k ≠ y.k := fun e => h1 (List.mem_map.mpr ⟨y, m', e.symm⟩)
      rw [show keyEq (D.tup [.str x.a, .str x.b]) (.tup [.str y.a, .str y.b]) = false from by
        show (x.a == y.a && (x.b == y.b && true)) = false
        rw [Bool.and_eq_false_iff, Bool.and_eq_false_iff]
        by_cases q : x.a = y.a
        · by_cases q' : x.b = y.b
          · exact absurd (by rw [Bnd.k, Bnd.k, q, q']) ne
          · exact .inr (.inl (beq_eq_false_iff_ne.mpr q'))
        · exact .inl (beq_eq_false_iff_ne.mpr q)]
      exact find_bound h2 y m'
end
end K05

set_option Elab.async false
set_option linter.all false
set_option maxRecDepth 100000
set_option maxHeartbeats 2000000
namespace K05
open PySem PySem.Spec PyProof.Rows L2 LW RZ DL
section
variable {P : Program} {w : World} {K : PySem.W.Frag} {mg : Str → Option Value} {base : Heap} {tk : Tok} {CP : Addr} {x : Str} {dvs : List V} {kws : List (Str × V)} {params : Arguments} {f : Addr} {fd : FuncData}
theorem sc_Plan_bound : FnScope ["self", "first", "second"] ["self", "first", "second"] (defScope (mtop 28 9)) := ⟨rfl, rfl, rfl, by decide +kernel, rfl, by decide +kernel, by decide +kernel⟩
/-- what a plan holds for a pair -/
def held (bs : List Bnd) (a b : Str) : D := (findK ((sortB bs).map fun x => (D.tup [.str x.a, .str x.b], D.int x.m)) (.tup [.str a, .str b])).getD .non
theorem held_in {bs : List Bnd} (nd : (bs.map Bnd.k).Nodup) {y : Bnd} (m : y ∈ bs) : held bs y.a y.b = .int y.m := by
  unfold held
  rw [find_bound (((sortB_perm bs).map Bnd.k).nodup_iff.mpr nd) y ((sortB_perm bs).mem_iff.mpr m)]
  rfl
theorem ok_bound (T : Bl mg) (n__most_by_pair : NoAttr K CP "_most_by_pair") (M__check_points : Mth P w K mg base CP "_check_points" 1 ["self", "points"] (gChkPts CP)) (F : Fun K x "Plan.bound" (mtop 28 9) f fd) :
    FnD P w K mg base 2 f fd ["self", "first", "second"] (fun ds Q _ => ∃ h es xs bs a b, ds = [planD CP h es xs bs, .str a, .str b] ∧ (∀ p ∈ points es xs, PyData.strOk p = true) ∧ a ∈ points es xs ∧ b ∈ points es xs ∧ Q (held bs a b)) := by
  refine okD F sc_Plan_bound (by decide) (by rintro ds Q De ⟨h, es, xs, bs, a, b, rfl, _⟩; rfl) fun cdv A outer s H E De hgd hr => ⟨_, (dss_cons (ds_expr (de_mth M__check_points hgd hr (by decide) (passes_call (takes_of rfl rfl rfl rfl) fun _ _ _ _ h => h) (dv 0) (da_cons (de_tup (da_cons (dv 1) (da_cons (dv 2) da_nil))) da_nil)))
      (dss_one (ds_ret (de_dget2 (hu1 hr) (de_fld n__most_by_pair (dv 0)) (de_tup (da_cons (dv 1) (da_cons (dv 2) da_nil))) de_non ⟨by rfl, by rfl, by rfl, by rfl⟩)))), ?_⟩
  rintro ds Dq ⟨h, es, xs, bs, a, b, rfl, ho, ma, mb, q⟩
  rw [show startD ["self", "first", "second"] [planD CP h es xs bs, .str a, .str b] = [.dat (planD CP h es xs bs), .dat (.str a), .dat (.str b)] from rfl]
  dsimp only [DL.dAnd, DL.dAndV, DL.dAny, DL.dAppend, DL.dAsg, DL.dB, DL.dBreak, DL.dC, DL.dCall, DL.dChain, DL.dCons, DL.dConsA, DL.dCont, DL.dDrop, DL.dEnumL, DL.dEnumT, DL.dFld, DL.dFldO, DL.dFldSet, DL.dFmt, DL.dFn, DL.dFor, DL.dFresh, DL.dGet1, DL.dGet2, DL.dIfE, DL.dIfS, DL.dInK, DL.dIsi, DL.dIsiO, DL.dJoin, DL.dKeys, DL.dLenSc, DL.dLenSet, DL.dLenSk, DL.dLock, DL.dLockS, DL.dMth, DL.dNeg, DL.dNever, DL.dNext, DL.dNil, DL.dNilA, DL.dNone, DL.dNot, DL.dNotV, DL.dOp, DL.dOr, DL.dOrV, DL.dPar, DL.dPut, DL.dRet, DL.dRetN, DL.dRng1, DL.dRng2, DL.dSeq, DL.dSet, DL.dSetO, DL.dSl, DL.dSome, DL.dTruth, DL.dTup, DL.dVar, DL.dView, DL.dViewT, DL.dYes, DL.dZip, DL.fDc, DL.fDictP, DL.fDictPT, DL.fDisp, DL.fLc, DL.fListT, DL.fLock, DL.fLst, DL.fMake, DL.fMakeK, DL.fMakeL, DL.fNew, DL.gAdd, DL.gBools, DL.gCmp, DL.gConsD, DL.gDin, DL.gEq, DL.gEqO, DL.gGe, DL.gGet, DL.gGt, DL.gI, DL.gIb, DL.gIc, DL.gIn, DL.gInO, DL.gInt, DL.gIsN, DL.gIx, DL.gLe, DL.gLen, DL.gLenO, DL.gLt, DL.gNameD, DL.gNe, DL.gNilD, DL.gNotN, DL.gRepr, DL.gSl, DL.gSorted, DL.gStrI, DL.gStrO, DL.gStrS, DL.gSum, DL.gTupD, DL.gTuple, DL.jCons, DL.jNil, DL.pCons, DL.pNil, startD, isiB, List.map_cons, List.map_nil, List.cons_append, List.nil_append, List.length_cons, List.length_nil, List.set_cons_zero, List.set_cons_succ, List.getElem?_cons_zero, List.getElem?_cons_succ, List.replicate]
  have two : (0 + 1 + 1 : Nat) ≤ sizeLine := by decide
  exact ⟨rfl, rfl, two, h, es, xs, bs, a, b, rfl, ho, ma, mb, rfl, _, rfl, two, rfl, q⟩
end
end K05

set_option Elab.async false
set_option linter.all false
set_option maxRecDepth 100000
set_option maxHeartbeats 2000000
namespace K05
open PySem PySem.Spec PyProof.Rows L2 LW RZ DL
section
variable {P : Program} {w : World} {K : PySem.W.Frag} {mg : Str → Option Value} {base : Heap} {tk : Tok} {CP : Addr}
/-- a plan as the law writes it down -/
def plainD (h : Int) (es : List Str) (xs : List Stp) (bs : List Bnd) : D := .tup [.int h, .tup (es.map DL.D.str), .tup (xs.map Stp.D), .tup (bs.map Bnd.D)]
theorem sc__law_points : FnScope ["plain", "step"] ["plain"] (defScope (top 41)) := ⟨rfl, rfl, rfl, by decide +kernel, rfl, by decide +kernel, by decide +kernel⟩
theorem ok_law_points (T : Bl mg) (F : Dfn K mg "_law_points" "_law_points" (top 41) ["plain"]) :
    Cal P w K mg base "_law_points" 1 ["plain"] (fun ds Q _ => ∃ h es xs bs, ds = [plainD h es xs bs] ∧ es.length + xs.length < 64 ∧ Q (.tup ((points es xs).map DL.D.str))) := by
  refine okC F sc__law_points (by decide) (by rintro ds Q De ⟨h, es, xs, bs, rfl, _⟩; rfl) fun f cdv A outer s H E De hgd hr => ⟨_, (dss_one (ds_ret (de_op (op_addA) l_add (de_op (op_addA) l_add (de_tup (da_cons de_str da_nil)) (de_ix (dv 0) de_int (fun _ _ => rfl))) (de_callTy (call_tupleA) l_tuple (by rfl) T.«tuple» (by decide +kernel) (da_cons (de_fresh (df_lc (own := [("step", 1)]) (by rfl) sc__law_points.nd (di_any (de_ix (dv 0) de_int (fun _ _ => rfl))) (blkOk_by (own := [("step", 1)]) (N := ["plain", "step"]) (sc := defScope (top 41)) (by decide +kernel)) (fun _ _ _ _ _ => (dg_name (i := 1) sc__law_points.nd rfl (.inl rfl))) (fun _ _ _ _ _ => dts_nil) (fun _ _ _ _ _ => (de_ix (dv 1) de_int (fun _ _ => rfl))) (by decide))) da_nil))))), ?_⟩
  rintro ds Dq ⟨h, es, xs, bs, rfl, few, q⟩
  rw [show startD ["plain", "step"] [plainD h es xs bs] = [.dat (.tup [.int h, .tup (es.map DL.D.str), .tup (xs.map Stp.D), .tup (bs.map Bnd.D)]), .un] from rfl]
  have sL : (100 : Nat) ≤ sizeLine := by decide
  dsimp only [DL.dAnd, DL.dAndV, DL.dAny, DL.dAppend, DL.dAsg, DL.dB, DL.dBreak, DL.dC, DL.dCall, DL.dChain, DL.dCons, DL.dConsA, DL.dCont, DL.dDrop, DL.dEnumL, DL.dEnumT, DL.dFld, DL.dFldO, DL.dFldSet, DL.dFmt, DL.dFn, DL.dFor, DL.dFresh, DL.dGet1, DL.dGet2, DL.dIfE, DL.dIfS, DL.dInK, DL.dIsi, DL.dIsiO, DL.dJoin, DL.dKeys, DL.dLenSc, DL.dLenSet, DL.dLenSk, DL.dLock, DL.dLockS, DL.dMth, DL.dNeg, DL.dNever, DL.dNext, DL.dNil, DL.dNilA, DL.dNone, DL.dNot, DL.dNotV, DL.dOp, DL.dOr, DL.dOrV, DL.dPar, DL.dPut, DL.dRet, DL.dRetN, DL.dRng1, DL.dRng2, DL.dSeq, DL.dSet, DL.dSetO, DL.dSl, DL.dSome, DL.dTruth, DL.dTup, DL.dVar, DL.dView, DL.dViewT, DL.dYes, DL.dZip, DL.fDc, DL.fDictP, DL.fDictPT, DL.fDisp, DL.fLc, DL.fListT, DL.fLock, DL.fLst, DL.fMake, DL.fMakeK, DL.fMakeL, DL.fNew, DL.gAdd, DL.gBools, DL.gCmp, DL.gConsD, DL.gDin, DL.gEq, DL.gEqO, DL.gGe, DL.gGet, DL.gGt, DL.gI, DL.gIb, DL.gIc, DL.gIn, DL.gInO, DL.gInt, DL.gIsN, DL.gIx, DL.gLe, DL.gLen, DL.gLenO, DL.gLt, DL.gNameD, DL.gNe, DL.gNilD, DL.gNotN, DL.gRepr, DL.gSl, DL.gSorted, DL.gStrI, DL.gStrO, DL.gStrS, DL.gSum, DL.gTupD, DL.gTuple, DL.jCons, DL.jNil, DL.pCons, DL.pNil, startD, isiB, List.map_cons, List.map_nil, List.cons_append, List.nil_append, List.length_cons, List.length_nil, List.set_cons_zero, List.set_cons_succ, List.getElem?_cons_zero, List.getElem?_cons_succ, List.replicate]
  refine ⟨by omega, ?_⟩
  have z1 : [D.str start].length + (es.map DL.D.str).length ≤ sizeLine := by
    simp only [List.length_cons, List.length_nil, List.length_map]
    omega
  refine ⟨z1, lc_map (F := fun d => match d with | .tup (.str s :: _) => .str s | _ => .non) (xs.map Stp.D) _ (fun d m R r => ?_) ?_⟩
  · obtain ⟨x, mx, rfl⟩ := List.mem_map.mp m
    obtain ⟨e, b, l, m, dd⟩ := x
    exact r
  · have hm : (xs.map Stp.D).map (fun d => match d with | .tup (.str s :: _) => D.str s | _ => .non) = (xs.map Stp.e).map DL.D.str := by
      rw [List.map_map, List.map_map]
      exact List.map_congr_left fun x _ => by cases x; rfl
    rw [hm, List.nil_append]
    refine ⟨?_, ?_⟩
    · simp only [List.length_append, List.length_cons, List.length_nil, List.length_map]
      omega
    · have hp : (points es xs).map DL.D.str = [D.str start] ++ es.map DL.D.str ++ (xs.map Stp.e).map DL.D.str := by
        rw [points, List.map_cons, List.map_append]
        rfl
      rw [hp] at q
      exact q
end
end K05

set_option Elab.async false
set_option linter.all false
set_option maxRecDepth 100000
set_option maxHeartbeats 2000000
/-! Steps and bounds may be compared with `==`. -/
namespace K05
open PySem PySem.Spec PyProof.Rows L2 LW RZ DL
theorem steps_lay : ∀ xs : List Stp, (∀ x ∈ xs, PyData.strOk x.e = true ∧ PyData.strOk x.b = true) → PyData.canLayAll0 (D.pyL (xs.map Stp.D)) = true ∧ PyData.depthAll (D.pyL (xs.map Stp.D)) ≤ 1
  | [], _ => ⟨rfl, by decide⟩
  | x :: xs, h => by
    obtain ⟨h1, h2⟩ := steps_lay xs fun y m => h y (List.mem_cons_of_mem _ m)
    obtain ⟨a, b⟩ := h x List.mem_cons_self
    rw [List.map_cons, D.pyL, step_py]
    obtain ⟨e, bb, l, m, d⟩ := x
    dsimp only at a b
    cases d <;> simp [PyData.canLayAll0, PyData.canLay0, PyData.depthAll, PyData.depth, pyDel, h1, h2, a, b]
theorem steps_cmp {xs : List Stp} (h : ∀ x ∈ xs, PyData.strOk x.e = true ∧ PyData.strOk x.b = true) : D.cmp (.tup (xs.map Stp.D)) = true := by
  obtain ⟨h1, h2⟩ := steps_lay xs h
  have f := flat_steps xs
  have e : D.py (.tup (xs.map Stp.D)) = .tuple (D.pyL (xs.map Stp.D)) := rfl
  unfold D.cmp SeqAt.shaped
  rw [e]
  simp [D.flat, f, PyData.canLay0, PyData.depth, h1]
  try omega
theorem bounds_lay : ∀ xs : List Bnd, (∀ x ∈ xs, PyData.strOk x.a = true ∧ PyData.strOk x.b = true) → PyData.canLayAll0 (D.pyL (xs.map Bnd.D)) = true ∧ PyData.depthAll (D.pyL (xs.map Bnd.D)) ≤ 1
  | [], _ => ⟨rfl, by decide⟩
  | x :: xs, h => by
    obtain ⟨h1, h2⟩ := bounds_lay xs fun y m => h y (List.mem_cons_of_mem _ m)
    obtain ⟨a, b⟩ := h x List.mem_cons_self
    rw [List.map_cons, D.pyL, bound_py]
    obtain ⟨e, bb, m⟩ := x
    dsimp only at a b
    simp [PyData.canLayAll0, PyData.canLay0, PyData.depthAll, PyData.depth, h1, h2, a, b]
theorem bounds_cmp {xs : List Bnd} (h : ∀ x ∈ xs, PyData.strOk x.a = true ∧ PyData.strOk x.b = true) : D.cmp (.tup (xs.map Bnd.D)) = true := by
  obtain ⟨h1, h2⟩ := bounds_lay xs h
  have f := flat_bounds xs
  have e : D.py (.tup (xs.map Bnd.D)) = .tuple (D.pyL (xs.map Bnd.D)) := rfl
  unfold D.cmp SeqAt.shaped
  rw [e]
  simp [D.flat, f, PyData.canLay0, PyData.depth, h1]
  try omega
end K05

set_option Elab.async false
set_option linter.all false
set_option maxRecDepth 100000
set_option maxHeartbeats 2000000
namespace K05
open PySem PySem.Spec PyProof.Rows L2 LW RZ DL
theorem ife {c : Prop} [Decidable c] {a b : Prop} (h1 : a) (h2 : b) : if c then a else b := by
  split
  · exact h1
  · exact h2
theorem okParts.ec {es : List Str} {xs : List Stp} {bs : List Bnd} (h : okParts es xs bs) : D.cmp (.tup ((sortE es).map DL.D.str)) = true :=
  strs_cmp fun e m => name_ok (h.n e ((sortE_perm es).mem_iff.mp m))
theorem okParts.sc {es : List Str} {xs : List Stp} {bs : List Bnd} (h : okParts es xs bs) : D.cmp (.tup ((sortS xs).map Stp.D)) = true :=
  steps_cmp fun x m => ⟨name_ok (h.x x ((sortS_perm xs).mem_iff.mp m)).e1, h.begins x ((sortS_perm xs).mem_iff.mp m)⟩
theorem okParts.bc {es : List Str} {xs : List Stp} {bs : List Bnd} (h : okParts es xs bs) : D.cmp (.tup ((sortB bs).map Bnd.D)) = true :=
  bounds_cmp fun x m => ⟨h.pts _ (h.b x ((sortB_perm bs).mem_iff.mp m)).a1, h.pts _ (h.b x ((sortB_perm bs).mem_iff.mp m)).b1⟩
theorem ifv {c : Prop} [Decidable c] {x y : Bool} {R : Bool → Prop} {a b : Prop} (q : R (if c then x else y)) (h1 : R x → a) (h2 : R y → b) : if c then a else b := by
  split
  · rename_i z
    rw [if_pos z] at q
    exact h1 q
  · rename_i z
    rw [if_neg z] at q
    exact h2 q
/-- when two plans are equal -/
def eqPlan (h : Int) (es : List Str) (xs : List Stp) (bs : List Bnd) (h' : Int) (es' : List Str) (xs' : List Stp) (bs' : List Bnd) : Bool :=
  if (!eqD (.int h) (.int h')) = true then false
  else if (!eqD (.tup ((sortE es).map DL.D.str)) (.tup ((sortE es').map DL.D.str))) = true then false
  else if eqD (.tup ((sortS xs).map Stp.D)) (.tup ((sortS xs').map Stp.D)) = true then eqD (.tup ((sortB bs).map Bnd.D)) (.tup ((sortB bs').map Bnd.D))
  else false
section
variable {P : Program} {w : World} {K : PySem.W.Frag} {mg : Str → Option Value} {base : Heap} {tk : Tok} {CP : Addr} {f : Addr} {fd : FuncData}
theorem sc_Plan___eq__ : FnScope ["self", "other"] ["self", "other"] (defScope (mtop 28 26)) := ⟨rfl, rfl, rfl, by decide +kernel, rfl, by decide +kernel, by decide +kernel⟩
abbrev gEqP (CP : Addr) : SpD := fun ds Q _ => ∃ h es xs bs o, ds = [planD CP h es xs bs, o] ∧ ((∃ h' es' xs' bs', o = planD CP h' es' xs' bs' ∧ okParts es xs bs ∧ okParts es' xs' bs' ∧ Q (.bl (eqPlan h es xs bs h' es' xs' bs'))) ∨ ((∀ C fs, o ≠ .obj C fs) ∧ o ≠ .stm ∧ (∀ ns, o ≠ .scr ns) ∧ Q (.bl false)))
theorem ok_eq (T : Bl mg) (co : ClsOk K CP) (co_g : mg "Plan" = some (.ref CP)) (n__bounds : NoAttr K CP "_bounds") (n__events : NoAttr K CP "_events") (n__horizon : NoAttr K CP "_horizon") (n__steps : NoAttr K CP "_steps") (P_bounds : Prt P w K mg base CP "bounds" "_bounds") (P_events : Prt P w K mg base CP "events" "_events") (P_horizon : Prt P w K mg base CP "horizon" "_horizon") (P_steps : Prt P w K mg base CP "steps" "_steps") (F : Fun K "__eq__" "Plan.__eq__" (mtop 28 26) f fd) :
    FnD P w K mg base 3 f fd ["self", "other"] (gEqP CP) := by
  refine okD F sc_Plan___eq__ (by decide) (by rintro ds Q De ⟨h, es, xs, bs, o, rfl, _⟩; rfl) fun cdv A outer s H E De hgd hr => ⟨_, (dss_cons (ds_if (DW.dt (dw_or (dt_not (dt_val (de_isiO co (by rfl) T.«isinstance» (by rfl) co_g (dv 1)))) (dw_or (dt_cmp (op_neA hr.units) l_ne (de_fld n__horizon (dv 0)) (de_prop P_horizon hr (by decide) (dv 1)) (nomark _)) (dw_or1 (dt_cmp (op_neA hr.units) l_ne (de_fld n__events (dv 0)) (de_prop P_events hr (by decide) (dv 1)) (nomark _))))))
        (dss_one (ds_ret de_bl))
        dss_nil)
      (dss_one (ds_ret (de_and (de_cmp (op_eqA hr.units) l_eq (de_fld n__steps (dv 0)) (de_prop P_steps hr (by decide) (dv 1)) (nomark _)) (de_one (de_cmp (op_eqA hr.units) l_eq (de_fld n__bounds (dv 0)) (de_prop P_bounds hr (by decide) (dv 1)) (nomark _))))))), ?_⟩
  rintro ds Dq ⟨h, es, xs, bs, o, rfl, ⟨h', es', xs', bs', rfl, ok, ok', q⟩ | ⟨no, no2, no3, q⟩⟩
  · rw [show startD ["self", "other"] [planD CP h es xs bs, planD CP h' es' xs' bs'] = [.dat (planD CP h es xs bs), .dat (planD CP h' es' xs' bs')] from rfl]
    dsimp only [DL.dAnd, DL.dAndV, DL.dAny, DL.dAppend, DL.dAsg, DL.dB, DL.dBreak, DL.dC, DL.dCall, DL.dChain, DL.dCons, DL.dConsA, DL.dCont, DL.dDrop, DL.dEnumL, DL.dEnumT, DL.dFld, DL.dFldO, DL.dFldSet, DL.dFmt, DL.dFn, DL.dFor, DL.dFresh, DL.dGet1, DL.dGet2, DL.dIfE, DL.dIfS, DL.dInK, DL.dIsi, DL.dIsiO, DL.dJoin, DL.dKeys, DL.dLenSc, DL.dLenSet, DL.dLenSk, DL.dLock, DL.dLockS, DL.dMth, DL.dNeg, DL.dNever, DL.dNext, DL.dNil, DL.dNilA, DL.dNone, DL.dNot, DL.dNotV, DL.dOp, DL.dOr, DL.dOrV, DL.dPar, DL.dPut, DL.dRet, DL.dRetN, DL.dRng1, DL.dRng2, DL.dSeq, DL.dSet, DL.dSetO, DL.dSl, DL.dSome, DL.dTruth, DL.dTup, DL.dVar, DL.dView, DL.dViewT, DL.dYes, DL.dZip, DL.fDc, DL.fDictP, DL.fDictPT, DL.fDisp, DL.fLc, DL.fListT, DL.fLock, DL.fLst, DL.fMake, DL.fMakeK, DL.fMakeL, DL.fNew, DL.gAdd, DL.gBools, DL.gCmp, DL.gConsD, DL.gDin, DL.gEq, DL.gEqO, DL.gGe, DL.gGet, DL.gGt, DL.gI, DL.gIb, DL.gIc, DL.gIn, DL.gInO, DL.gInt, DL.gIsN, DL.gIx, DL.gLe, DL.gLen, DL.gLenO, DL.gLt, DL.gNameD, DL.gNe, DL.gNilD, DL.gNotN, DL.gRepr, DL.gSl, DL.gSorted, DL.gStrI, DL.gStrO, DL.gStrS, DL.gSum, DL.gTupD, DL.gTuple, DL.jCons, DL.jNil, DL.pCons, DL.pNil, startD, isiB, List.map_cons, List.map_nil, List.cons_append, List.nil_append, List.length_cons, List.length_nil, List.set_cons_zero, List.set_cons_succ, List.getElem?_cons_zero, List.getElem?_cons_succ, List.replicate]
    exact .inl ⟨rfl, ifn (by decide) ⟨rfl, _, rfl, rfl, _, rfl, int_cmp _, int_cmp _, ifv (R := fun b => Dq (.bl b)) q (fun q => q) fun q => ⟨rfl, _, rfl, rfl, _, rfl, ok.ec, ok'.ec, ifv (R := fun b => Dq (.bl b)) q (fun q => q) fun q => ⟨rfl, _, rfl, rfl, _, rfl, ok.sc, ok'.sc, ifv (R := fun b => Dq (.bl b)) q (fun q => ⟨rfl, _, rfl, rfl, _, rfl, ok.bc, ok'.bc, q⟩) fun q => q⟩⟩⟩⟩
  · rw [show startD ["self", "other"] [planD CP h es xs bs, o] = [.dat (planD CP h es xs bs), .dat o] from rfl]
    dsimp only [DL.dAnd, DL.dAndV, DL.dAny, DL.dAppend, DL.dAsg, DL.dB, DL.dBreak, DL.dC, DL.dCall, DL.dChain, DL.dCons, DL.dConsA, DL.dCont, DL.dDrop, DL.dEnumL, DL.dEnumT, DL.dFld, DL.dFldO, DL.dFldSet, DL.dFmt, DL.dFn, DL.dFor, DL.dFresh, DL.dGet1, DL.dGet2, DL.dIfE, DL.dIfS, DL.dInK, DL.dIsi, DL.dIsiO, DL.dJoin, DL.dKeys, DL.dLenSc, DL.dLenSet, DL.dLenSk, DL.dLock, DL.dLockS, DL.dMth, DL.dNeg, DL.dNever, DL.dNext, DL.dNil, DL.dNilA, DL.dNone, DL.dNot, DL.dNotV, DL.dOp, DL.dOr, DL.dOrV, DL.dPar, DL.dPut, DL.dRet, DL.dRetN, DL.dRng1, DL.dRng2, DL.dSeq, DL.dSet, DL.dSetO, DL.dSl, DL.dSome, DL.dTruth, DL.dTup, DL.dVar, DL.dView, DL.dViewT, DL.dYes, DL.dZip, DL.fDc, DL.fDictP, DL.fDictPT, DL.fDisp, DL.fLc, DL.fListT, DL.fLock, DL.fLst, DL.fMake, DL.fMakeK, DL.fMakeL, DL.fNew, DL.gAdd, DL.gBools, DL.gCmp, DL.gConsD, DL.gDin, DL.gEq, DL.gEqO, DL.gGe, DL.gGet, DL.gGt, DL.gI, DL.gIb, DL.gIc, DL.gIn, DL.gInO, DL.gInt, DL.gIsN, DL.gIx, DL.gLe, DL.gLen, DL.gLenO, DL.gLt, DL.gNameD, DL.gNe, DL.gNilD, DL.gNotN, DL.gRepr, DL.gSl, DL.gSorted, DL.gStrI, DL.gStrO, DL.gStrS, DL.gSum, DL.gTupD, DL.gTuple, DL.jCons, DL.jNil, DL.pCons, DL.pNil, startD, isiB, List.map_cons, List.map_nil, List.cons_append, List.nil_append, List.length_cons, List.length_nil, List.set_cons_zero, List.set_cons_succ, List.getElem?_cons_zero, List.getElem?_cons_succ, List.replicate]
    cases o with
    | obj C fs => exact absurd rfl (no C fs)
    | stm => exact absurd rfl no2
    | scr ns => exact absurd rfl (no3 ns)
    | _ => exact ifp (by decide) (ifp (by decide) q)
end
end K05

set_option Elab.async false
set_option linter.all false
set_option maxRecDepth 100000
set_option maxHeartbeats 2000000
namespace K05
open PySem PySem.Spec PyProof.Rows L2 LW RZ DL
section
variable {P : Program} {w : World} {K : PySem.W.Frag} {mg : Str → Option Value} {base : Heap} {tk : Tok} {CP : Addr}
def bag : List Str := ["a", "aa", "ab", "aba", "b", "ba", "c", "ca", "d", "done", "e", "end", "go", "m", "s", "st", "starts", "x", "xx", "zzzzzzzz"]
theorem bag_ok : ∀ s ∈ bag, okName s ∧ s ≠ start := by
  unfold okName okSign
  decide +kernel
theorem bag_nodup : bag.Nodup := by decide +kernel
theorem strs_of {ys : List DL.D} {ss : List Str} (h : ys.Perm (ss.map DL.D.str)) : ∃ zs : List Str, ys = zs.map DL.D.str ∧ zs.Perm ss := by
  refine ⟨ys.map fun d => match d with | .str s => s | _ => start, ?_, ?_⟩
  · rw [List.map_map]
    conv => lhs; rw [← List.map_id ys]
    refine List.map_congr_left fun d m => ?_
    obtain ⟨s, _, rfl⟩ := List.mem_map.mp (h.mem_iff.mp m)
    rfl
  · have p := h.map fun d => match d with | .str s => s | _ => start
    rw [List.map_map] at p
    have e : ss.map ((fun d => match d with | .str s => s | _ => start) ∘ DL.D.str) = ss := by
      conv => rhs; rw [← List.map_id ss]
      exact List.map_congr_left fun s _ => rfl
    rw [e] at p
    exact p
abbrev gMixed : SpD := fun ds Q _ => ∃ xs : List D, (ds = [.stm, .tup xs] ∨ ∃ n, ds = [.stm, .lst n xs]) ∧ xs.length ≤ 1000 ∧ ∀ ys : List D, ys.Perm xs → Q (.lst false ys)
theorem sc__law_names : FnScope ["stream", "total", "some"] ["stream", "total"] (defScope (top 36)) := ⟨rfl, rfl, rfl, by decide +kernel, rfl, by decide +kernel, by decide +kernel⟩
theorem ok_law_names (T : Bl mg) (C__law_mixed : Cal P w K mg base "_law_mixed" 2 ["stream", "items"] gMixed) (F : Dfn K mg "_law_names" "_law_names" (top 36) ["stream", "total"]) :
    Cal P w K mg base "_law_names" 3 ["stream", "total"] (fun ds Q _ => ∃ n : Nat, ds = [.stm, .int n] ∧ n ≤ 20 ∧ ∀ ns : List Str, ns.Nodup → (∀ s ∈ ns, s ∈ bag) → ns.length = n → Q (.lst false (ns.map DL.D.str))) := by
  refine okC F sc__law_names (by decide) (by rintro ds Q De ⟨n, rfl, _⟩; rfl) fun f cdv A outer s H E De hgd hr => ⟨_, (dss_cons (ds_set (i := 2) sc__law_names.nd rfl (.inl rfl) (de_fresh (df_lst (da_cons de_str (da_cons de_str (da_cons de_str (da_cons de_str (da_cons de_str (da_cons de_str (da_cons de_str (da_cons de_str (da_cons de_str (da_cons de_str (da_cons de_str (da_cons de_str (da_cons de_str (da_cons de_str (da_cons de_str (da_cons de_str (da_cons de_str da_nil))))))))))))))))))))
      (dss_one (ds_ret (de_sl (de_cal C__law_mixed hgd hr (by decide) (by rfl) (passes_call (takes_of rfl rfl rfl rfl) fun _ _ _ _ h => h) (da_cons (dv 0) (da_cons (de_op (op_addA) l_add (dv 2) (de_fresh (df_lst (da_cons de_str (da_cons de_str (da_cons de_str da_nil)))))) da_nil))) do_none (do_some (dv 1)))))), ?_⟩
  rintro ds Dq ⟨n, rfl, n2, q⟩
  rw [show startD ["stream", "total", "some"] [.stm, .int n] = [.dat .stm, .dat (.int n), .un] from rfl]
  dsimp only [DL.dAnd, DL.dAndV, DL.dAny, DL.dAppend, DL.dAsg, DL.dB, DL.dBreak, DL.dC, DL.dCall, DL.dChain, DL.dCons, DL.dConsA, DL.dCont, DL.dDrop, DL.dEnumL, DL.dEnumT, DL.dFld, DL.dFldO, DL.dFldSet, DL.dFmt, DL.dFn, DL.dFor, DL.dFresh, DL.dGet1, DL.dGet2, DL.dIfE, DL.dIfS, DL.dInK, DL.dIsi, DL.dIsiO, DL.dJoin, DL.dKeys, DL.dLenSc, DL.dLenSet, DL.dLenSk, DL.dLock, DL.dLockS, DL.dMth, DL.dNeg, DL.dNever, DL.dNext, DL.dNil, DL.dNilA, DL.dNone, DL.dNot, DL.dNotV, DL.dOp, DL.dOr, DL.dOrV, DL.dPar, DL.dPut, DL.dRet, DL.dRetN, DL.dRng1, DL.dRng2, DL.dSeq, DL.dSet, DL.dSetO, DL.dSl, DL.dSome, DL.dTruth, DL.dTup, DL.dVar, DL.dView, DL.dViewT, DL.dYes, DL.dZip, DL.fDc, DL.fDictP, DL.fDictPT, DL.fDisp, DL.fLc, DL.fListT, DL.fLock, DL.fLst, DL.fMake, DL.fMakeK, DL.fMakeL, DL.fNew, DL.gAdd, DL.gBools, DL.gCmp, DL.gConsD, DL.gDin, DL.gEq, DL.gEqO, DL.gGe, DL.gGet, DL.gGt, DL.gI, DL.gIb, DL.gIc, DL.gIn, DL.gInO, DL.gInt, DL.gIsN, DL.gIx, DL.gLe, DL.gLen, DL.gLenO, DL.gLt, DL.gNameD, DL.gNe, DL.gNilD, DL.gNotN, DL.gRepr, DL.gSl, DL.gSorted, DL.gStrI, DL.gStrO, DL.gStrS, DL.gSum, DL.gTupD, DL.gTuple, DL.jCons, DL.jNil, DL.pCons, DL.pNil, startD, isiB, List.map_cons, List.map_nil, List.cons_append, List.nil_append, List.length_cons, List.length_nil, List.set_cons_zero, List.set_cons_succ, List.getElem?_cons_zero, List.getElem?_cons_succ, List.replicate]
  have sL : (100 : Nat) ≤ sizeLine := by decide
  refine ⟨by omega, by omega, ?_, bag.map DL.D.str, .inr ⟨false, rfl⟩, by decide, fun ys p => ?_⟩
  · exact Nat.le_trans (by decide) sL
  · obtain ⟨zs, rfl, pz⟩ := strs_of p
    have lz : zs.length = 20 := pz.length_eq
    have e : DL.cutD (zs.map DL.D.str) none (some (n : Int)) = (zs.take n).map DL.D.str := by
      rw [List.map_take]
      unfold DL.cutD HT.sIx
      simp
      rw [if_neg (by omega)]
      omega
    have sub : (zs.take n).Sublist zs := List.take_sublist _ _
    have q' := q (zs.take n) ((pz.nodup_iff.mpr bag_nodup).sublist sub) (fun s m => pz.mem_iff.mp (sub.subset m)) (by rw [List.length_take, lz]; omega)
    rw [← e] at q'
    exact q'
end
end K05

set_option Elab.async false
set_option linter.all false
set_option maxRecDepth 100000
set_option maxHeartbeats 2000000
namespace K05
open PySem PySem.Spec PyProof.Rows L2 LW RZ DL
theorem at_in {α : Type} {xs : List α} {k : Int} (h0 : 0 ≤ k) (h1 : k < xs.length) : ∃ x, atI xs k = some x ∧ x ∈ xs := by
  have h : k.toNat < xs.length := by omega
  refine ⟨xs[k.toNat], ?_, List.getElem_mem h⟩
  have e : L2.ixN xs.length k = some k.toNat := by
    unfold L2.ixN
    rw [if_pos h0, if_pos h1]
  unfold L2.atI
  rw [e]
  exact List.getElem?_eq_getElem h
section
variable {P : Program} {w : World} {K : PySem.W.Frag} {mg : Str → Option Value} {base : Heap} {tk : Tok} {CP : Addr}
abbrev gDraw : SpD := fun ds Q _ => ∃ n : Int, ds = [.stm, .int n] ∧ 0 < n ∧ n < 1000000 ∧ ∀ k : Int, 0 ≤ k → k < n → Q (.int k)
abbrev gPick : SpD := fun ds Q _ => ∃ xs : List D, (ds = [.stm, .tup xs] ∨ ∃ n, ds = [.stm, .lst n xs]) ∧ 0 < xs.length ∧ xs.length < 1000000 ∧ ∀ x ∈ xs, Q x
theorem sc__law_pick : FnScope ["stream", "items"] ["stream", "items"] (defScope (top 34)) := ⟨rfl, rfl, rfl, by decide +kernel, rfl, by decide +kernel, by decide +kernel⟩
theorem ok_law_pick (T : Bl mg) (C__law_draw : Cal P w K mg base "_law_draw" 1 ["stream", "total"] gDraw) (F : Dfn K mg "_law_pick" "_law_pick" (top 34) ["stream", "items"]) :
    Cal P w K mg base "_law_pick" 2 ["stream", "items"] gPick := by
  refine okC F sc__law_pick (by decide) (by rintro ds Q De ⟨xs, h | ⟨n, h⟩, _⟩ <;> rw [h] <;> rfl) fun f cdv A outer s H E De hgd hr => ⟨_, (dss_one (ds_ret (de_ix (dv 1) (de_cal C__law_draw hgd hr (by decide) (by rfl) (passes_call (takes_of rfl rfl rfl rfl) fun _ _ _ _ h => h) (da_cons (dv 0) (da_cons (de_callB (call_lenA) l_len (by rfl) T.«len» (by decide +kernel) (da_cons (dv 1) da_nil)) da_nil))) (fun _ _ => rfl)))), ?_⟩
  rintro ds Dq ⟨xs, h, l1, l2, q⟩
  rcases h with rfl | ⟨n, rfl⟩
  · rw [show startD ["stream", "items"] [.stm, .tup xs] = [.dat .stm, .dat (.tup xs)] from rfl]
    dsimp only [DL.dAnd, DL.dAndV, DL.dAny, DL.dAppend, DL.dAsg, DL.dB, DL.dBreak, DL.dC, DL.dCall, DL.dChain, DL.dCons, DL.dConsA, DL.dCont, DL.dDrop, DL.dEnumL, DL.dEnumT, DL.dFld, DL.dFldO, DL.dFldSet, DL.dFmt, DL.dFn, DL.dFor, DL.dFresh, DL.dGet1, DL.dGet2, DL.dIfE, DL.dIfS, DL.dInK, DL.dIsi, DL.dIsiO, DL.dJoin, DL.dKeys, DL.dLenSc, DL.dLenSet, DL.dLenSk, DL.dLock, DL.dLockS, DL.dMth, DL.dNeg, DL.dNever, DL.dNext, DL.dNil, DL.dNilA, DL.dNone, DL.dNot, DL.dNotV, DL.dOp, DL.dOr, DL.dOrV, DL.dPar, DL.dPut, DL.dRet, DL.dRetN, DL.dRng1, DL.dRng2, DL.dSeq, DL.dSet, DL.dSetO, DL.dSl, DL.dSome, DL.dTruth, DL.dTup, DL.dVar, DL.dView, DL.dViewT, DL.dYes, DL.dZip, DL.fDc, DL.fDictP, DL.fDictPT, DL.fDisp, DL.fLc, DL.fListT, DL.fLock, DL.fLst, DL.fMake, DL.fMakeK, DL.fMakeL, DL.fNew, DL.gAdd, DL.gBools, DL.gCmp, DL.gConsD, DL.gDin, DL.gEq, DL.gEqO, DL.gGe, DL.gGet, DL.gGt, DL.gI, DL.gIb, DL.gIc, DL.gIn, DL.gInO, DL.gInt, DL.gIsN, DL.gIx, DL.gLe, DL.gLen, DL.gLenO, DL.gLt, DL.gNameD, DL.gNe, DL.gNilD, DL.gNotN, DL.gRepr, DL.gSl, DL.gSorted, DL.gStrI, DL.gStrO, DL.gStrS, DL.gSum, DL.gTupD, DL.gTuple, DL.jCons, DL.jNil, DL.pCons, DL.pNil, startD, isiB, List.map_cons, List.map_nil, List.cons_append, List.nil_append, List.length_cons, List.length_nil, List.set_cons_zero, List.set_cons_succ, List.getElem?_cons_zero, List.getElem?_cons_succ, List.replicate]
    refine ⟨xs.length, rfl, by omega, by omega, fun k k0 k1 => ?_⟩
    obtain ⟨d, e, m⟩ := at_in k0 k1
    show (match atI xs k with | some d => Dq d | none => False)
    rw [e]
    exact q d m
  · rw [show startD ["stream", "items"] [.stm, .lst n xs] = [.dat .stm, .dat (.lst n xs)] from rfl]
    dsimp only [DL.dAnd, DL.dAndV, DL.dAny, DL.dAppend, DL.dAsg, DL.dB, DL.dBreak, DL.dC, DL.dCall, DL.dChain, DL.dCons, DL.dConsA, DL.dCont, DL.dDrop, DL.dEnumL, DL.dEnumT, DL.dFld, DL.dFldO, DL.dFldSet, DL.dFmt, DL.dFn, DL.dFor, DL.dFresh, DL.dGet1, DL.dGet2, DL.dIfE, DL.dIfS, DL.dInK, DL.dIsi, DL.dIsiO, DL.dJoin, DL.dKeys, DL.dLenSc, DL.dLenSet, DL.dLenSk, DL.dLock, DL.dLockS, DL.dMth, DL.dNeg, DL.dNever, DL.dNext, DL.dNil, DL.dNilA, DL.dNone, DL.dNot, DL.dNotV, DL.dOp, DL.dOr, DL.dOrV, DL.dPar, DL.dPut, DL.dRet, DL.dRetN, DL.dRng1, DL.dRng2, DL.dSeq, DL.dSet, DL.dSetO, DL.dSl, DL.dSome, DL.dTruth, DL.dTup, DL.dVar, DL.dView, DL.dViewT, DL.dYes, DL.dZip, DL.fDc, DL.fDictP, DL.fDictPT, DL.fDisp, DL.fLc, DL.fListT, DL.fLock, DL.fLst, DL.fMake, DL.fMakeK, DL.fMakeL, DL.fNew, DL.gAdd, DL.gBools, DL.gCmp, DL.gConsD, DL.gDin, DL.gEq, DL.gEqO, DL.gGe, DL.gGet, DL.gGt, DL.gI, DL.gIb, DL.gIc, DL.gIn, DL.gInO, DL.gInt, DL.gIsN, DL.gIx, DL.gLe, DL.gLen, DL.gLenO, DL.gLt, DL.gNameD, DL.gNe, DL.gNilD, DL.gNotN, DL.gRepr, DL.gSl, DL.gSorted, DL.gStrI, DL.gStrO, DL.gStrS, DL.gSum, DL.gTupD, DL.gTuple, DL.jCons, DL.jNil, DL.pCons, DL.pNil, startD, isiB, List.map_cons, List.map_nil, List.cons_append, List.nil_append, List.length_cons, List.length_nil, List.set_cons_zero, List.set_cons_succ, List.getElem?_cons_zero, List.getElem?_cons_succ, List.replicate]
    refine ⟨xs.length, rfl, by omega, by omega, fun k k0 k1 => ?_⟩
    obtain ⟨d, e, m⟩ := at_in k0 k1
    show (match atI xs k with | some d => Dq d | none => False)
    rw [e]
    exact q d m
end
end K05

set_option Elab.async false
set_option linter.all false
set_option maxRecDepth 100000
set_option maxHeartbeats 2000000
namespace K05
open PySem PySem.Spec PyProof.Rows L2 LW RZ DL
section
variable {P : Program} {w : World} {K : PySem.W.Frag} {mg : Str → Option Value} {base : Heap} {tk : Tok} {CP : Addr}
/-- a step as the law draws it -/
structure drStp (e : Str) (es : List Str) (x : Stp) : Prop where
  e1 : x.e = e
  b1 : x.b = start ∨ x.b ∈ es
  l1 : 1 ≤ x.l
  l2 : x.l ≤ x.m
  m2 : x.m ≤ 99
  d1 : okDel x.d
abbrev gStep : SpD := fun ds Q _ => ∃ (e : Str) (es : List Str) (sp : Int), ds = [.stm, .str e, .tup (es.map DL.D.str), .int sp] ∧ es.length ≤ 100 ∧ 1 ≤ sp ∧ sp ≤ 40 ∧ ∀ x, drStp e es x → Q x.D
theorem sc__law_step : FnScope ["stream", "end", "doing", "span", "begin", "least", "late"] ["stream", "end", "doing", "span"] (defScope (top 37)) := ⟨rfl, rfl, rfl, by decide +kernel, rfl, by decide +kernel, by decide +kernel⟩
theorem ok_law_step (T : Bl mg) (C__law_draw : Cal P w K mg base "_law_draw" 1 ["stream", "total"] gDraw) (C__law_pick : Cal P w K mg base "_law_pick" 2 ["stream", "items"] gPick) (F : Dfn K mg "_law_step" "_law_step" (top 37) ["stream", "end", "doing", "span"]) :
    Cal P w K mg base "_law_step" 3 ["stream", "end", "doing", "span"] gStep := by
  refine okC F sc__law_step (by decide) (by rintro ds Q De ⟨e, es, sp, rfl, _⟩; rfl) fun f cdv A outer s H E De hgd hr => ⟨_, (dss_cons (ds_set (i := 4) sc__law_step.nd rfl (.inl rfl) (de_cal C__law_pick hgd hr (by decide) (by rfl) (passes_call (takes_of rfl rfl rfl rfl) fun _ _ _ _ h => h) (da_cons (dv 0) (da_cons (de_op (op_addA) l_add (de_op (op_addA) l_add (de_tup (da_cons de_str da_nil)) (dv 2)) (dv 2)) da_nil))))
      (dss_cons (ds_set (i := 5) sc__law_step.nd rfl (.inl rfl) (de_op (op_addA) l_add de_int (de_cal C__law_draw hgd hr (by decide) (by rfl) (passes_call (takes_of rfl rfl rfl rfl) fun _ _ _ _ h => h) (da_cons (dv 0) (da_cons (de_cal C__law_pick hgd hr (by decide) (by rfl) (passes_call (takes_of rfl rfl rfl rfl) fun _ _ _ _ h => h) (da_cons (dv 0) (da_cons (de_fresh (df_lst (da_cons de_int (da_cons de_int (da_cons de_int (da_cons (dv 3) da_nil)))))) da_nil))) da_nil)))))
      (dss_cons (ds_set (i := 6) sc__law_step.nd rfl (.inl rfl) (de_cal C__law_pick hgd hr (by decide) (by rfl) (passes_call (takes_of rfl rfl rfl rfl) fun _ _ _ _ h => h) (da_cons (dv 0) (da_cons (de_fresh (df_lst (da_cons de_int (da_cons de_int (da_cons de_int (da_cons de_int (da_cons de_int (da_cons de_int (da_cons (dv 3) (da_cons de_non (da_cons de_non da_nil))))))))))) da_nil))))
      (dss_one (ds_ret (de_tup (da_cons (dv 1) (da_cons (dv 4) (da_cons (dv 5) (da_cons (de_op (op_addA) l_add (dv 5) (de_cal C__law_draw hgd hr (by decide) (by rfl) (passes_call (takes_of rfl rfl rfl rfl) fun _ _ _ _ h => h) (da_cons (dv 0) (da_cons (dv 3) da_nil)))) (da_cons (dv 6) da_nil))))))))))), ?_⟩
  rintro ds Dq ⟨e, es, sp, rfl, l1, s1, s2, q⟩
  rw [show startD ["stream", "end", "doing", "span", "begin", "least", "late"] [.stm, .str e, .tup (es.map DL.D.str), .int sp] = [.dat .stm, .dat (.str e), .dat (.tup (es.map DL.D.str)), .dat (.int sp), .un, .un, .un] from rfl]
  dsimp only [DL.dAnd, DL.dAndV, DL.dAny, DL.dAppend, DL.dAsg, DL.dB, DL.dBreak, DL.dC, DL.dCall, DL.dChain, DL.dCons, DL.dConsA, DL.dCont, DL.dDrop, DL.dEnumL, DL.dEnumT, DL.dFld, DL.dFldO, DL.dFldSet, DL.dFmt, DL.dFn, DL.dFor, DL.dFresh, DL.dGet1, DL.dGet2, DL.dIfE, DL.dIfS, DL.dInK, DL.dIsi, DL.dIsiO, DL.dJoin, DL.dKeys, DL.dLenSc, DL.dLenSet, DL.dLenSk, DL.dLock, DL.dLockS, DL.dMth, DL.dNeg, DL.dNever, DL.dNext, DL.dNil, DL.dNilA, DL.dNone, DL.dNot, DL.dNotV, DL.dOp, DL.dOr, DL.dOrV, DL.dPar, DL.dPut, DL.dRet, DL.dRetN, DL.dRng1, DL.dRng2, DL.dSeq, DL.dSet, DL.dSetO, DL.dSl, DL.dSome, DL.dTruth, DL.dTup, DL.dVar, DL.dView, DL.dViewT, DL.dYes, DL.dZip, DL.fDc, DL.fDictP, DL.fDictPT, DL.fDisp, DL.fLc, DL.fListT, DL.fLock, DL.fLst, DL.fMake, DL.fMakeK, DL.fMakeL, DL.fNew, DL.gAdd, DL.gBools, DL.gCmp, DL.gConsD, DL.gDin, DL.gEq, DL.gEqO, DL.gGe, DL.gGet, DL.gGt, DL.gI, DL.gIb, DL.gIc, DL.gIn, DL.gInO, DL.gInt, DL.gIsN, DL.gIx, DL.gLe, DL.gLen, DL.gLenO, DL.gLt, DL.gNameD, DL.gNe, DL.gNilD, DL.gNotN, DL.gRepr, DL.gSl, DL.gSorted, DL.gStrI, DL.gStrO, DL.gStrS, DL.gSum, DL.gTupD, DL.gTuple, DL.jCons, DL.jNil, DL.pCons, DL.pNil, startD, isiB, List.map_cons, List.map_nil, List.cons_append, List.nil_append, List.length_cons, List.length_nil, List.set_cons_zero, List.set_cons_succ, List.getElem?_cons_zero, List.getElem?_cons_succ, List.replicate]
  have sL : (1000 : Nat) ≤ sizeLine := by decide
  refine ⟨by omega, by rw [List.length_map]; omega, by rw [List.length_map]; omega, _, .inl rfl, Nat.succ_pos _, by rw [List.length_cons, List.length_append, List.length_map]; omega, fun d md => ?_⟩
  have hb : ∃ b : Str, d = .str b ∧ (b = start ∨ b ∈ es) := by
    rcases List.mem_cons.mp md with rfl | m
    · exact ⟨_, rfl, .inl rfl⟩
    · rcases List.mem_append.mp m with m | m <;> (obtain ⟨b, mb, rfl⟩ := List.mem_map.mp m; exact ⟨b, rfl, .inr mb⟩)
  obtain ⟨b, rfl, hb⟩ := hb
  refine ⟨by omega, _, .inr ⟨true, rfl⟩, by simp, by simp, fun d md => ?_⟩
  have hn : ∃ n : Int, d = .int n ∧ 1 ≤ n ∧ n ≤ 40 := by
    simp only [List.mem_cons, List.mem_nil_iff, or_false] at md
    rcases md with rfl | rfl | rfl | rfl
    · exact ⟨_, rfl, by omega, by omega⟩
    · exact ⟨_, rfl, by omega, by omega⟩
    · exact ⟨_, rfl, by omega, by omega⟩
    · exact ⟨_, rfl, by omega, by omega⟩
  obtain ⟨n, rfl, n1, n2⟩ := hn
  refine ⟨n, rfl, by omega, by omega, fun k k0 k1 => ?_⟩
  dsimp only [DL.dAnd, DL.dAndV, DL.dAny, DL.dAppend, DL.dAsg, DL.dB, DL.dBreak, DL.dC, DL.dCall, DL.dChain, DL.dCons, DL.dConsA, DL.dCont, DL.dDrop, DL.dEnumL, DL.dEnumT, DL.dFld, DL.dFldO, DL.dFldSet, DL.dFmt, DL.dFn, DL.dFor, DL.dFresh, DL.dGet1, DL.dGet2, DL.dIfE, DL.dIfS, DL.dInK, DL.dIsi, DL.dIsiO, DL.dJoin, DL.dKeys, DL.dLenSc, DL.dLenSet, DL.dLenSk, DL.dLock, DL.dLockS, DL.dMth, DL.dNeg, DL.dNever, DL.dNext, DL.dNil, DL.dNilA, DL.dNone, DL.dNot, DL.dNotV, DL.dOp, DL.dOr, DL.dOrV, DL.dPar, DL.dPut, DL.dRet, DL.dRetN, DL.dRng1, DL.dRng2, DL.dSeq, DL.dSet, DL.dSetO, DL.dSl, DL.dSome, DL.dTruth, DL.dTup, DL.dVar, DL.dView, DL.dViewT, DL.dYes, DL.dZip, DL.fDc, DL.fDictP, DL.fDictPT, DL.fDisp, DL.fLc, DL.fListT, DL.fLock, DL.fLst, DL.fMake, DL.fMakeK, DL.fMakeL, DL.fNew, DL.gAdd, DL.gBools, DL.gCmp, DL.gConsD, DL.gDin, DL.gEq, DL.gEqO, DL.gGe, DL.gGet, DL.gGt, DL.gI, DL.gIb, DL.gIc, DL.gIn, DL.gInO, DL.gInt, DL.gIsN, DL.gIx, DL.gLe, DL.gLen, DL.gLenO, DL.gLt, DL.gNameD, DL.gNe, DL.gNilD, DL.gNotN, DL.gRepr, DL.gSl, DL.gSorted, DL.gStrI, DL.gStrO, DL.gStrS, DL.gSum, DL.gTupD, DL.gTuple, DL.jCons, DL.jNil, DL.pCons, DL.pNil, startD, isiB, List.map_cons, List.map_nil, List.cons_append, List.nil_append, List.length_cons, List.length_nil, List.set_cons_zero, List.set_cons_succ, List.getElem?_cons_zero, List.getElem?_cons_succ, List.replicate]
  refine ⟨by omega, _, .inr ⟨true, rfl⟩, by simp, by simp, fun d md => ?_⟩
  have hd : ∃ o : Option Int, d = delD o ∧ okDel o := by
    simp only [List.mem_cons, List.mem_nil_iff, or_false] at md
    rcases md with rfl | rfl | rfl | rfl | rfl | rfl | rfl | rfl | rfl
    any_goals exact ⟨none, rfl, trivial⟩
    · exact ⟨some 0, rfl, by decide, by decide⟩
    · exact ⟨some 0, rfl, by decide, by decide⟩
    · exact ⟨some 0, rfl, by decide, by decide⟩
    · exact ⟨some 1, rfl, by decide, by decide⟩
    · exact ⟨some 1, rfl, by decide, by decide⟩
    · exact ⟨some 2, rfl, by decide, by decide⟩
    · exact ⟨some sp, rfl, by omega, by omega⟩
  obtain ⟨o, rfl, ho⟩ := hd
  refine ⟨sp, rfl, by omega, by omega, fun j j0 j1 => ?_⟩
  refine ⟨by omega, ?_⟩
  exact q ⟨e, b, 1 + k, 1 + k + j, o⟩ ⟨rfl, hb, by show 1 ≤ 1 + k; omega, by show 1 + k ≤ 1 + k + j; omega, by show 1 + k + j ≤ 99; omega, ho⟩
end
end K05

set_option Elab.async false
set_option linter.all false
set_option maxRecDepth 100000
set_option maxHeartbeats 2000000
namespace K05
open PySem PySem.Spec PyProof.Rows L2 LW RZ DL
/-- a loop whose turns are counted -/
theorem for_cnt {g : DTG} {body : DTS} {Dd : DEnds} (Pv : Nat → Env' → Prop) (L : Nat) : ∀ (ds : List D) {n : Nat} {ρ : Env'}, n + ds.length = L → (∀ d ∈ ds, ∀ n ρ, n < L → Pv n ρ → ∀ N : Env' → Prop, (∀ ρ', Pv (n + 1) ρ' → N ρ') → g d ρ fun ρ1 => body { Dd with nx := N, bk := Dd.nx, ct := N } ρ1) → Pv n ρ → (∀ ρ, Pv L ρ → Dd.nx ρ) → forD g body Dd ds ρ
  | [], n, ρ, e, _, p, q => q ρ (e ▸ p)
  | d :: ds, n, ρ, e, h, p, q => by
    show g d ρ fun ρ1 => body { Dd with nx := fun ρ => forD g body Dd ds ρ, bk := Dd.nx, ct := fun ρ => forD g body Dd ds ρ } ρ1
    rw [List.length_cons] at e
    exact h d List.mem_cons_self n ρ (by omega) p _ fun ρ' p' => for_cnt Pv L ds (by omega) (fun e m => h e (List.mem_cons_of_mem _ m)) p' q
theorem rangeD_len (lo : Int) (n : Nat) : (rangeD lo n).length = n := by unfold rangeD; rw [List.length_map, List.length_range]
def kvB (x : Bnd) : D × D := (D.tup [.str x.a, .str x.b], D.int x.m)
theorem key_pair (a b a' b' : Str) : keyEq (.tup [.str a, .str b]) (.tup [.str a', .str b']) = decide (a = a' ∧ b = b') := by
  show (a == a' && (b == b' && true)) = _
  rw [Bool.and_true, Bool.beq_eq_decide_eq, Bool.beq_eq_decide_eq, ← Bool.decide_and]
theorem kB_eq (x y : Bnd) : x.k = y.k ↔ x.a = y.a ∧ x.b = y.b := by
  unfold Bnd.k
  constructor
  · intro h
    injection h with h1 h2
    injection h2 with h2 h3
    injection h1 with h1
    injection h2 with h2
    exact ⟨h1, h2⟩
  · rintro ⟨h1, h2⟩
    rw [h1, h2]
section
open Classical
/-- a bound put in -/
noncomputable def putB (bs : List Bnd) (x : Bnd) : List Bnd := if x.k ∈ bs.map Bnd.k then bs.map (fun y => if y.k = x.k then x else y) else bs ++ [x]
theorem putB_d (bs : List Bnd) (x : Bnd) : putD (bs.map kvB) (.tup [.str x.a, .str x.b]) (.int x.m) = (putB bs x).map kvB := by
  unfold putD putB
  have e : ∀ y : Bnd, keyEq (kvB y).1 (.tup [.str x.a, .str x.b]) = decide (y.k = x.k) := fun y => by
    show keyEq (.tup [.str y.a, .str y.b]) _ = _
    rw [key_pair, decide_eq_decide]
    exact (kB_eq y x).symm
  have h : ((bs.map kvB).any fun p => keyEq p.1 (.tup [.str x.a, .str x.b])) = decide (x.k ∈ bs.map Bnd.k) := by
    rw [List.any_map, Bool.eq_iff_iff, List.any_eq_true, decide_eq_true_eq, List.mem_map]
    constructor
    · rintro ⟨y, my, q⟩
      have q' : keyEq (kvB y).1 (.tup [.str x.a, .str x.b]) = true := q
      rw [e, decide_eq_true_eq] at q'
      exact ⟨y, my, q'⟩
    · rintro ⟨y, my, q⟩
      exact ⟨y, my, by show keyEq (kvB y).1 (.tup [.str x.a, .str x.b]) = true; rw [e, decide_eq_true_eq]; exact q⟩
  rw [h]
  by_cases c : x.k ∈ bs.map Bnd.k
  · rw [if_pos (decide_eq_true c), if_pos c, List.map_map, List.map_map]
    refine List.map_congr_left fun y _ => ?_
    show (if keyEq (kvB y).1 (.tup [.str x.a, .str x.b]) = true then ((kvB y).1, D.int x.m) else kvB y) = kvB (if y.k = x.k then x else y)
    rw [e]
    by_cases z : y.k = x.k
    · rw [if_pos (decide_eq_true z), if_pos z]
      obtain ⟨z1, z2⟩ := (kB_eq y x).mp z
      show (D.tup [.str y.a, .str y.b], D.int x.m) = (D.tup [.str x.a, .str x.b], D.int x.m)
      rw [z1, z2]
    · rw [if_neg (by rw [decide_eq_true_eq]; exact z), if_neg z]
  · rw [if_neg (by rw [decide_eq_true_eq]; exact c), if_neg c, List.map_append]
    rfl
theorem putB_k (bs : List Bnd) (x : Bnd) : (putB bs x).map Bnd.k = if x.k ∈ bs.map Bnd.k then bs.map Bnd.k else bs.map Bnd.k ++ [x.k] := by
  unfold putB
  split
  · rw [List.map_map]
    refine List.map_congr_left fun y _ => ?_
    show (if y.k = x.k then x else y).k = y.k
    split
    · rename_i z; exact z.symm
    · rfl
  · rw [List.map_append]
    rfl
theorem putB_nodup {bs : List Bnd} {x : Bnd} (h : (bs.map Bnd.k).Nodup) : ((putB bs x).map Bnd.k).Nodup := by
  rw [putB_k]
  split
  · exact h
  · rename_i c
    rw [List.nodup_append]
    refine ⟨h, by simp, fun a ma b mb e => ?_⟩
    rw [List.mem_singleton] at mb
    exact c (by rw [← mb, ← e]; exact ma)
theorem putB_len (bs : List Bnd) (x : Bnd) : (putB bs x).length ≤ bs.length + 1 := by
  unfold putB
  split
  · rw [List.length_map]; omega
  · rw [List.length_append]; exact Nat.le_refl _
theorem putB_all {bs : List Bnd} {x : Bnd} {p : Bnd → Prop} (h : ∀ b ∈ bs, p b) (hx : p x) : ∀ b ∈ putB bs x, p b := by
  unfold putB
  split
  · intro b m
    obtain ⟨y, my, rfl⟩ := List.mem_map.mp m
    show p (if y.k = x.k then x else y)
    split
    · exact hx
    · exact h y my
  · intro b m
    rcases List.mem_append.mp m with m | m
    · exact h b m
    · rw [List.mem_singleton.mp m]; exact hx
end
theorem find_kvB {xs : List Bnd} (nd : (xs.map Bnd.k).Nodup) {y : Bnd} (m : y ∈ xs) : findK (xs.map kvB) (.tup [.str y.a, .str y.b]) = some (.int y.m) := find_bound nd y m
/-- the slots while bounds are drawn -/
def PvB (ps : List Str) (sp : Int) (n : Nat) (ρ : Env') : Prop := ∃ (bs : List Bnd) (r4 r5 r6 r7 r8 r9 r10 : Ent), ρ = [.dat .stm, .dat (.tup (ps.map DL.D.str)), .dat (.int sp), .od true (bs.map kvB), r4, r5, r6, r7, r8, r9, r10] ∧ (∀ b ∈ bs, okBnd ps b) ∧ (bs.map Bnd.k).Nodup ∧ bs.length ≤ 2 * n
section
variable {P : Program} {w : World} {K : PySem.W.Frag} {mg : Str → Option Value} {base : Heap} {tk : Tok} {CP : Addr}
abbrev gLBounds : SpD := fun ds Q _ => ∃ (ps : List Str) (sp : Int), ds = [.stm, .tup (ps.map DL.D.str), .int sp] ∧ ps.Nodup ∧ ps.length ≤ 20 ∧ (∀ p ∈ ps, PyData.strOk p = true) ∧ 1 ≤ sp ∧ sp ≤ 40 ∧ ∀ bs : List Bnd, (∀ b ∈ bs, okBnd ps b) → (bs.map Bnd.k).Nodup → bs.length < 64 → Q (.tup ((sortB bs).map Bnd.D))
theorem sc__law_bounds : FnScope ["stream", "points", "span", "found", "turn", "first", "second", "low", "width", "way", "pair"] ["stream", "points", "span"] (defScope (top 38)) := ⟨rfl, rfl, rfl, by decide +kernel, rfl, by decide +kernel, by decide +kernel⟩
theorem ok_law_bounds (T : Bl mg) (C__law_draw : Cal P w K mg base "_law_draw" 1 ["stream", "total"] gDraw) (C__law_mixed : Cal P w K mg base "_law_mixed" 2 ["stream", "items"] gMixed) (F : Dfn K mg "_law_bounds" "_law_bounds" (top 38) ["stream", "points", "span"]) :
    Cal P w K mg base "_law_bounds" 3 ["stream", "points", "span"] gLBounds := by
  refine okC F sc__law_bounds (by decide) (by rintro ds Q De ⟨ps, sp, rfl, _⟩; rfl) fun f cdv A outer s H E De hgd hr => ⟨_, (dss_cons (ds_setO (i := 3) sc__law_bounds.nd rfl (.inr rfl) df_newT)
      (dss_cons (ds_for (passes_of rfl) rfl (di_range1 (by rfl) T.«range» (de_ifExp (dt_cmp op_gtA l_gt (de_callB (call_lenA) l_len (by rfl) T.«len» (by decide +kernel) (da_cons (dv 1) da_nil)) de_int (nomark _)) (de_cal C__law_draw hgd hr (by decide) (by rfl) (passes_call (takes_of rfl rfl rfl rfl) fun _ _ _ _ h => h) (da_cons (dv 0) (da_cons (de_op (op_addA) l_add de_int (de_callB (call_lenA) l_len (by rfl) T.«len» (by decide +kernel) (da_cons (dv 1) da_nil))) da_nil))) de_int)) (dg_name (i := 4) sc__law_bounds.nd rfl (.inl rfl))
        (dss_cons (ds_asg (de_sl (de_cal C__law_mixed hgd hr (by decide) (by rfl) (passes_call (takes_of rfl rfl rfl rfl) fun _ _ _ _ h => h) (da_cons (dv 0) (da_cons (dv 1) da_nil))) do_none (do_some de_int)) (dg_tup (n := 2) rfl (dgs_cons (dg_name (i := 5) sc__law_bounds.nd rfl (.inl rfl)) (dgs_cons (dg_name (i := 6) sc__law_bounds.nd rfl (.inl rfl)) dgs_nil))))
        (dss_cons (ds_par (i := 7) (j := 8) rfl sc__law_bounds.nd rfl rfl (by decide) rfl rfl (de_op op_sub l_I0 (de_cal C__law_draw hgd hr (by decide) (by rfl) (passes_call (takes_of rfl rfl rfl rfl) fun _ _ _ _ h => h) (da_cons (dv 0) (da_cons (de_op (op_addA) l_add (dv 2) de_int) da_nil))) de_int) (de_cal C__law_draw hgd hr (by decide) (by rfl) (passes_call (takes_of rfl rfl rfl rfl) fun _ _ _ _ h => h) (da_cons (dv 0) (da_cons (de_op (op_addA) l_add (dv 2) de_int) da_nil))) (by rfl))
        (dss_cons (ds_set (i := 9) sc__law_bounds.nd rfl (.inl rfl) (de_cal C__law_draw hgd hr (by decide) (by rfl) (passes_call (takes_of rfl rfl rfl rfl) fun _ _ _ _ h => h) (da_cons (dv 0) (da_cons de_int da_nil))))
        (dss_cons (ds_if (dt_cmp (op_neA hr.units) l_ne (dv 9) de_int (nomark _))
          (dss_one (ds_put 3 (hu1 hr) (de_tup (da_cons (dv 5) (da_cons (dv 6) da_nil))) (de_op (op_addA) l_add (dv 7) (dv 8))))
          dss_nil)
        (dss_one (ds_if (dt_cmp (op_neA hr.units) l_ne (dv 9) de_int (nomark _))
          (dss_one (ds_put 3 (hu1 hr) (de_tup (da_cons (dv 6) (da_cons (dv 5) da_nil))) (de_op op_sub l_I0 de_int (dv 7))))
          dss_nil)))))))
      (dss_one (ds_ret (de_callTy (call_tupleA) l_tuple (by rfl) T.«tuple» (by decide +kernel) (da_cons (de_callB (cr_sortD hr.units) l_sorted (by rfl) T.«sorted» (by decide +kernel) (da_cons (de_fresh (df_lock 3 (df_lc (own := [("pair", 10)]) (by rfl) sc__law_bounds.nd (di_keys 3) (blkOk_by (own := [("pair", 10)]) (N := ["stream", "points", "span", "found", "turn", "first", "second", "low", "width", "way", "pair"]) (sc := defScope (top 38)) (by decide +kernel)) (fun _ _ _ _ _ => (dg_name (i := 10) sc__law_bounds.nd rfl (.inl rfl))) (fun _ _ _ _ _ => dts_nil) (fun _ _ _ _ _ => (de_tup (da_cons (de_ix (dv 10) de_int (fun _ _ => rfl)) (da_cons (de_ix (dv 10) de_int (fun _ _ => rfl)) (da_cons (de_dget (hu1 hr) (dv 3) (dv 10) (fun _ _ => rfl)) da_nil))))) (by decide)))) da_nil)) da_nil)))))), ?_⟩
  rintro ds Dq ⟨ps, sp, rfl, nd, few, so, s1, s2, q⟩
  rw [show startD ["stream", "points", "span", "found", "turn", "first", "second", "low", "width", "way", "pair"] [.stm, .tup (ps.map DL.D.str), .int sp] = [.dat .stm, .dat (.tup (ps.map DL.D.str)), .dat (.int sp), .un, .un, .un, .un, .un, .un, .un, .un] from rfl]
  dsimp only [DL.dAnd, DL.dAndV, DL.dAny, DL.dAppend, DL.dAsg, DL.dB, DL.dBreak, DL.dC, DL.dCall, DL.dChain, DL.dCons, DL.dConsA, DL.dCont, DL.dDrop, DL.dEnumL, DL.dEnumT, DL.dFld, DL.dFldO, DL.dFldSet, DL.dFmt, DL.dFn, DL.dFor, DL.dFresh, DL.dGet1, DL.dGet2, DL.dIfE, DL.dIfS, DL.dInK, DL.dIsi, DL.dIsiO, DL.dJoin, DL.dKeys, DL.dLenSc, DL.dLenSet, DL.dLenSk, DL.dLock, DL.dLockS, DL.dMth, DL.dNeg, DL.dNever, DL.dNext, DL.dNil, DL.dNilA, DL.dNone, DL.dNot, DL.dNotV, DL.dOp, DL.dOr, DL.dOrV, DL.dPar, DL.dPut, DL.dRet, DL.dRetN, DL.dRng1, DL.dRng2, DL.dSeq, DL.dSet, DL.dSetO, DL.dSl, DL.dSome, DL.dTruth, DL.dTup, DL.dVar, DL.dView, DL.dViewT, DL.dYes, DL.dZip, DL.fDc, DL.fDictP, DL.fDictPT, DL.fDisp, DL.fLc, DL.fListT, DL.fLock, DL.fLst, DL.fMake, DL.fMakeK, DL.fMakeL, DL.fNew, DL.gAdd, DL.gBools, DL.gCmp, DL.gConsD, DL.gDin, DL.gEq, DL.gEqO, DL.gGe, DL.gGet, DL.gGt, DL.gI, DL.gIb, DL.gIc, DL.gIn, DL.gInO, DL.gInt, DL.gIsN, DL.gIx, DL.gLe, DL.gLen, DL.gLenO, DL.gLt, DL.gNameD, DL.gNe, DL.gNilD, DL.gNotN, DL.gRepr, DL.gSl, DL.gSorted, DL.gStrI, DL.gStrO, DL.gStrS, DL.gSum, DL.gTupD, DL.gTuple, DL.jCons, DL.jNil, DL.pCons, DL.pNil, startD, isiB, List.map_cons, List.map_nil, List.cons_append, List.nil_append, List.length_cons, List.length_nil, List.set_cons_zero, List.set_cons_succ, List.getElem?_cons_zero, List.getElem?_cons_succ, List.replicate]
  have sL : (16777216 : Nat) = sizeLine := sizeLine_eq.symm
  split
  · rename_i c1
    have c2 : 1 < ps.length := by
      have := of_decide_eq_true c1
      rw [List.length_map] at this
      omega
    refine ⟨_, rfl, by omega, by rw [List.length_map]; omega, fun j j0 j1 => ⟨by omega, by rw [List.length_map] at j1; omega, for_cnt (PvB ps sp) j.toNat _ (n := 0) (by rw [rangeD_len, Nat.zero_add]) ?s1 ⟨[], .un, .un, .un, .un, .un, .un, .un, rfl, (by intro b m; cases m), List.nodup_nil, Nat.zero_le _⟩ ?f1⟩⟩
    case s1 =>
      rintro d _ n ρ hn0 ⟨bs, r4, r5, r6, r7, r8, r9, r10, rfl, okb, ndb, lb⟩ N hN
      dsimp only [DL.dAnd, DL.dAndV, DL.dAny, DL.dAppend, DL.dAsg, DL.dB, DL.dBreak, DL.dC, DL.dCall, DL.dChain, DL.dCons, DL.dConsA, DL.dCont, DL.dDrop, DL.dEnumL, DL.dEnumT, DL.dFld, DL.dFldO, DL.dFldSet, DL.dFmt, DL.dFn, DL.dFor, DL.dFresh, DL.dGet1, DL.dGet2, DL.dIfE, DL.dIfS, DL.dInK, DL.dIsi, DL.dIsiO, DL.dJoin, DL.dKeys, DL.dLenSc, DL.dLenSet, DL.dLenSk, DL.dLock, DL.dLockS, DL.dMth, DL.dNeg, DL.dNever, DL.dNext, DL.dNil, DL.dNilA, DL.dNone, DL.dNot, DL.dNotV, DL.dOp, DL.dOr, DL.dOrV, DL.dPar, DL.dPut, DL.dRet, DL.dRetN, DL.dRng1, DL.dRng2, DL.dSeq, DL.dSet, DL.dSetO, DL.dSl, DL.dSome, DL.dTruth, DL.dTup, DL.dVar, DL.dView, DL.dViewT, DL.dYes, DL.dZip, DL.fDc, DL.fDictP, DL.fDictPT, DL.fDisp, DL.fLc, DL.fListT, DL.fLock, DL.fLst, DL.fMake, DL.fMakeK, DL.fMakeL, DL.fNew, DL.gAdd, DL.gBools, DL.gCmp, DL.gConsD, DL.gDin, DL.gEq, DL.gEqO, DL.gGe, DL.gGet, DL.gGt, DL.gI, DL.gIb, DL.gIc, DL.gIn, DL.gInO, DL.gInt, DL.gIsN, DL.gIx, DL.gLe, DL.gLen, DL.gLenO, DL.gLt, DL.gNameD, DL.gNe, DL.gNilD, DL.gNotN, DL.gRepr, DL.gSl, DL.gSorted, DL.gStrI, DL.gStrO, DL.gStrS, DL.gSum, DL.gTupD, DL.gTuple, DL.jCons, DL.jNil, DL.pCons, DL.pNil, startD, isiB, List.map_cons, List.map_nil, List.cons_append, List.nil_append, List.length_cons, List.length_nil, List.set_cons_zero, List.set_cons_succ, List.getElem?_cons_zero, List.getElem?_cons_succ, List.replicate]
      refine ⟨ps.map DL.D.str, .inl rfl, by rw [List.length_map]; omega, fun ys pm => ?_⟩
      obtain ⟨zs, rfl, pz⟩ := strs_of pm
      match zs, pz with
      | [], pz => have := pz.length_eq; simp at this; omega
      | [_], pz => have := pz.length_eq; simp at this; omega
      | a :: b :: zs, pz =>
        dsimp only
        rw [show DL.cutD ((a :: b :: zs).map DL.D.str) none (some 2) = [.str a, .str b] from by
          unfold DL.cutD HT.sIx
          simp]
        have ma : a ∈ ps := pz.mem_iff.mp List.mem_cons_self
        have mb : b ∈ ps := pz.mem_iff.mp (List.mem_cons_of_mem _ List.mem_cons_self)
        have ab : a ≠ b := fun e => (List.nodup_cons.mp (pz.nodup_iff.mpr nd)).1 (by rw [e]; exact List.mem_cons_self)
        have two : (0 + 1 + 1 : Nat) ≤ sizeLine := by omega
        rw [List.length_map] at j1
        have hn : n < 30 := by omega
        have nj : n < 30 → (bs.map kvB).length < sizeLine := fun h => by rw [List.length_map]; omega
        refine ⟨rfl, sp + 4, rfl, by omega, by omega, fun k k0 k1 => ⟨sp + 1, rfl, by omega, by omega, fun v v0 v1 => ⟨4, rfl, by decide, by decide, fun y y0 y1 => ⟨int_cmp _, int_cmp _, ?_⟩⟩⟩⟩
        have o1 : okBnd ps ⟨a, b, k - 2 + v⟩ := ⟨ma, mb, ab, by show -999 ≤ k - 2 + v; omega, by show k - 2 + v ≤ 999; omega⟩
        have o2 : okBnd ps ⟨b, a, 0 - (k - 2)⟩ := ⟨mb, ma, ab.symm, by show -999 ≤ 0 - (k - 2); omega, by show 0 - (k - 2) ≤ 999; omega⟩
        have p1 := putB_d bs ⟨a, b, k - 2 + v⟩
        have p2 := putB_d (putB bs ⟨a, b, k - 2 + v⟩) ⟨b, a, 0 - (k - 2)⟩
        have p3 := putB_d bs ⟨b, a, 0 - (k - 2)⟩
        dsimp only at p1 p2 p3
        have n1 := putB_len bs ⟨a, b, k - 2 + v⟩
        have n2 := putB_len (putB bs ⟨a, b, k - 2 + v⟩) ⟨b, a, 0 - (k - 2)⟩
        have n3 := putB_len bs ⟨b, a, 0 - (k - 2)⟩
        split
        · refine ⟨two, rfl, nj hn, int_cmp _, int_cmp _, ?_⟩
          rw [p1, p2]
          split
          · exact ⟨two, rfl, by rw [List.length_map]; omega, hN _ ⟨_, _, _, _, _, _, _, _, rfl, putB_all (putB_all okb o1) o2, putB_nodup (putB_nodup ndb), by omega⟩⟩
          · exact hN _ ⟨_, _, _, _, _, _, _, _, rfl, putB_all okb o1, putB_nodup ndb, by omega⟩
        · refine ⟨int_cmp _, int_cmp _, ?_⟩
          rw [p3]
          split
          · exact ⟨two, rfl, nj hn, hN _ ⟨_, _, _, _, _, _, _, _, rfl, putB_all okb o2, putB_nodup ndb, by omega⟩⟩
          · exact hN _ ⟨_, _, _, _, _, _, _, _, rfl, okb, ndb, by omega⟩
    case f1 =>
      rw [List.length_map] at j1
      rintro ρ ⟨bs, r4, r5, r6, r7, r8, r9, r10, rfl, okb, ndb, lb⟩
      dsimp only [DL.dAnd, DL.dAndV, DL.dAny, DL.dAppend, DL.dAsg, DL.dB, DL.dBreak, DL.dC, DL.dCall, DL.dChain, DL.dCons, DL.dConsA, DL.dCont, DL.dDrop, DL.dEnumL, DL.dEnumT, DL.dFld, DL.dFldO, DL.dFldSet, DL.dFmt, DL.dFn, DL.dFor, DL.dFresh, DL.dGet1, DL.dGet2, DL.dIfE, DL.dIfS, DL.dInK, DL.dIsi, DL.dIsiO, DL.dJoin, DL.dKeys, DL.dLenSc, DL.dLenSet, DL.dLenSk, DL.dLock, DL.dLockS, DL.dMth, DL.dNeg, DL.dNever, DL.dNext, DL.dNil, DL.dNilA, DL.dNone, DL.dNot, DL.dNotV, DL.dOp, DL.dOr, DL.dOrV, DL.dPar, DL.dPut, DL.dRet, DL.dRetN, DL.dRng1, DL.dRng2, DL.dSeq, DL.dSet, DL.dSetO, DL.dSl, DL.dSome, DL.dTruth, DL.dTup, DL.dVar, DL.dView, DL.dViewT, DL.dYes, DL.dZip, DL.fDc, DL.fDictP, DL.fDictPT, DL.fDisp, DL.fLc, DL.fListT, DL.fLock, DL.fLst, DL.fMake, DL.fMakeK, DL.fMakeL, DL.fNew, DL.gAdd, DL.gBools, DL.gCmp, DL.gConsD, DL.gDin, DL.gEq, DL.gEqO, DL.gGe, DL.gGet, DL.gGt, DL.gI, DL.gIb, DL.gIc, DL.gIn, DL.gInO, DL.gInt, DL.gIsN, DL.gIx, DL.gLe, DL.gLen, DL.gLenO, DL.gLt, DL.gNameD, DL.gNe, DL.gNilD, DL.gNotN, DL.gRepr, DL.gSl, DL.gSorted, DL.gStrI, DL.gStrO, DL.gStrS, DL.gSum, DL.gTupD, DL.gTuple, DL.jCons, DL.jNil, DL.pCons, DL.pNil, startD, isiB, List.map_cons, List.map_nil, List.cons_append, List.nil_append, List.length_cons, List.length_nil, List.set_cons_zero, List.set_cons_succ, List.getElem?_cons_zero, List.getElem?_cons_succ, List.replicate]
      refine ⟨fun e m => ?_, lc_map (F := fun d => match d with | .tup [a, b] => .tup [a, b, (findK (bs.map kvB) (.tup [a, b])).getD .non] | _ => .non) _ _ (fun d m R r => ?_) ?_⟩
      · obtain ⟨y, _, rfl⟩ := List.mem_map.mp m
        show 2 ≤ sizeLine
        omega
      · obtain ⟨p, mp, rfl⟩ := List.mem_map.mp m
        obtain ⟨y, my, rfl⟩ := List.mem_map.mp mp
        have fy := find_kvB ndb my
        have r' : R (.tup [.str y.a, .str y.b, (findK (bs.map kvB) (.tup [.str y.a, .str y.b])).getD .non]) := r
        rw [fy] at r'
        show isKey true (.tup [.str y.a, .str y.b]) = true ∧ match findK (bs.map kvB) (.tup [.str y.a, .str y.b]) with
          | some d => [D.str y.a, D.str y.b, d].length ≤ sizeLine ∧ R (.tup [.str y.a, .str y.b, d])
          | none => False
        rw [fy]
        exact ⟨rfl, by show 3 ≤ sizeLine; omega, r'⟩
      · have hm : ((bs.map kvB).map fun x => x.fst).map (fun d => match d with | .tup [a, b] => D.tup [a, b, (findK (bs.map kvB) (.tup [a, b])).getD .non] | _ => .non) = bs.map Bnd.D := by
          rw [List.map_map, List.map_map]
          refine List.map_congr_left fun y my => ?_
          show D.tup [.str y.a, .str y.b, (findK (bs.map kvB) (.tup [.str y.a, .str y.b])).getD .non] = y.D
          rw [find_kvB ndb my]
          rfl
        rw [hm, List.nil_append]
        have q' := q bs okb ndb (by omega)
        rw [← sort_bounds] at q'
        exact ⟨flat_bounds bs, dec_bounds ndb, dp_bounds bs, q'⟩
  · refine ⟨by decide, by omega, for_cnt (PvB ps sp) 0 _ (n := 0) rfl (fun d m => by cases m) ⟨[], .un, .un, .un, .un, .un, .un, .un, rfl, (by intro b m; cases m), List.nodup_nil, Nat.zero_le _⟩ ?f2⟩
    case f2 =>
      rintro ρ ⟨bs, r4, r5, r6, r7, r8, r9, r10, rfl, okb, ndb, lb⟩
      dsimp only [DL.dAnd, DL.dAndV, DL.dAny, DL.dAppend, DL.dAsg, DL.dB, DL.dBreak, DL.dC, DL.dCall, DL.dChain, DL.dCons, DL.dConsA, DL.dCont, DL.dDrop, DL.dEnumL, DL.dEnumT, DL.dFld, DL.dFldO, DL.dFldSet, DL.dFmt, DL.dFn, DL.dFor, DL.dFresh, DL.dGet1, DL.dGet2, DL.dIfE, DL.dIfS, DL.dInK, DL.dIsi, DL.dIsiO, DL.dJoin, DL.dKeys, DL.dLenSc, DL.dLenSet, DL.dLenSk, DL.dLock, DL.dLockS, DL.dMth, DL.dNeg, DL.dNever, DL.dNext, DL.dNil, DL.dNilA, DL.dNone, DL.dNot, DL.dNotV, DL.dOp, DL.dOr, DL.dOrV, DL.dPar, DL.dPut, DL.dRet, DL.dRetN, DL.dRng1, DL.dRng2, DL.dSeq, DL.dSet, DL.dSetO, DL.dSl, DL.dSome, DL.dTruth, DL.dTup, DL.dVar, DL.dView, DL.dViewT, DL.dYes, DL.dZip, DL.fDc, DL.fDictP, DL.fDictPT, DL.fDisp, DL.fLc, DL.fListT, DL.fLock, DL.fLst, DL.fMake, DL.fMakeK, DL.fMakeL, DL.fNew, DL.gAdd, DL.gBools, DL.gCmp, DL.gConsD, DL.gDin, DL.gEq, DL.gEqO, DL.gGe, DL.gGet, DL.gGt, DL.gI, DL.gIb, DL.gIc, DL.gIn, DL.gInO, DL.gInt, DL.gIsN, DL.gIx, DL.gLe, DL.gLen, DL.gLenO, DL.gLt, DL.gNameD, DL.gNe, DL.gNilD, DL.gNotN, DL.gRepr, DL.gSl, DL.gSorted, DL.gStrI, DL.gStrO, DL.gStrS, DL.gSum, DL.gTupD, DL.gTuple, DL.jCons, DL.jNil, DL.pCons, DL.pNil, startD, isiB, List.map_cons, List.map_nil, List.cons_append, List.nil_append, List.length_cons, List.length_nil, List.set_cons_zero, List.set_cons_succ, List.getElem?_cons_zero, List.getElem?_cons_succ, List.replicate]
      refine ⟨fun e m => ?_, lc_map (F := fun d => match d with | .tup [a, b] => .tup [a, b, (findK (bs.map kvB) (.tup [a, b])).getD .non] | _ => .non) _ _ (fun d m R r => ?_) ?_⟩
      · obtain ⟨y, _, rfl⟩ := List.mem_map.mp m
        show 2 ≤ sizeLine
        omega
      · obtain ⟨p, mp, rfl⟩ := List.mem_map.mp m
        obtain ⟨y, my, rfl⟩ := List.mem_map.mp mp
        have fy := find_kvB ndb my
        have r' : R (.tup [.str y.a, .str y.b, (findK (bs.map kvB) (.tup [.str y.a, .str y.b])).getD .non]) := r
        rw [fy] at r'
        show isKey true (.tup [.str y.a, .str y.b]) = true ∧ match findK (bs.map kvB) (.tup [.str y.a, .str y.b]) with
          | some d => [D.str y.a, D.str y.b, d].length ≤ sizeLine ∧ R (.tup [.str y.a, .str y.b, d])
          | none => False
        rw [fy]
        exact ⟨rfl, by show 3 ≤ sizeLine; omega, r'⟩
      · have hm : ((bs.map kvB).map fun x => x.fst).map (fun d => match d with | .tup [a, b] => D.tup [a, b, (findK (bs.map kvB) (.tup [a, b])).getD .non] | _ => .non) = bs.map Bnd.D := by
          rw [List.map_map, List.map_map]
          refine List.map_congr_left fun y my => ?_
          show D.tup [.str y.a, .str y.b, (findK (bs.map kvB) (.tup [.str y.a, .str y.b])).getD .non] = y.D
          rw [find_kvB ndb my]
          rfl
        rw [hm, List.nil_append]
        have q' := q bs okb ndb (by omega)
        rw [← sort_bounds] at q'
        exact ⟨flat_bounds bs, dec_bounds ndb, dp_bounds bs, q'⟩
end
end K05

set_option Elab.async false
set_option linter.all false
set_option maxRecDepth 100000
set_option maxHeartbeats 2000000
/-! What sorted does to the parts of a plan. -/
namespace K05
open PySem PySem.Spec PyProof.Rows L2 LW RZ DL
open PySem.W (keyToks keyToksAll toks_all_cons)
open LS (strLe strLe_anti strLe_trans strLe_total)
theorem leD_def (x y : DL.D) : leD x y = !PyProof.Rows.lexLt itemOrd (keyToks y.py) (keyToks x.py) := rfl
theorem leD_str (a b : Str) : leD (.str a) (.str b) = strLe a b := by
  have h := congrFun (congrFun LS.strLe_of a) b
  exact h
theorem toks_step (x : Stp) : ∃ r, keyToks x.D.py = .inl 1 :: .inr x.e.cps.toList :: r := by
  rw [step_py]
  exact ⟨_, by rw [keyToks, toks_all_cons]; rfl⟩
theorem toks_bound (x : Bnd) : ∃ r, keyToks x.D.py = .inl 1 :: .inr x.a.cps.toList :: .inl 1 :: .inr x.b.cps.toList :: r := by
  rw [bound_py]
  exact ⟨_, by rw [keyToks, toks_all_cons, toks_all_cons]; rfl⟩
theorem str_inj {a b : Str} (h : a.cps.toList = b.cps.toList) : a = b := PySem.W.str_of_cps h
theorem lt_le (a b : Str) : (!decide (b.cps.toList < a.cps.toList)) = strLe a b := by
  unfold LS.strLe
  by_cases h : b.cps.toList < a.cps.toList
  · rw [decide_eq_true h, decide_eq_false (List.not_le.mpr h)]; rfl
  · rw [decide_eq_false h, decide_eq_true (List.not_lt.mp h)]; rfl
theorem leD_step {x y : Stp} (h : x.e ≠ y.e) : leD x.D y.D = strLe x.e y.e := by
  obtain ⟨r, ex⟩ := toks_step x
  obtain ⟨r', ey⟩ := toks_step y
  rw [leD_def, ex, ey, lex_self (O := itemOrd), lex_diff (O := itemOrd) (fun q => h (str_inj (Sum.inr.inj q).symm)), ← lt_le]
  rfl
theorem leD_bound {x y : Bnd} (h : x.k ≠ y.k) : leD x.D y.D = if x.a = y.a then strLe x.b y.b else strLe x.a y.a := by
  obtain ⟨r, ex⟩ := toks_bound x
  obtain ⟨r', ey⟩ := toks_bound y
  rw [leD_def, ex, ey, lex_self (O := itemOrd)]
  by_cases q : x.a = y.a
  · have q2 : x.b ≠ y.b := fun z => h ((kB_eq x y).mpr ⟨q, z⟩)
    rw [if_pos q, q, lex_self (O := itemOrd), lex_self (O := itemOrd), lex_diff (O := itemOrd) (fun w => q2 (str_inj (Sum.inr.inj w).symm)), ← lt_le]
    rfl
  · rw [if_neg q, lex_diff (O := itemOrd) (fun w => q (str_inj (Sum.inr.inj w).symm)), ← lt_le]
    rfl
theorem leD_trans (a b c : DL.D) (h1 : leD a b = true) (h2 : leD b c = true) : leD a c = true := (PySem.W.sortLe_total (PyProof.Rows.listOrd itemOrd) false fun b : DL.D => keyToks b.py).trans a b c h1 h2
theorem leD_total (a b : DL.D) : (leD a b || leD b a) = true := by
  rw [Bool.or_eq_true]
  exact (PySem.W.sortLe_total (PyProof.Rows.listOrd itemOrd) false fun b : DL.D => keyToks b.py).total a b
theorem leD_anti {a b : DL.D} (h1 : leD a b = true) (h2 : leD b a = true) : keyToks a.py = keyToks b.py := by
  rw [leD_def, Bool.not_eq_true'] at h1 h2
  exact (PyProof.Rows.listOrd itemOrd).total _ _ h2 h1
/-- sorted is one for all orders -/
theorem sort_one {α : Type} {f : α → DL.D} {xs ys : List α} (p : xs.Perm ys) (inj : ∀ a ∈ xs, ∀ b ∈ xs, keyToks (f a).py = keyToks (f b).py → a = b) :
    xs.mergeSort (fun a b => leD (f a) (f b)) = ys.mergeSort fun a b => leD (f a) (f b) := by
  have s := fun zs : List α => List.pairwise_mergeSort (le := fun a b => leD (f a) (f b)) (fun a b c => leD_trans (f a) (f b) (f c)) (fun a b => leD_total (f a) (f b)) zs
  have px := List.mergeSort_perm xs fun a b => leD (f a) (f b)
  have py := List.mergeSort_perm ys fun a b => leD (f a) (f b)
  exact (px.trans (p.trans py.symm)).eq_of_pairwise (fun a b ma mb h1 h2 => inj a (px.mem_iff.mp ma) b (p.mem_iff.mpr (py.mem_iff.mp mb)) (leD_anti h1 h2)) (s xs) (s ys)
theorem toks_str {a b : Str} (h : keyToks (DL.D.str a).py = keyToks (DL.D.str b).py) : a = b := by
  have h' : [Sum.inr a.cps.toList] = ([Sum.inr b.cps.toList] : List (Int ⊕ List Nat)) := h
  injection h' with h1 _
  exact str_inj (Sum.inr.inj h1)
theorem toks_step_e {x y : Stp} (h : keyToks x.D.py = keyToks y.D.py) : x.e = y.e := by
  obtain ⟨r, ex⟩ := toks_step x
  obtain ⟨r', ey⟩ := toks_step y
  rw [ex, ey] at h
  injection h with _ h
  injection h with h _
  exact str_inj (Sum.inr.inj h)
theorem toks_bound_k {x y : Bnd} (h : keyToks x.D.py = keyToks y.D.py) : x.k = y.k := by
  obtain ⟨r, ex⟩ := toks_bound x
  obtain ⟨r', ey⟩ := toks_bound y
  rw [ex, ey] at h
  injection h with _ h
  injection h with h1 h
  injection h with _ h
  injection h with h2 _
  exact (kB_eq x y).mpr ⟨str_inj (Sum.inr.inj h1), str_inj (Sum.inr.inj h2)⟩
theorem sortE_one {es es' : List Str} (p : es'.Perm es) : sortE es' = sortE es := sort_one (f := DL.D.str) p fun _ _ _ _ h => toks_str h
theorem sortS_one {xs xs' : List Stp} (nd : (xs.map Stp.e).Nodup) (p : xs'.Perm xs) : sortS xs' = sortS xs :=
  sort_one (f := Stp.D) p fun a ma b mb h => inj_of nd a (p.mem_iff.mp ma) b (p.mem_iff.mp mb) (toks_step_e h)
theorem sortB_one {xs xs' : List Bnd} (nd : (xs.map Bnd.k).Nodup) (p : xs'.Perm xs) : sortB xs' = sortB xs :=
  sort_one (f := Bnd.D) p fun a ma b mb h => inj_of nd a (p.mem_iff.mp ma) b (p.mem_iff.mp mb) (toks_bound_k h)
/-! what stands in its order already -/
theorem sortE_id {es : List Str} (h : es.Pairwise fun a b => strLe a b = true) : sortE es = es :=
  List.mergeSort_of_pairwise (h.imp fun {a b} q => by rw [leD_str]; exact q)
theorem sortE_srt (es : List Str) : (sortE es).Pairwise fun a b => strLe a b = true :=
  (List.pairwise_mergeSort (le := fun a b => leD (.str a) (.str b)) (fun a b c => leD_trans _ _ _) (fun a b => leD_total _ _) es).imp fun {a b} q => by rw [← leD_str]; exact q
theorem sortE_sortE (es : List Str) : sortE (sortE es) = sortE es := sortE_id (sortE_srt es)
theorem sortS_id {xs : List Stp} (nd : (xs.map Stp.e).Nodup) (h : (xs.map Stp.e).Pairwise fun a b => strLe a b = true) : sortS xs = xs := by
  refine List.mergeSort_of_pairwise ?_
  have h1 := List.pairwise_map.mp h
  have h2 := List.pairwise_map.mp nd
  exact (h1.and h2).imp fun {a b} q => by rw [leD_step q.2]; exact q.1
/-- two bounds in their order -/
def leB (x y : Bnd) : Prop := (if x.a = y.a then strLe x.b y.b else strLe x.a y.a) = true
theorem sortB_id {xs : List Bnd} (nd : (xs.map Bnd.k).Nodup) (h : xs.Pairwise leB) : sortB xs = xs := by
  refine List.mergeSort_of_pairwise ?_
  have h2 := List.pairwise_map.mp nd
  exact (h.and h2).imp fun {a b} q => by rw [leD_bound q.2]; exact q.1
theorem sortB_srt {xs : List Bnd} (nd : (xs.map Bnd.k).Nodup) : (sortB xs).Pairwise leB := by
  have h := List.pairwise_mergeSort (le := fun (a b : Bnd) => leD a.D b.D) (fun a b c => leD_trans _ _ _) (fun a b => leD_total _ _) xs
  have h2 := List.pairwise_map.mp (((sortB_perm xs).map Bnd.k).nodup_iff.mpr nd)
  exact (List.Pairwise.and h h2).imp fun {a b} q => by
    have := q.1
    rw [leD_bound q.2] at this
    exact this
/-- a plan as the law writes it down: parts in their order -/
structure okPlain (h : Int) (es : List Str) (xs : List Stp) (bs : List Bnd) : Prop where
  h0 : 0 ≤ h
  h1 : h ≤ 99
  ok : okParts es xs bs
  se : es.Pairwise fun a b => strLe a b = true
  sx : (xs.map Stp.e).Pairwise fun a b => strLe a b = true
  sb : bs.Pairwise leB
theorem okPlain.e {h : Int} {es : List Str} {xs : List Stp} {bs : List Bnd} (k : okPlain h es xs bs) : sortE es = es := sortE_id k.se
theorem okPlain.x {h : Int} {es : List Str} {xs : List Stp} {bs : List Bnd} (k : okPlain h es xs bs) : sortS xs = xs := sortS_id k.ok.xd k.sx
theorem okPlain.b {h : Int} {es : List Str} {xs : List Stp} {bs : List Bnd} (k : okPlain h es xs bs) : sortB bs = bs := sortB_id k.ok.bd k.sb
theorem points_one {es es' : List Str} {xs xs' : List Stp} (p : es'.Perm es) (q : xs'.Perm xs) : (points es' xs').Perm (points es xs) := (p.append (q.map Stp.e)).cons _
theorem okParts.perm {es es' : List Str} {xs xs' : List Stp} {bs bs' : List Bnd} (k : okParts es xs bs) (pe : es'.Perm es) (px : xs'.Perm xs) (pb : bs'.Perm bs) : okParts es' xs' bs' := by
  refine ⟨fun e m => k.n e (pe.mem_iff.mp m), fun m => k.s (pe.mem_iff.mp m), pe.nodup_iff.mpr k.nd, fun x m => ?_, (px.map Stp.e).nodup_iff.mpr k.xd, fun b m => ?_, (pb.map Bnd.k).nodup_iff.mpr k.bd, by rw [pe.length_eq]; exact k.el, by rw [px.length_eq]; exact k.xl, by rw [pb.length_eq]; exact k.bl⟩
  · obtain ⟨a1, a2, a3, a4, a5, a6, a7, a8, a9⟩ := k.x x (px.mem_iff.mp m)
    exact ⟨a1, a2, fun q => a3 (pe.mem_iff.mp q), a4.imp id fun q => pe.mem_iff.mpr q, a5, a6, a7, a8, a9⟩
  · obtain ⟨a1, a2, a3, a4, a5⟩ := k.b b (pb.mem_iff.mp m)
    exact ⟨(points_one pe px).mem_iff.mpr a1, (points_one pe px).mem_iff.mpr a2, a3, a4, a5⟩
/-- the same plan from parts in any order -/
theorem planF_one {h : Int} {es es' : List Str} {xs xs' : List Stp} {bs bs' : List Bnd} (k : okParts es xs bs) (pe : es'.Perm es) (px : xs'.Perm xs) (pb : bs'.Perm bs) : planF h es' xs' bs' = planF h es xs bs := by
  unfold planF
  rw [sortE_one pe, sortS_one k.xd px, sortB_one k.bd pb]
end K05

set_option Elab.async false
set_option linter.all false
set_option maxRecDepth 100000
set_option maxHeartbeats 2000000
namespace K05
open PySem PySem.Spec PyProof.Rows L2 LW RZ DL
open LS (strLe strLe_anti strLe_trans strLe_total)
theorem cut_take (ns : List Str) (t : Nat) (h : t ≤ ns.length) : DL.cutD (ns.map DL.D.str) none (some (t : Int)) = (ns.take t).map DL.D.str := by
  rw [List.map_take]
  unfold DL.cutD HT.sIx
  simp
  rw [if_neg (by omega)]
  omega
theorem cut_drop (ns : List Str) (t : Nat) (h : t ≤ ns.length) : DL.cutD (ns.map DL.D.str) (some (t : Int)) none = (ns.drop t).map DL.D.str := by
  rw [List.map_drop]
  unfold DL.cutD HT.sIx
  simp
  rw [if_neg (by omega)]
  rw [Nat.min_eq_left (by omega), List.take_of_length_le (by simp)]
theorem lc_steps {g : DTG} {te : DTE} {ρ : Env'} {es : List Str} : ∀ (ends : List Str) (acc : List Stp) {Q : List DL.D → Prop}, (∀ e ∈ ends, ∀ R : DL.D → Prop, (∀ x, drStp e es x → R x.D) → g (.str e) ρ fun ρ1 => te ρ1 R) →
    (∀ xs : List Stp, xs.map Stp.e = ends → (∀ x ∈ xs, drStp x.e es x) → Q ((acc ++ xs).map Stp.D)) → lcD g dYes te ρ (acc.map Stp.D) (ends.map DL.D.str) Q
  | [], acc, Q, _, q => by
    have := q [] rfl (by intro x m; cases m)
    rw [List.append_nil] at this
    exact this
  | e :: ends, acc, Q, h, q => h e List.mem_cons_self _ fun x hx => by
    show lcD g dYes te ρ (acc.map Stp.D ++ [x.D]) (ends.map DL.D.str) Q
    rw [show acc.map Stp.D ++ [x.D] = (acc ++ [x]).map Stp.D by rw [List.map_append]; rfl]
    refine lc_steps ends (acc ++ [x]) (fun e m => h e (List.mem_cons_of_mem _ m)) fun xs ex hxs => ?_
    rw [List.append_assoc]
    refine q (x :: xs) (by rw [List.map_cons, ex, hx.e1]) fun y m => ?_
    rcases List.mem_cons.mp m with rfl | m
    · rw [hx.e1]; exact hx
    · exact hxs y m
theorem plan_drawn {l : Int} {ns : List Str} {t p : Nat} {xs : List Stp} {bs : List Bnd} (l0 : 0 ≤ l) (l1 : l ≤ 99) (nd : ns.Nodup) (sub : ∀ s ∈ ns, s ∈ bag) (len : ns.length = t + p) (ht : t ≤ 10) (hp : p ≤ 5)
    (ex : xs.map Stp.e = sortE (ns.drop t)) (hx : ∀ x ∈ xs, drStp x.e (sortE (ns.take t)) x) (ob : ∀ b ∈ bs, okBnd (points (sortE (ns.take t)) xs) b) (bd : (bs.map Bnd.k).Nodup) (bl : bs.length < 64) : okPlain l (sortE (ns.take t)) xs (sortB bs) := by
  have pe := sortE_perm (ns.take t)
  have pd := sortE_perm (ns.drop t)
  have nt : (ns.take t).Nodup := nd.sublist (List.take_sublist _ _)
  have nr : (ns.drop t).Nodup := nd.sublist (List.drop_sublist _ _)
  have me : ∀ e ∈ sortE (ns.take t), e ∈ ns := fun e m => (List.take_sublist _ _).subset (pe.mem_iff.mp m)
  have md : ∀ x ∈ xs, x.e ∈ ns.drop t := fun x m => pd.mem_iff.mp (by rw [← ex]; exact List.mem_map.mpr ⟨x, m, rfl⟩)
  have k : okParts (sortE (ns.take t)) xs bs := by
    refine ⟨fun e m => (bag_ok e (sub e (me e m))).1, fun m => (bag_ok start (sub start (me start m))).2 rfl, pe.nodup_iff.mpr nt, fun x m => ?_, by rw [ex]; exact pd.nodup_iff.mpr nr, ob, bd, ?_, ?_, bl⟩
    · obtain ⟨_, b1, c1, c2, c3, d1⟩ := hx x m
      have mx := sub x.e ((List.drop_sublist _ _).subset (md x m))
      refine ⟨(bag_ok _ mx).1, (bag_ok _ mx).2, fun q => ?_, b1, by omega, c3, c1, c2, d1⟩
      have q' := pe.mem_iff.mp q
      have nd' := nd
      rw [← List.take_append_drop t ns] at nd'
      exact (List.nodup_append.mp nd').2.2 _ q' _ (md x m) rfl
    · rw [pe.length_eq, List.length_take]; omega
    · have := congrArg List.length ex
      rw [List.length_map, pd.length_eq, List.length_drop] at this
      omega
  refine ⟨l0, l1, k.perm (List.Perm.refl _) (List.Perm.refl _) (sortB_perm bs), sortE_srt _, by rw [ex]; exact sortE_srt _, sortB_srt bd⟩
theorem pts_drawn {ns : List Str} {t : Nat} {xs : List Stp} (ex : xs.map Stp.e = sortE (ns.drop t)) : (points (sortE (ns.take t)) xs).Perm (start :: ns) := by
  unfold points
  rw [ex]
  have p := (sortE_perm (ns.take t)).append (sortE_perm (ns.drop t))
  rw [List.take_append_drop] at p
  exact p.cons _
section
variable {P : Program} {w : World} {K : PySem.W.Frag} {mg : Str → Option Value} {base : Heap} {tk : Tok} {CP : Addr}
abbrev gPlan : SpD := fun ds Q _ => ∃ (mo mw sp hi : Int), ds = [.stm, .int mo, .int mw, .int sp, .int hi] ∧ 1 ≤ mo ∧ mo ≤ 10 ∧ 1 ≤ mw ∧ mw ≤ 5 ∧ 1 ≤ sp ∧ sp ≤ 40 ∧ 0 ≤ hi ∧ hi ≤ 99 ∧ ∀ h es xs bs, okPlain h es xs bs → Q (plainD h es xs bs)
abbrev gNames : SpD := fun ds Q _ => ∃ n : Nat, ds = [.stm, .int n] ∧ n ≤ 20 ∧ ∀ ns : List Str, ns.Nodup → (∀ s ∈ ns, s ∈ bag) → ns.length = n → Q (.lst false (ns.map DL.D.str))
theorem sc__law_plan : FnScope ["stream", "most", "most_works", "span", "high", "last", "total", "parts", "names", "doing", "works", "points", "end"] ["stream", "most", "most_works", "span", "high"] (defScope (top 39)) := ⟨rfl, rfl, rfl, by decide +kernel, rfl, by decide +kernel, by decide +kernel⟩
theorem ok_law_plan (T : Bl mg) (C__law_draw : Cal P w K mg base "_law_draw" 1 ["stream", "total"] gDraw) (C__law_pick : Cal P w K mg base "_law_pick" 2 ["stream", "items"] gPick) (C__law_names : Cal P w K mg base "_law_names" 3 ["stream", "total"] gNames) (C__law_step : Cal P w K mg base "_law_step" 3 ["stream", "end", "doing", "span"] gStep) (C__law_bounds : Cal P w K mg base "_law_bounds" 3 ["stream", "points", "span"] gLBounds) (F : Dfn K mg "_law_plan" "_law_plan" (top 39) ["stream", "most", "most_works", "span", "high"]) :
    Cal P w K mg base "_law_plan" 4 ["stream", "most", "most_works", "span", "high"] gPlan := by
  refine okC F sc__law_plan (by decide) (by rintro ds Q De ⟨mo, mw, sp, hi, rfl, _⟩; rfl) fun f cdv A outer s H E De hgd hr => ⟨_, (dss_cons (ds_set (i := 5) sc__law_plan.nd rfl (.inl rfl) (de_cal C__law_pick hgd hr (by decide) (by rfl) (passes_call (takes_of rfl rfl rfl rfl) fun _ _ _ _ h => h) (da_cons (dv 0) (da_cons (de_fresh (df_lst (da_cons (dv 4) (da_cons (dv 4) (da_cons (de_cal C__law_draw hgd hr (by decide) (by rfl) (passes_call (takes_of rfl rfl rfl rfl) fun _ _ _ _ h => h) (da_cons (dv 0) (da_cons (de_op (op_addA) l_add (dv 4) de_int) da_nil))) da_nil))))) da_nil))))
      (dss_cons (ds_par (i := 6) (j := 7) rfl sc__law_plan.nd rfl rfl (by decide) rfl rfl (de_cal C__law_draw hgd hr (by decide) (by rfl) (passes_call (takes_of rfl rfl rfl rfl) fun _ _ _ _ h => h) (da_cons (dv 0) (da_cons (de_op (op_addA) l_add (dv 1) de_int) da_nil))) (de_cal C__law_draw hgd hr (by decide) (by rfl) (passes_call (takes_of rfl rfl rfl rfl) fun _ _ _ _ h => h) (da_cons (dv 0) (da_cons (de_op (op_addA) l_add (dv 2) de_int) da_nil))) (by rfl))
      (dss_cons (ds_if (DW.dt (dw_or (dt_cmp (op_eqA hr.units) l_eq (de_op (op_addA) l_add (dv 6) (dv 7)) de_int (nomark _)) (dw_or1 (dt_cmp op_gtA l_gt (de_cal C__law_draw hgd hr (by decide) (by rfl) (passes_call (takes_of rfl rfl rfl rfl) fun _ _ _ _ h => h) (da_cons (dv 0) (da_cons de_int da_nil))) de_int (nomark _)))))
        (dss_one (ds_par (i := 6) (j := 7) rfl sc__law_plan.nd rfl rfl (by decide) rfl rfl (de_callB (call_max2 rfl) l_max (by rfl) T.«max» (by decide +kernel) (da_cons (dv 6) (da_cons de_int da_nil))) (de_callB (call_max2 rfl) l_max (by rfl) T.«max» (by decide +kernel) (da_cons (dv 7) (da_cons de_int da_nil))) (by rfl)))
        dss_nil)
      (dss_cons (ds_set (i := 8) sc__law_plan.nd rfl (.inl rfl) (de_cal C__law_names hgd hr (by decide) (by rfl) (passes_call (takes_of rfl rfl rfl rfl) fun _ _ _ _ h => h) (da_cons (dv 0) (da_cons (de_op (op_addA) l_add (dv 6) (dv 7)) da_nil))))
      (dss_cons (ds_set (i := 9) sc__law_plan.nd rfl (.inr rfl) (de_callTy (call_tupleA) l_tuple (by rfl) T.«tuple» (by decide +kernel) (da_cons (de_callB (cr_sortD hr.units) l_sorted (by rfl) T.«sorted» (by decide +kernel) (da_cons (de_sl (dv 8) do_none (do_some (dv 6))) da_nil)) da_nil)))
      (dss_cons (ds_set (i := 10) sc__law_plan.nd rfl (.inl rfl) (de_callTy (call_tupleA) l_tuple (by rfl) T.«tuple» (by decide +kernel) (da_cons (de_fresh (df_lc (own := [("end", 12)]) (by rfl) sc__law_plan.nd (di_any (de_callB (cr_sortD hr.units) l_sorted (by rfl) T.«sorted» (by decide +kernel) (da_cons (de_sl (dv 8) (do_some (dv 6)) do_none) da_nil))) (blkOk_by (own := [("end", 12)]) (N := ["stream", "most", "most_works", "span", "high", "last", "total", "parts", "names", "doing", "works", "points", "end"]) (sc := defScope (top 39)) (by decide +kernel)) (fun _ _ _ _ _ => (dg_name (i := 12) sc__law_plan.nd rfl (.inl rfl))) (fun _ _ _ _ _ => dts_nil) (fun _ _ _ _ _ => (de_cal C__law_step hgd hr (by decide) (by rfl) (passN fun _ _ _ h => h) (da_cons (dv 0) (da_cons (dv 12) (da_cons (dv 9) (da_cons (dv 3) da_nil)))))) (by decide))) da_nil)))
      (dss_cons (ds_set (i := 11) sc__law_plan.nd rfl (.inl rfl) (de_op (op_addA) l_add (de_op (op_addA) l_add (de_tup (da_cons de_str da_nil)) (dv 9)) (de_callTy (call_tupleA) l_tuple (by rfl) T.«tuple» (by decide +kernel) (da_cons (de_callB (cr_sortD hr.units) l_sorted (by rfl) T.«sorted» (by decide +kernel) (da_cons (de_sl (dv 8) (do_some (dv 6)) do_none) da_nil)) da_nil))))
      (dss_one (ds_ret (de_tup (da_cons (dv 5) (da_cons (dv 9) (da_cons (dv 10) (da_cons (de_cal C__law_bounds hgd hr (by decide) (by rfl) (passes_call (takes_of rfl rfl rfl rfl) fun _ _ _ _ h => h) (da_cons (dv 0) (da_cons (dv 11) (da_cons (dv 3) da_nil)))) da_nil)))))))))))))), ?_⟩
  rintro ds Dq ⟨mo, mw, sp, hi, rfl, mo1, mo2, mw1, mw2, sp1, sp2, hi1, hi2, q⟩
  rw [show startD ["stream", "most", "most_works", "span", "high", "last", "total", "parts", "names", "doing", "works", "points", "end"] [.stm, .int mo, .int mw, .int sp, .int hi] = [.dat .stm, .dat (.int mo), .dat (.int mw), .dat (.int sp), .dat (.int hi), .un, .un, .un, .un, .un, .un, .un, .un] from rfl]
  have sL : (16777216 : Nat) = sizeLine := sizeLine_eq.symm
  dsimp only [DL.dAnd, DL.dAndV, DL.dAny, DL.dAppend, DL.dAsg, DL.dB, DL.dBreak, DL.dC, DL.dCall, DL.dChain, DL.dCons, DL.dConsA, DL.dCont, DL.dDrop, DL.dEnumL, DL.dEnumT, DL.dFld, DL.dFldO, DL.dFldSet, DL.dFmt, DL.dFn, DL.dFor, DL.dFresh, DL.dGet1, DL.dGet2, DL.dIfE, DL.dIfS, DL.dInK, DL.dIsi, DL.dIsiO, DL.dJoin, DL.dKeys, DL.dLenSc, DL.dLenSet, DL.dLenSk, DL.dLock, DL.dLockS, DL.dMth, DL.dNeg, DL.dNever, DL.dNext, DL.dNil, DL.dNilA, DL.dNone, DL.dNot, DL.dNotV, DL.dOp, DL.dOr, DL.dOrV, DL.dPar, DL.dPut, DL.dRet, DL.dRetN, DL.dRng1, DL.dRng2, DL.dSeq, DL.dSet, DL.dSetO, DL.dSl, DL.dSome, DL.dTruth, DL.dTup, DL.dVar, DL.dView, DL.dViewT, DL.dYes, DL.dZip, DL.fDc, DL.fDictP, DL.fDictPT, DL.fDisp, DL.fLc, DL.fListT, DL.fLock, DL.fLst, DL.fMake, DL.fMakeK, DL.fMakeL, DL.fNew, DL.gAdd, DL.gBools, DL.gCmp, DL.gConsD, DL.gDin, DL.gEq, DL.gEqO, DL.gGe, DL.gGet, DL.gGt, DL.gI, DL.gIb, DL.gIc, DL.gIn, DL.gInO, DL.gInt, DL.gIsN, DL.gIx, DL.gLe, DL.gLen, DL.gLenO, DL.gLt, DL.gNameD, DL.gNe, DL.gNilD, DL.gNotN, DL.gRepr, DL.gSl, DL.gSorted, DL.gStrI, DL.gStrO, DL.gStrS, DL.gSum, DL.gTupD, DL.gTuple, DL.jCons, DL.jNil, DL.pCons, DL.pNil, startD, isiB, List.map_cons, List.map_nil, List.cons_append, List.nil_append, List.length_cons, List.length_nil, List.set_cons_zero, List.set_cons_succ, List.getElem?_cons_zero, List.getElem?_cons_succ, List.replicate]
  refine ⟨hi + 1, rfl, by omega, by omega, fun k k0 k1 => ⟨by omega, _, .inr ⟨true, rfl⟩, by simp, by simp, fun d md => ?_⟩⟩
  have hd : ∃ l : Int, d = .int l ∧ 0 ≤ l ∧ l ≤ 99 := by
    simp only [List.mem_cons, List.mem_nil_iff, or_false] at md
    rcases md with rfl | rfl | rfl
    · exact ⟨_, rfl, by omega, by omega⟩
    · exact ⟨_, rfl, by omega, by omega⟩
    · exact ⟨_, rfl, by omega, by omega⟩
  obtain ⟨l, rfl, l0, l1⟩ := hd
  refine ⟨mo + 1, rfl, by omega, by omega, fun i i0 i1 => ⟨mw + 1, rfl, by omega, by omega, fun j j0 j1 => ?_⟩⟩
  refine ⟨int_cmp _, int_cmp _, ife ?_ ?_⟩
  · refine ifp rfl ?_
    dsimp only [g2I]
    obtain ⟨t, ht, t0, t1⟩ : ∃ t : Nat, maxI i 1 = (t : Int) ∧ True ∧ t ≤ 10 := ⟨(maxI i 1).toNat, by unfold maxI; split <;> omega, trivial, by unfold maxI; split <;> omega⟩
    obtain ⟨p, hp, p0, p1⟩ : ∃ p : Nat, maxI j 1 = (p : Int) ∧ True ∧ p ≤ 5 := ⟨(maxI j 1).toNat, by unfold maxI; split <;> omega, trivial, by unfold maxI; split <;> omega⟩
    rw [ht, hp]
    clear ht hp i0 i1 j0 j1
    refine ⟨t + p, rfl, by omega, fun ns nd sub len => ?_⟩
    have lt : t ≤ ns.length := by omega
    dsimp only
    rw [cut_take ns t lt, cut_drop ns t lt, sort_strs, sort_strs]
    have le1 : (sortE (ns.take t)).length ≤ 10 := by rw [(sortE_perm _).length_eq, List.length_take]; omega
    have le2 : (sortE (ns.drop t)).length ≤ 5 := by rw [(sortE_perm _).length_eq, List.length_drop]; omega
    refine ⟨flat_strs _, dec_strs _, dp_strs _, flat_strs _, dec_strs _, dp_strs _, lc_steps (es := sortE (ns.take t)) (sortE (ns.drop t)) [] (fun e me R r => ?_) fun xs ex hx => ?_⟩
    · exact ⟨e, sortE (ns.take t), sp, rfl, by omega, sp1, sp2, r⟩
    · dsimp only [DL.dAnd, DL.dAndV, DL.dAny, DL.dAppend, DL.dAsg, DL.dB, DL.dBreak, DL.dC, DL.dCall, DL.dChain, DL.dCons, DL.dConsA, DL.dCont, DL.dDrop, DL.dEnumL, DL.dEnumT, DL.dFld, DL.dFldO, DL.dFldSet, DL.dFmt, DL.dFn, DL.dFor, DL.dFresh, DL.dGet1, DL.dGet2, DL.dIfE, DL.dIfS, DL.dInK, DL.dIsi, DL.dIsiO, DL.dJoin, DL.dKeys, DL.dLenSc, DL.dLenSet, DL.dLenSk, DL.dLock, DL.dLockS, DL.dMth, DL.dNeg, DL.dNever, DL.dNext, DL.dNil, DL.dNilA, DL.dNone, DL.dNot, DL.dNotV, DL.dOp, DL.dOr, DL.dOrV, DL.dPar, DL.dPut, DL.dRet, DL.dRetN, DL.dRng1, DL.dRng2, DL.dSeq, DL.dSet, DL.dSetO, DL.dSl, DL.dSome, DL.dTruth, DL.dTup, DL.dVar, DL.dView, DL.dViewT, DL.dYes, DL.dZip, DL.fDc, DL.fDictP, DL.fDictPT, DL.fDisp, DL.fLc, DL.fListT, DL.fLock, DL.fLst, DL.fMake, DL.fMakeK, DL.fMakeL, DL.fNew, DL.gAdd, DL.gBools, DL.gCmp, DL.gConsD, DL.gDin, DL.gEq, DL.gEqO, DL.gGe, DL.gGet, DL.gGt, DL.gI, DL.gIb, DL.gIc, DL.gIn, DL.gInO, DL.gInt, DL.gIsN, DL.gIx, DL.gLe, DL.gLen, DL.gLenO, DL.gLt, DL.gNameD, DL.gNe, DL.gNilD, DL.gNotN, DL.gRepr, DL.gSl, DL.gSorted, DL.gStrI, DL.gStrO, DL.gStrS, DL.gSum, DL.gTupD, DL.gTuple, DL.jCons, DL.jNil, DL.pCons, DL.pNil, startD, isiB, List.map_cons, List.map_nil, List.cons_append, List.nil_append, List.length_cons, List.length_nil, List.set_cons_zero, List.set_cons_succ, List.getElem?_cons_zero, List.getElem?_cons_succ, List.replicate]
      have pp := pts_drawn (ns := ns) (t := t) ex
      refine ⟨by omega, by rw [List.length_map]; omega, flat_strs _, dec_strs _, dp_strs _, by rw [List.length_map, List.length_map]; omega, points (sortE (ns.take t)) xs, sp, ?_, ?_, ?_, ?_, sp1, sp2, fun bs ob bd bl => ⟨by omega, q _ _ _ _ (plan_drawn l0 l1 nd sub len t1 p1 ex hx ob bd bl)⟩⟩
      · rw [points, List.map_cons, List.map_append, ex]
      · exact pp.nodup_iff.mpr (List.nodup_cons.mpr ⟨fun m => (bag_ok start (sub start m)).2 rfl, nd⟩)
      · rw [pp.length_eq, List.length_cons]; omega
      · intro x m
        rcases List.mem_cons.mp (pp.mem_iff.mp m) with rfl | m
        · decide +kernel
        · exact name_ok (bag_ok x (sub x m)).1
  · refine ⟨3, rfl, by decide, by decide, fun v v0 v1 => ?_⟩
    dsimp only [g2I]
    refine ife ?_ ?_
    · obtain ⟨t, ht, t0, t1⟩ : ∃ t : Nat, maxI i 1 = (t : Int) ∧ True ∧ t ≤ 10 := ⟨(maxI i 1).toNat, by unfold maxI; split <;> omega, trivial, by unfold maxI; split <;> omega⟩
      obtain ⟨p, hp, p0, p1⟩ : ∃ p : Nat, maxI j 1 = (p : Int) ∧ True ∧ p ≤ 5 := ⟨(maxI j 1).toNat, by unfold maxI; split <;> omega, trivial, by unfold maxI; split <;> omega⟩
      rw [ht, hp]
      clear ht hp i0 i1 j0 j1
      refine ⟨t + p, rfl, by omega, fun ns nd sub len => ?_⟩
      have lt : t ≤ ns.length := by omega
      dsimp only
      rw [cut_take ns t lt, cut_drop ns t lt, sort_strs, sort_strs]
      have le1 : (sortE (ns.take t)).length ≤ 10 := by rw [(sortE_perm _).length_eq, List.length_take]; omega
      have le2 : (sortE (ns.drop t)).length ≤ 5 := by rw [(sortE_perm _).length_eq, List.length_drop]; omega
      refine ⟨flat_strs _, dec_strs _, dp_strs _, flat_strs _, dec_strs _, dp_strs _, lc_steps (es := sortE (ns.take t)) (sortE (ns.drop t)) [] (fun e me R r => ?_) fun xs ex hx => ?_⟩
      · exact ⟨e, sortE (ns.take t), sp, rfl, by omega, sp1, sp2, r⟩
      · dsimp only [DL.dAnd, DL.dAndV, DL.dAny, DL.dAppend, DL.dAsg, DL.dB, DL.dBreak, DL.dC, DL.dCall, DL.dChain, DL.dCons, DL.dConsA, DL.dCont, DL.dDrop, DL.dEnumL, DL.dEnumT, DL.dFld, DL.dFldO, DL.dFldSet, DL.dFmt, DL.dFn, DL.dFor, DL.dFresh, DL.dGet1, DL.dGet2, DL.dIfE, DL.dIfS, DL.dInK, DL.dIsi, DL.dIsiO, DL.dJoin, DL.dKeys, DL.dLenSc, DL.dLenSet, DL.dLenSk, DL.dLock, DL.dLockS, DL.dMth, DL.dNeg, DL.dNever, DL.dNext, DL.dNil, DL.dNilA, DL.dNone, DL.dNot, DL.dNotV, DL.dOp, DL.dOr, DL.dOrV, DL.dPar, DL.dPut, DL.dRet, DL.dRetN, DL.dRng1, DL.dRng2, DL.dSeq, DL.dSet, DL.dSetO, DL.dSl, DL.dSome, DL.dTruth, DL.dTup, DL.dVar, DL.dView, DL.dViewT, DL.dYes, DL.dZip, DL.fDc, DL.fDictP, DL.fDictPT, DL.fDisp, DL.fLc, DL.fListT, DL.fLock, DL.fLst, DL.fMake, DL.fMakeK, DL.fMakeL, DL.fNew, DL.gAdd, DL.gBools, DL.gCmp, DL.gConsD, DL.gDin, DL.gEq, DL.gEqO, DL.gGe, DL.gGet, DL.gGt, DL.gI, DL.gIb, DL.gIc, DL.gIn, DL.gInO, DL.gInt, DL.gIsN, DL.gIx, DL.gLe, DL.gLen, DL.gLenO, DL.gLt, DL.gNameD, DL.gNe, DL.gNilD, DL.gNotN, DL.gRepr, DL.gSl, DL.gSorted, DL.gStrI, DL.gStrO, DL.gStrS, DL.gSum, DL.gTupD, DL.gTuple, DL.jCons, DL.jNil, DL.pCons, DL.pNil, startD, isiB, List.map_cons, List.map_nil, List.cons_append, List.nil_append, List.length_cons, List.length_nil, List.set_cons_zero, List.set_cons_succ, List.getElem?_cons_zero, List.getElem?_cons_succ, List.replicate]
        have pp := pts_drawn (ns := ns) (t := t) ex
        refine ⟨by omega, by rw [List.length_map]; omega, flat_strs _, dec_strs _, dp_strs _, by rw [List.length_map, List.length_map]; omega, points (sortE (ns.take t)) xs, sp, ?_, ?_, ?_, ?_, sp1, sp2, fun bs ob bd bl => ⟨by omega, q _ _ _ _ (plan_drawn l0 l1 nd sub len t1 p1 ex hx ob bd bl)⟩⟩
        · rw [points, List.map_cons, List.map_append, ex]
        · exact pp.nodup_iff.mpr (List.nodup_cons.mpr ⟨fun m => (bag_ok start (sub start m)).2 rfl, nd⟩)
        · rw [pp.length_eq, List.length_cons]; omega
        · intro x m
          rcases List.mem_cons.mp (pp.mem_iff.mp m) with rfl | m
          · decide +kernel
          · exact name_ok (bag_ok x (sub x m)).1
    · obtain ⟨t, ht, t0, t1⟩ : ∃ t : Nat, i = (t : Int) ∧ True ∧ t ≤ 10 := ⟨(i).toNat, by  omega, trivial, by  omega⟩
      obtain ⟨p, hp, p0, p1⟩ : ∃ p : Nat, j = (p : Int) ∧ True ∧ p ≤ 5 := ⟨(j).toNat, by  omega, trivial, by  omega⟩
      rw [ht, hp]
      clear ht hp i0 i1 j0 j1
      refine ⟨t + p, rfl, by omega, fun ns nd sub len => ?_⟩
      have lt : t ≤ ns.length := by omega
      dsimp only
      rw [cut_take ns t lt, cut_drop ns t lt, sort_strs, sort_strs]
      have le1 : (sortE (ns.take t)).length ≤ 10 := by rw [(sortE_perm _).length_eq, List.length_take]; omega
      have le2 : (sortE (ns.drop t)).length ≤ 5 := by rw [(sortE_perm _).length_eq, List.length_drop]; omega
      refine ⟨flat_strs _, dec_strs _, dp_strs _, flat_strs _, dec_strs _, dp_strs _, lc_steps (es := sortE (ns.take t)) (sortE (ns.drop t)) [] (fun e me R r => ?_) fun xs ex hx => ?_⟩
      · exact ⟨e, sortE (ns.take t), sp, rfl, by omega, sp1, sp2, r⟩
      · dsimp only [DL.dAnd, DL.dAndV, DL.dAny, DL.dAppend, DL.dAsg, DL.dB, DL.dBreak, DL.dC, DL.dCall, DL.dChain, DL.dCons, DL.dConsA, DL.dCont, DL.dDrop, DL.dEnumL, DL.dEnumT, DL.dFld, DL.dFldO, DL.dFldSet, DL.dFmt, DL.dFn, DL.dFor, DL.dFresh, DL.dGet1, DL.dGet2, DL.dIfE, DL.dIfS, DL.dInK, DL.dIsi, DL.dIsiO, DL.dJoin, DL.dKeys, DL.dLenSc, DL.dLenSet, DL.dLenSk, DL.dLock, DL.dLockS, DL.dMth, DL.dNeg, DL.dNever, DL.dNext, DL.dNil, DL.dNilA, DL.dNone, DL.dNot, DL.dNotV, DL.dOp, DL.dOr, DL.dOrV, DL.dPar, DL.dPut, DL.dRet, DL.dRetN, DL.dRng1, DL.dRng2, DL.dSeq, DL.dSet, DL.dSetO, DL.dSl, DL.dSome, DL.dTruth, DL.dTup, DL.dVar, DL.dView, DL.dViewT, DL.dYes, DL.dZip, DL.fDc, DL.fDictP, DL.fDictPT, DL.fDisp, DL.fLc, DL.fListT, DL.fLock, DL.fLst, DL.fMake, DL.fMakeK, DL.fMakeL, DL.fNew, DL.gAdd, DL.gBools, DL.gCmp, DL.gConsD, DL.gDin, DL.gEq, DL.gEqO, DL.gGe, DL.gGet, DL.gGt, DL.gI, DL.gIb, DL.gIc, DL.gIn, DL.gInO, DL.gInt, DL.gIsN, DL.gIx, DL.gLe, DL.gLen, DL.gLenO, DL.gLt, DL.gNameD, DL.gNe, DL.gNilD, DL.gNotN, DL.gRepr, DL.gSl, DL.gSorted, DL.gStrI, DL.gStrO, DL.gStrS, DL.gSum, DL.gTupD, DL.gTuple, DL.jCons, DL.jNil, DL.pCons, DL.pNil, startD, isiB, List.map_cons, List.map_nil, List.cons_append, List.nil_append, List.length_cons, List.length_nil, List.set_cons_zero, List.set_cons_succ, List.getElem?_cons_zero, List.getElem?_cons_succ, List.replicate]
        have pp := pts_drawn (ns := ns) (t := t) ex
        refine ⟨by omega, by rw [List.length_map]; omega, flat_strs _, dec_strs _, dp_strs _, by rw [List.length_map, List.length_map]; omega, points (sortE (ns.take t)) xs, sp, ?_, ?_, ?_, ?_, sp1, sp2, fun bs ob bd bl => ⟨by omega, q _ _ _ _ (plan_drawn l0 l1 nd sub len t1 p1 ex hx ob bd bl)⟩⟩
        · rw [points, List.map_cons, List.map_append, ex]
        · exact pp.nodup_iff.mpr (List.nodup_cons.mpr ⟨fun m => (bag_ok start (sub start m)).2 rfl, nd⟩)
        · rw [pp.length_eq, List.length_cons]; omega
        · intro x m
          rcases List.mem_cons.mp (pp.mem_iff.mp m) with rfl | m
          · decide +kernel
          · exact name_ok (bag_ok x (sub x m)).1
end
end K05

set_option Elab.async false
set_option linter.all false
set_option maxRecDepth 100000
set_option maxHeartbeats 2000000
namespace K05
open PySem PySem.Spec PyProof.Rows L2 LW RZ DL
section
variable {P : Program} {w : World} {K : PySem.W.Frag} {mg : Str → Option Value} {base : Heap} {tk : Tok} {CP : Addr} {BP : FuncData → Prop} {gV : List V → List V → List V}
theorem steps_of {ys : List DL.D} {ss : List Stp} (h : ys.Perm (ss.map Stp.D)) : ∃ zs : List Stp, ys = zs.map Stp.D ∧ zs.Perm ss := by
  obtain ⟨zs, p, e⟩ := perm_map h rfl
  exact ⟨zs, e.symm, p⟩
theorem bounds_of {ys : List DL.D} {ss : List Bnd} (h : ys.Perm (ss.map Bnd.D)) : ∃ zs : List Bnd, ys = zs.map Bnd.D ∧ zs.Perm ss := by
  obtain ⟨zs, p, e⟩ := perm_map h rfl
  exact ⟨zs, e.symm, p⟩
abbrev psInit : List Str := ["self", "horizon", "events", "steps", "bounds"]
abbrev gIniP : SpI := gInit fun h es xs bs fs => fs = planF h es xs bs
abbrev gDapp : List DL.D → List DL.D → List DL.D := fun ds es => ds ++ es
/-- the keyword call with all three parts -/
def Kw3 (K : PySem.W.Frag) (BP : FuncData → Prop) (gV : List V → List V → List V) : Prop := ∀ fd, BP fd → ∃ g', KBn K fd psInit (1 + 1) ["events", "steps", "bounds"] g' gV
def KwR (K : PySem.W.Frag) (gV : List V → List V → List V) : Prop := ∀ (W : Wd) (a : Addr) (vs zs : List V) (ds es : List DL.D), RepL K W vs ds → RepL K W zs es → ∃ us, gV (.ref a :: vs) zs = .ref a :: us ∧ RepL K W us (gDapp ds es)
abbrev gBuilt (CP : Addr) : SpD := fun ds Q _ => ∃ h es xs bs, ds = [.stm, plainD h es xs bs] ∧ okPlain h es xs bs ∧ Q (planD CP h es xs bs)
theorem sc__law_built : FnScope ["stream", "plain", "parts", "part"] ["stream", "plain"] (defScope (top 40)) := ⟨rfl, rfl, rfl, by decide +kernel, rfl, by decide +kernel, by decide +kernel⟩
theorem ok_law_built (T : Bl mg) (C__law_mixed : Cal P w K mg base "_law_mixed" 2 ["stream", "items"] gMixed) (I_Plan : Ini P w K mg base "Plan" CP 8 psInit BP gIniP) (B_Plan_events_steps_bounds : Kw3 K BP gV) (R_Plan_events_steps_bounds : KwR K gV) (F : Dfn K mg "_law_built" "_law_built" (top 40) ["stream", "plain"]) :
    Cal P w K mg base "_law_built" 10 ["stream", "plain"] (gBuilt CP) := by
  refine okC F sc__law_built (by decide) (by rintro ds Q De ⟨h, es, xs, bs, rfl, _⟩; rfl) fun f cdv A outer s H E De hgd hr => ⟨_, (dss_cons (ds_setLc (i := 2) rfl rfl (own := [("part", 3)]) (by rfl) sc__law_built.nd (di_any (de_sl (dv 1) (do_some de_int) do_none)) (blkOk_by (own := [("part", 3)]) (N := ["stream", "plain", "parts", "part"]) (sc := defScope (top 40)) (by decide +kernel)) (fun _ _ _ _ _ => (dg_name (i := 3) sc__law_built.nd rfl (.inl rfl))) (fun _ _ _ _ _ => dts_nil) (fun _ _ _ _ _ => (de_callTy (call_tupleA) l_tuple (by rfl) T.«tuple» (by decide +kernel) (da_cons (de_cal C__law_mixed hgd hr (by decide) (by rfl) (passN fun _ _ _ h => h) (da_cons (dv 0) (da_cons (dv 3) da_nil))) da_nil))) (by decide))
      (dss_one (ds_ret (de_fresh (df_makeK I_Plan B_Plan_events_steps_bounds R_Plan_events_steps_bounds hgd hr (by decide) (by rfl) (passes_call (takes_of rfl rfl rfl rfl) fun _ _ _ _ h => h) (da_cons (de_ix (dv 1) de_int (fun _ _ => rfl)) da_nil) (dk_cons (de_ix (dv 2) de_int (fun _ _ => rfl)) (dk_cons (de_ix (dv 2) de_int (fun _ _ => rfl)) (dk_cons (de_ix (dv 2) de_int (fun _ _ => rfl)) dk_nil)))))))), ?_⟩
  rintro ds Dq ⟨h, es, xs, bs, rfl, k, q⟩
  rw [show startD ["stream", "plain", "parts", "part"] [.stm, plainD h es xs bs] = [.dat .stm, .dat (.tup [.int h, .tup (es.map DL.D.str), .tup (xs.map Stp.D), .tup (bs.map Bnd.D)]), .un, .un] from rfl]
  have sL : (16777216 : Nat) = sizeLine := sizeLine_eq.symm
  dsimp only [DL.dAnd, DL.dAndV, DL.dAny, DL.dAppend, DL.dAsg, DL.dB, DL.dBreak, DL.dC, DL.dCall, DL.dChain, DL.dCons, DL.dConsA, DL.dCont, DL.dDrop, DL.dEnumL, DL.dEnumT, DL.dFld, DL.dFldO, DL.dFldSet, DL.dFmt, DL.dFn, DL.dFor, DL.dFresh, DL.dGet1, DL.dGet2, DL.dIfE, DL.dIfS, DL.dInK, DL.dIsi, DL.dIsiO, DL.dJoin, DL.dKeys, DL.dLenSc, DL.dLenSet, DL.dLenSk, DL.dLock, DL.dLockS, DL.dMth, DL.dNeg, DL.dNever, DL.dNext, DL.dNil, DL.dNilA, DL.dNone, DL.dNot, DL.dNotV, DL.dOp, DL.dOr, DL.dOrV, DL.dPar, DL.dPut, DL.dRet, DL.dRetN, DL.dRng1, DL.dRng2, DL.dSeq, DL.dSet, DL.dSetO, DL.dSl, DL.dSome, DL.dTruth, DL.dTup, DL.dVar, DL.dView, DL.dViewT, DL.dYes, DL.dZip, DL.fDc, DL.fDictP, DL.fDictPT, DL.fDisp, DL.fLc, DL.fListT, DL.fLock, DL.fLst, DL.fMake, DL.fMakeK, DL.fMakeL, DL.fNew, DL.gAdd, DL.gBools, DL.gCmp, DL.gConsD, DL.gDin, DL.gEq, DL.gEqO, DL.gGe, DL.gGet, DL.gGt, DL.gI, DL.gIb, DL.gIc, DL.gIn, DL.gInO, DL.gInt, DL.gIsN, DL.gIx, DL.gLe, DL.gLen, DL.gLenO, DL.gLt, DL.gNameD, DL.gNe, DL.gNilD, DL.gNotN, DL.gRepr, DL.gSl, DL.gSorted, DL.gStrI, DL.gStrO, DL.gStrS, DL.gSum, DL.gTupD, DL.gTuple, DL.jCons, DL.jNil, DL.pCons, DL.pNil, startD, isiB, List.map_cons, List.map_nil, List.cons_append, List.nil_append, List.length_cons, List.length_nil, List.set_cons_zero, List.set_cons_succ, List.getElem?_cons_zero, List.getElem?_cons_succ, List.replicate]
  rw [show DL.cutD [DL.D.int h, .tup (es.map DL.D.str), .tup (xs.map Stp.D), .tup (bs.map Bnd.D)] (some 1) none = [.tup (es.map DL.D.str), .tup (xs.map Stp.D), .tup (bs.map Bnd.D)] from by unfold DL.cutD HT.sIx; simp]
  dsimp only [lcD, wipeE]
  dsimp only [DL.dAnd, DL.dAndV, DL.dAny, DL.dAppend, DL.dAsg, DL.dB, DL.dBreak, DL.dC, DL.dCall, DL.dChain, DL.dCons, DL.dConsA, DL.dCont, DL.dDrop, DL.dEnumL, DL.dEnumT, DL.dFld, DL.dFldO, DL.dFldSet, DL.dFmt, DL.dFn, DL.dFor, DL.dFresh, DL.dGet1, DL.dGet2, DL.dIfE, DL.dIfS, DL.dInK, DL.dIsi, DL.dIsiO, DL.dJoin, DL.dKeys, DL.dLenSc, DL.dLenSet, DL.dLenSk, DL.dLock, DL.dLockS, DL.dMth, DL.dNeg, DL.dNever, DL.dNext, DL.dNil, DL.dNilA, DL.dNone, DL.dNot, DL.dNotV, DL.dOp, DL.dOr, DL.dOrV, DL.dPar, DL.dPut, DL.dRet, DL.dRetN, DL.dRng1, DL.dRng2, DL.dSeq, DL.dSet, DL.dSetO, DL.dSl, DL.dSome, DL.dTruth, DL.dTup, DL.dVar, DL.dView, DL.dViewT, DL.dYes, DL.dZip, DL.fDc, DL.fDictP, DL.fDictPT, DL.fDisp, DL.fLc, DL.fListT, DL.fLock, DL.fLst, DL.fMake, DL.fMakeK, DL.fMakeL, DL.fNew, DL.gAdd, DL.gBools, DL.gCmp, DL.gConsD, DL.gDin, DL.gEq, DL.gEqO, DL.gGe, DL.gGet, DL.gGt, DL.gI, DL.gIb, DL.gIc, DL.gIn, DL.gInO, DL.gInt, DL.gIsN, DL.gIx, DL.gLe, DL.gLen, DL.gLenO, DL.gLt, DL.gNameD, DL.gNe, DL.gNilD, DL.gNotN, DL.gRepr, DL.gSl, DL.gSorted, DL.gStrI, DL.gStrO, DL.gStrS, DL.gSum, DL.gTupD, DL.gTuple, DL.jCons, DL.jNil, DL.pCons, DL.pNil, startD, isiB, List.map_cons, List.map_nil, List.cons_append, List.nil_append, List.length_cons, List.length_nil, List.set_cons_zero, List.set_cons_succ, List.getElem?_cons_zero, List.getElem?_cons_succ, List.replicate]
  have el := k.ok.el
  have xl := k.ok.xl
  have bl := k.ok.bl
  refine ifp rfl ⟨es.map DL.D.str, .inl rfl, by rw [List.length_map]; omega, fun ys p => ?_⟩
  obtain ⟨es', rfl, pe⟩ := strs_of p
  refine ifp rfl ⟨xs.map Stp.D, .inl rfl, by rw [List.length_map]; omega, fun ys p => ?_⟩
  obtain ⟨xs', rfl, px⟩ := steps_of p
  refine ifp rfl ⟨bs.map Bnd.D, .inl rfl, by rw [List.length_map]; omega, fun ys p => ?_⟩
  obtain ⟨bs', rfl, pb⟩ := bounds_of p
  have e1 := planF_one (h := h) k.ok pe px pb
  refine ⟨rfl, rfl, h, es', xs', bs', rfl, k.h0, k.h1, k.ok.perm pe px pb, fun fs ef a => ?_⟩
  rw [ef, e1]
  exact q
end
end K05

set_option Elab.async false
set_option linter.all false
set_option maxRecDepth 100000
set_option maxHeartbeats 2000000
/-! v in a list or tuple of texts, v an instance with an own __eq__ that says no. -/
namespace GQ
open PySem PySem.SeqAt
open AutoSeq1 (wpAny_loadPart')
open MeetsSeq MeetsSeq2 MeetsSeq3 SeqRoads2
section
variable {prog : Program} {w : World} {A : Around} {R : Result → Shared → Prop}
/-- at each turn the list is read anew: N items, the i-th is not x -/
def ListN (prog : Program) (w : World) (A : Around) (E : Value → Shared → Prop) (l : Addr) (x : Value) (N : Nat) (I : Nat → Shared → Prop) : Prop :=
  ∀ i s, I i s → ∃ (items : Array Value) (n : Nat) (dd : Option Addr) (sl : Array (Option Value)), s.heap.get? l = some { cls := .type "list", dict := dd, data := .seq items n, slots := sl } ∧ items.size = N ∧
    ∀ (h1 : i < items.size), wpAny (model prog w) A.in1 (eqBool items[i] x) (fun r s' => r = false ∧ I (i + 1) s') E s
theorem in_loopG (l : Addr) (x : Value) (N : Nat) (I : Nat → Shared → Prop) (hl : ListN prog w A (fun e s' => R (.error e) s') l x N I)
    (fin : ∀ s, I N s → R (.ok (.ret (.bool false))) s) (k : Nat) :
    ∀ i : Nat, N - i = k → i ≤ N → ∀ s, I i s →
      wpAny (model prog w) A.in1 (Builtin.«list.__contains__.loop» ⟨[.ref l, x, rawInt i], []⟩) (FinOf prog w A R) (fun e s' => R (.error e) s') s := by
  induction k with
  | zero =>
    intro i hk hi s h
    obtain ⟨items, n, dd, sl, hl1, hs1, _⟩ := hl _ _ h
    have hi' : i = N := by omega
    have hR : R (.ok (.ret (.bool false))) s := fin s (hi' ▸ h)
    obtain ⟨hp, g, d, tk, os⟩ := s
    wp_walk using wpAny_loadPart' hl1
    have hi1 : items[((i : Nat) : Int).toNat]? = none := by simp; omega
    rw [hi1]
    wp_walk
    exact hR
  | succ k ih =>
    intro i hk hi s h
    obtain ⟨items, n, dd, sl, hl1, hs1, turn⟩ := hl _ _ h
    have hlt : i < items.size := by omega
    have ht := turn hlt
    obtain ⟨hp, g, d, tk, os⟩ := s
    wp_walk using wpAny_loadPart' hl1
    have hi1 : items[((i : Nat) : Int).toNat]? = some items[i] := by simp [hlt]
    have hc : ((i : Int) + 1) = ((i + 1 : Nat) : Int) := by omega
    rw [hi1]
    refine wpAny_bind (wpAny_mono ht (fun r s2 h2 => ?_) fun _ _ x => x)
    obtain ⟨hr, h2⟩ := h2
    subst hr
    have hrec := ih (i + 1) (by omega) (by omega) s2 h2
    obtain ⟨hp2, g2, d2, tk2, os2⟩ := s2
    wp_walk
    rw [hc]
    exact ⟨plainId_quiet plain_contains_loop _, codeAny_builtin entry_contains_loop (by
      rw [Around.under_plainId plain_contains_loop _]
      exact hrec)⟩
theorem list_inG (l : Addr) (x : Value) (N : Nat) (I : Nat → Shared → Prop) (hl : ListN prog w A (fun e s' => R (.error e) s') l x N I)
    (fin : ∀ s, I N s → R (.ok (.ret (.bool false))) s) {s : Shared} (h : I 0 s) :
    wpAny (model prog w) A.in1 (Builtin.«list.__contains__» ⟨[.ref l, x], []⟩) (FinOf prog w A R) (fun e s' => R (.error e) s') s := by
  obtain ⟨items, n, dd, sl, hl1, hs1, _⟩ := hl _ _ h
  have hrec := in_loopG (A := A) (R := R) l x N I hl fin _ 0 rfl (Nat.zero_le _) s h
  obtain ⟨hp, g, d, tk, os⟩ := s
  wp_walk using wpAny_loadPart' hl1
  exact ⟨plainId_quiet plain_contains_loop _, codeAny_builtin entry_contains_loop (by
    rw [Around.under_plainId plain_contains_loop _]
    exact hrec)⟩
theorem tuple_inG (l : Addr) (x : Value) (items : Array Value) (n : Nat) (dd : Option Addr) (sl : Array (Option Value)) (I : Nat → Shared → Prop)
    (turn : ∀ i (h1 : i < items.size) s, I i s → wpAny (model prog w) A.in1 (eqBool items[i] x) (fun r s' => r = false ∧ I (i + 1) s') (fun e s' => R (.error e) s') s)
    (fin : ∀ s, I items.size s → R (.ok (.ret (.bool false))) s) {s : Shared} (hl1 : s.heap.get? l = some { cls := .type "tuple", dict := dd, data := .seq items n, slots := sl }) (h : I 0 s) :
    wpAny (model prog w) A.in1 (Builtin.«tuple.__contains__» ⟨[.ref l, x], []⟩) (FinOf prog w A R) (fun e s' => R (.error e) s') s := by
  have h0 := h
  obtain ⟨hp, g, d, tk, os⟩ := s
  wp_walk using wpAny_loadPart' hl1, wpAny_forIn_array _ (fun rest b s' => b.1 = none ∧ ∃ i, rest = items.toList.drop i ∧ i ≤ items.size ∧ I i s') _
  case turn =>
    rintro y rest b s' ⟨hb', i, hz, hi, hI⟩
    have h1 : i < items.size := by
      rcases Nat.lt_or_ge i items.toList.length with h' | h'
      · simpa using h'
      · rw [List.drop_of_length_le h'] at hz; cases hz
    rw [List.drop_eq_getElem_cons (by simpa using h1)] at hz
    injection hz with hy hrest
    have hy : y = items[i] := by simpa using hy
    subst hy
    refine wpAny_bind (wpAny_mono (turn i h1 s' hI) (fun r s2 q2 => ?_) fun _ _ x => x)
    obtain ⟨hr, q2⟩ := q2
    subst hr
    wp_walk
    exact ⟨rfl, i + 1, hrest, h1, q2⟩
  case fin =>
    rintro ⟨b1, b2⟩ s' ⟨hb', i, hz, hi, hI⟩
    simp only at hb'
    subst hb'
    have hge : items.size ≤ i := by
      rcases Nat.lt_or_ge i items.toList.length with h' | h'
      · rw [List.drop_eq_getElem_cons h'] at hz; cases hz
      · simpa using h'
    have e : i = items.size := by omega
    subst e
    wp_walk
    exact fin s' hI
  case h => exact ⟨rfl, 0, by simp, Nat.zero_le _, h0⟩
end
end GQ
namespace GQ
open PySem PySem.SeqAt
open MeetsSeq MeetsSeq2 MeetsSeq3 SeqRoads2
section
variable {prog : Program} {w : World} {A : Around} {E : Value → Shared → Prop}
theorem in_tupG {l : Addr} {x : Value} {items : Array Value} {Q : Value → Shared → Prop} {s : Shared} (I : Nat → Shared → Prop) (hl : s.heap.IsTuple l items)
    (turn : ∀ i (h1 : i < items.size) s, I i s → wpAny (model prog w) A.in1 (eqBool items[i] x) (fun r s' => r = false ∧ I (i + 1) s') E s)
    (fin : ∀ s, I items.size s → Q (.bool false) s) (h : I 0 s) : wpAny (model prog w) A (compareOp .In x (.ref l)) Q E s := by
  obtain ⟨⟨cls, dd, data, sl⟩, ho, hc, n, hd⟩ := id hl
  simp only at hc hd
  subst hc hd
  show wpAny _ A (do return .bool (← contains (.ref l) x)) Q E s
  refine wpAny_bind (wpAny_contains_slot ⟨_, ho, rfl⟩ F.slot_tuple_contains (wpAny_mono (call_here F.slot_tuple_contains ⟨_, ho, rfl⟩ F.entry_tuple_contains (F.args_tuple_contains_2 _ _)
    (tuple_inG (R := wants (fun v s' => ∃ b, v = .bool b ∧ Q (.bool b) s') E) l x items n dd sl I turn (fun s' q => ⟨false, rfl, fin s' q⟩) ho h)) (fun v s' hv => ?_) fun _ _ e => e))
  obtain ⟨b, rfl, hq⟩ := hv
  exact wpAny_truthy_bool (wpAny_pure hq)
theorem in_lstG {l : Addr} {x : Value} {N : Nat} {Q : Value → Shared → Prop} {s : Shared} (I : Nat → Shared → Prop) (hl : ListN prog w A E l x N I)
    (fin : ∀ s, I N s → Q (.bool false) s) (h : I 0 s) : wpAny (model prog w) A (compareOp .In x (.ref l)) Q E s := by
  obtain ⟨items, n, dd, sl, ho, _, _⟩ := hl _ _ h
  show wpAny _ A (do return .bool (← contains (.ref l) x)) Q E s
  refine wpAny_bind (wpAny_contains_slot ⟨_, ho, rfl⟩ F.slot_list_contains (wpAny_mono (call_here F.slot_list_contains ⟨_, ho, rfl⟩ F.entry_list_contains (F.args_list_contains_2 _ _)
    (list_inG (R := wants (fun v s' => ∃ b, v = .bool b ∧ Q (.bool b) s') E) l x N I hl (fun s' q => ⟨false, rfl, fin s' q⟩) h)) (fun v s' hv => ?_) fun _ _ e => e))
  obtain ⟨b, rfl, hq⟩ := hv
  exact wpAny_truthy_bool (wpAny_pure hq)
end
end GQ
namespace PySem.W
open PySem PySem.Calls PyProof.Rows Builtin PySem.SeqAt
open MeetsSeq
section
variable {prog : Program} {w : World} {A : Around} {E : Value → Shared → Prop} {s : Shared} {K : Frag} {x C f : Addr} {ox : Obj} {od : Option Obj}
theorem str_eq_declines_inst (b : Str) (u : Tok) (l C dx : Addr) :
    Meets (Builtin.«str.__eq__» ⟨[.str b u, .ref l], []⟩) (fun _ R s => s.heap.get? l = some (instObj C dx) ∧ R (.ok (.ret .notImplemented)) s) :=
  .of_wp fun prog w A R s h => by obtain ⟨hp, g, d, tk, os⟩ := s; obtain ⟨hl, h⟩ := h; wp_walk using AutoSeq1.wpAny_loadPart' hl, wpAny_load hl; exact ⟨_, rfl, h⟩
/-- a text against an instance: the text declines, the instance's own __eq__ answers -/
theorem eqBool_strK {y : Str} {t : Tok} {Q : Bool → Shared → Prop} (hu : A.units < cLine) (X : K.In s.heap) {dx : Addr} (hx : s.heap.get? x = some (instObj C dx)) (I : InstAt s.heap x ox C od) (hn : subIn K (.ref C) (.type "str") = some false)
    (he : findIn K (.ref C) "__eq__" = some (some (.ref f))) (hf : isFn K (.ref f) = true)
    (h : wpAny (model prog w) A (call (.ref f) [.ref x, .str y t]) (fun v s' => ∃ r, v = .bool r ∧ Q r s') E s) : wpAny (model prog w) A (eqBool (.str y t) (.ref x)) Q E s := by
  have ha : s.TypeIs (.str y t) "str" := rfl
  unfold eqBool
  refine wpAny_holding ?_
  refine wpAny_ite_split (fun hab => absurd (eq_of_beq hab) (by intro z; cases z)) (fun _ => ?_)
  have body : wpAny (model prog w) A (richCompare .Eq (.str y t) (.ref x)) (fun v s' => ∃ r, v = .bool r ∧ Q r s') E s := by
    simp only [richCompare, cmpInfo, ha.oneThing_none]
    try with_reducible refine wpAny_holding ?_
    refine wpAny_bind (wpAny_cRoomFor hu ?_)
    refine wpAny_bind (wpAny_typeOf ha (wpAny_bind (I.type.here ?_)))
    have ne : (Value.type "str" != Value.ref C) = true := by simp
    simp only [ne, if_true]
    refine wpAny_bind ((looks_subIn X hn).here ?_)
    simp only [Bool.false_eq_true, if_false, Bool.not_false, if_true]
    refine wpAny_bind (m := tryCompare (.str y t) _ (.ref x)) (wpAny_tryCompare_declines ha F.slot_str_eq (call_meets F.slot_str_eq ha F.entry_str_eq (F.args_str_eq_2 _ _) (str_eq_declines_inst y t x C dx) ⟨hx, rfl, ?_⟩))
    have one : wpAny (model prog w) A (tryCompare (.ref x) "__eq__" (.str y t)) (fun r s' => ∃ v, r = some v ∧ ∃ r, v = .bool r ∧ Q r s') E s := by
      unfold tryCompare
      refine wpAny_bind (ifBound_K X I he hf (wpAny_mono h (fun v s' hv => ?_) fun _ _ e => e))
      obtain ⟨r, rfl, q⟩ := hv
      exact wpAny_pure ⟨_, rfl, r, rfl, q⟩
    refine wpAny_bind (wpAny_mono one (fun r s' z => ?_) fun _ _ e => e)
    obtain ⟨v, rfl, hq⟩ := z
    exact wpAny_pure hq
  refine wpAny_bind (wpAny_mono body (fun v s' hv => ?_) fun _ _ x => x)
  obtain ⟨r, rfl, q⟩ := hv
  exact wpAny_truthy_bool q
end
end PySem.W
namespace PySem.SeqAt
open MeetsSeq
open AutoSeq1 (wpAny_loadPart')
theorem dict_eq_declines_str (l : Addr) (o : Obj) (hc : o.ExactDict) (b : Str) (u : Tok) :
    Meets (Builtin.«dict.__eq__» ⟨[.ref l, .str b u], []⟩) (fun _ R s => s.heap.get? l = some o ∧ R (.ok (.ret .notImplemented)) s) :=
  .of_wp fun prog w A R s h => by obtain ⟨hp, g, d, tk, os⟩ := s; obtain ⟨hl, h⟩ := h; obtain ⟨h1, h2, h3⟩ := hc; have f1 := PySem.F.sub_str_dict; wp_walk using wpAny_loadPart' hl; exact ⟨_, rfl, h⟩
theorem str_eq_declines_dict (b : Str) (u : Tok) (l : Addr) (o : Obj) (es : Array DictEntry) (ep : Nat) (hd : o.data = .dict es ep) :
    Meets (Builtin.«str.__eq__» ⟨[.str b u, .ref l], []⟩) (fun _ R s => s.heap.get? l = some o ∧ R (.ok (.ret .notImplemented)) s) :=
  .of_wp fun prog w A R s h => by obtain ⟨hp, g, d, tk, os⟩ := s; obtain ⟨hl, h⟩ := h; obtain ⟨c, dd, da, sl⟩ := o; simp only at hd; subst hd; wp_walk using wpAny_loadPart' hl, wpAny_load hl; exact ⟨_, rfl, h⟩
section
variable {A : Around} {s : Shared}
theorem EqAt.str_dict {l : Addr} {es : Array DictEntry} {ep : Nat} (b : Str) (u : Tok) (hd : ∃ o, s.heap.get? l = some o ∧ o.ExactDict ∧ o.data = .dict es ep) (hu : A.units < cLine) : EqAt A s (.str b u) (.ref l) false := fun prog w E Q h => by
  obtain ⟨o, ho, hc, hd⟩ := hd
  unfold eqBool
  refine wpAny_holding ?_
  refine wpAny_ite_split (fun hab => absurd (eq_of_beq hab) nofun) (fun _ => ?_)
  refine wpAny_bind (rc_eq_decline_or (k := false) (typeIs_str s b u) ⟨_, ho, hc.1⟩ (by decide) PySem.F.sub_dict_str F.slot_str_eq PySem.F.slot_dict_eq_refl
    (fun _ hq => call_meets F.slot_str_eq (typeIs_str s b u) F.entry_str_eq (F.args_str_eq_2 _ _) (str_eq_declines_dict b u l o es ep hd) ⟨ho, hq⟩)
    (fun _ hq => call_meets PySem.F.slot_dict_eq_refl ⟨_, ho, hc.1⟩ PySem.F.entry_dict_eq (PySem.F.args_dict_eq_2 _ _) (dict_eq_declines_str l o hc b u) ⟨ho, hq⟩)
    (fun _ hq => wpAny_of_eq (rfl : isSame (.str b u) (.ref l) = pure false) hq) (.inr hu) (wpAny_truthy_bool h))
end
end PySem.SeqAt
namespace DL
open PySem PySem.Spec PyProof.Rows L2 LW RZ
section
variable {X : Cx} {c : Cn} {K : PySem.W.Frag} {k j : Nat} {f C : Addr} {fd : FuncData} {ps : List Str} {sp : Sp} {g : SpD}
def SqS (K : PySem.W.Frag) (H : Hp) (p : Addr) (ss : List Str) : Prop := SqL K H p (ss.map V.str) ∨ SqT K H p (ss.map V.str)
theorem vals_strs : ∀ {ss : List Str} {us : List Value}, Vals (ss.map V.str) us → ∀ u ∈ us, ∃ s t, s ∈ ss ∧ u = Value.str s t
  | [], _, r, u, m => by cases r; cases m
  | s :: ss, _, r, u, m => by
    cases r with
    | cons h r =>
      obtain ⟨t, e⟩ := (show ∃ t, _ = Value.str s t from h)
      rcases List.mem_cons.mp m with rfl | m
      · exact ⟨s, t, List.mem_cons_self, e⟩
      · obtain ⟨s', t', ms, e'⟩ := vals_strs r u m
        exact ⟨s', t', List.mem_cons_of_mem _ ms, e'⟩
/-- a dict is in no list or tuple of texts -/
def rInDict (K : PySem.W.Frag) : R2 := fun x y H Q => ∃ a p ss, x = .ref a ∧ IsD H a ∧ y = .ref p ∧ SqS K H p ss ∧ Q (.bl false) H
theorem op_inDict (hu : X.A.units + 64 < cLine) (hK : X.K = K := by rfl) : OpR X (compareOp .In) (rInDict K) := by
  subst hK
  intro pins s σ H x y v u Q I rx ry h
  obtain ⟨a, p, ss, rfl, hd, rfl, hs, q⟩ := h
  obtain rfl : v = Value.ref a := rx
  obtain rfl : u = Value.ref p := ry
  have raw : ∃ es ep, ∃ o, s.heap.get? a = some o ∧ o.ExactDict ∧ o.data = .dict es ep := by
    rcases hd with ⟨kvs, e⟩ | ⟨kvs, e⟩
    · obtain ⟨_, _, vs, _, dd⟩ := dk_rd I.hok e
      obtain ⟨o, es, ep, h1, h2, h3, _⟩ := dd
      exact ⟨es, ep, o, h1, h2, h3⟩
    · obtain ⟨_, _, xs, _, o, es, ep, h1, h2, h3, _⟩ := dt_rd I.hok e
      exact ⟨es, ep, o, h1, h2, h3⟩
  obtain ⟨es, ep, raw⟩ := raw
  have no : ∀ its : List Value, Vals (ss.map V.str) its → ∀ y, y ∈ its.toArray → SeqAt.EqAt X.A.in1 s y (.ref a) ((fun _ => false) y) := fun its r y m => by
    obtain ⟨t, tk, _, rfl⟩ := vals_strs r y (by simpa using m)
    exact SeqAt.EqAt.str_dict t tk raw (by show X.A.units + 1 < cLine; omega)
  have none : ∀ its : List Value, (its.toArray.any fun _ => false) = false := fun its => by simp
  rcases hs with hs | hs
  · obtain ⟨its, r, pl, _⟩ := I.list hs
    exact SeqAt.in_listAt (fun _ => false) pl.isList (no its r) (by rw [none]; exact ⟨.bl false, H, I, rfl, q⟩)
  · obtain ⟨its, r, pl, _⟩ := I.tuple hs
    exact SeqAt.in_tupleAt (fun _ => false) pl (no its r) (by rw [none]; exact ⟨.bl false, H, I, rfl, q⟩)
/-- an instance whose own __eq__ says no is in no list or tuple of texts -/
def rInObj (K : PySem.W.Frag) (C : Addr) (sp : Sp) : R2 := fun x y H Q => ∃ (a dx : Addr) (fs : List (Str × V)) (p : Addr) (ss : List Str), x = .ref a ∧ y = .ref p ∧ ∃ J : Hp → Prop, J H ∧
  (∀ H1, J H1 → H1 a = some (.ins C dx fs) ∧ ∀ z ∈ ss, sp [.ref a, .str z] H1 (fun v H2 => v = .bl false ∧ J H2) noE) ∧ ((∀ H1, J H1 → SqL K H1 p (ss.map V.str)) ∨ SqT K H p (ss.map V.str)) ∧ ∀ H1, J H1 → Q (.bl false) H1
theorem op_inObj (ns : PySem.W.subIn X.K (.ref C) (.type "str") = some false) (hs : PySem.W.findIn X.K (.ref C) "__eq__" = some (some (.ref f))) (hf : PySem.W.isFn X.K (.ref f) = true) (F : FnG X.prog X.w X.K X.mg X.base (L2.CX X.prog X.w) k f fd ps sp) (hgd : X.A.guards = some []) (hr : Room (k + 1) X.A) (hb : Binds X.K fd ps []) (hK : X.K = K := by rfl) :
    OpR X (compareOp .In) (rInObj K C sp) := by
  subst hK
  intro pins s σ H x y v u Q I rx ry h
  obtain ⟨a, dx, fs, p, ss, rfl, rfl, J, j0, js, hq, q⟩ := h
  obtain rfl : v = Value.ref a := rx
  obtain rfl : u = Value.ref p := ry
  have turn : ∀ (its : List Value), Vals (ss.map V.str) its → ∀ i (h1 : i < its.toArray.size) s', (∃ H1, Inv X pins σ H1 s' ∧ J H1) →
      wpAny (model X.prog X.w) X.A.in1 (eqBool its.toArray[i] (.ref a)) (fun r s2 => r = false ∧ ∃ H1, Inv X pins σ H1 s2 ∧ J H1) X.xe s' := by
    rintro its r i h1 s' ⟨H1, I1, j1⟩
    obtain ⟨z, t, mz, ez⟩ := vals_strs r its.toArray[i] (by simp)
    rw [ez]
    obtain ⟨ea, sp1⟩ := js H1 j1
    have hx : s'.heap.get? a = some (PySem.W.instObj C dx) := (show ObjOk X.prog X.w H1 s'.heap a (.ins C dx fs) from I1.hok a _ ea).2.2.2.1
    obtain ⟨mA, JJ, _⟩ := ins_get I1.hok ea
    obtain ⟨od, JJ, _⟩ := JJ.look
    refine PySem.W.eqBool_strK (A := X.A.in1) hr.in1.units0 I1.kIn hx JJ ns hs hf (wpAny_mono (run_at (A := X.A.in1) F (by exact hgd) rfl hr.in1 hb passNo I1 (Paired.cons (show L2.RelV (V.ref a) (Value.ref a) from rfl) (.cons (show L2.RelV (V.str z) (Value.str z t) from ⟨t, rfl⟩) .nil)) (sp1 z mz)) (fun u s2 w => ?_) fun _ _ e => e)
    obtain ⟨v, H2, I2, rv, rfl, j2⟩ := w
    cases (show u = Value.bool false from rv)
    exact ⟨false, rfl, rfl, H2, I2, j2⟩
  have fin : ∀ s', (∃ H1, Inv X pins σ H1 s' ∧ J H1) → EP X pins σ Q (Value.bool false) s' := fun s' ⟨H1, I1, j1⟩ => ⟨.bl false, H1, I1, rfl, q H1 j1⟩
  rcases hq with hq | hq
  · refine GQ.in_lstG (N := ss.length) (fun _ s' => ∃ H1, Inv X pins σ H1 s' ∧ J H1) (fun i s' ⟨H1, I1, j1⟩ => ?_) (fun s' h => fin s' h) ⟨H, I, j0⟩
    obtain ⟨its, r, pl, _⟩ := I1.list (hq H1 j1)
    obtain ⟨o, n, e, hc, hd, hda⟩ := pl
    obtain ⟨c1, d1, da, sl⟩ := o
    simp only at hc hd hda
    have len : its.toArray.size = ss.length := by
      have := r.length
      simpa using this.symm
    refine ⟨its.toArray, n, d1, sl, ?_, len, fun h1 => turn its r i h1 s' ⟨H1, I1, j1⟩⟩
    rw [e]
    subst hc hda
    rfl
  · obtain ⟨its, r, pl, _⟩ := I.tuple hq
    exact GQ.in_tupG (fun _ s' => ∃ H1, Inv X pins σ H1 s' ∧ J H1) pl (fun i h1 s' h => turn its r i h1 s' h) (fun s' h => fin s' h) ⟨H, I, j0⟩
/-! over data -/
/-- in a list or tuple: data; a dict in texts; an instance in texts -/
def gInA (C : Addr) (g : SpD) : D → D → (D → Prop) → Prop := fun x y Q => gIn false x y Q ∨ ∃ ss : List Str, (y = .tup (ss.map D.str) ∨ ∃ n, y = .lst n (ss.map D.str)) ∧
  ((∃ t es, x = .dct t es) ∨ ∃ fs, x = .obj C fs ∧ ∀ z ∈ ss, g [.obj C fs, .str z] (fun r => r = .bl false) noX) ∧ Q (.bl false)
def rInA (K : PySem.W.Frag) (C : Addr) (sp : Sp) : R2 := fun x y H Q => rInD K false x y H Q ∨ (rInDict K x y H Q ∨ rInObj K C sp x y H Q)
theorem repl_strs {W : Wd} : ∀ {ss : List Str} {vs : List V}, RepL K W vs (ss.map D.str) → vs = ss.map V.str
  | [], _, r => by cases r; rfl
  | s :: ss, _, r => by
    cases r with
    | cons h r =>
      cases h
      rw [List.map_cons, repl_strs r]
theorem op_inAA (ns : PySem.W.subIn X.K (.ref C) (.type "str") = some false) (hs : PySem.W.findIn X.K (.ref C) "__eq__" = some (some (.ref f))) (hf : PySem.W.isFn X.K (.ref f) = true) (F : FnG X.prog X.w X.K X.mg X.base (L2.CX X.prog X.w) k f fd ps sp) (hgd : X.A.guards = some []) (hr : Room (k + 1) X.A) (hb : Binds X.K fd ps []) (hK : X.K = K := by rfl) :
    OpR X (compareOp .In) (rInA K C sp) := (op_inA hr.units (u65 hr) hK).or ((op_inDict hr.units hK).or (op_inObj ns hs hf F hgd hr hb hK))
theorem l_inA : DOp2 K (rInA K C (spD K g)) (gInA C g) := fun {W H x y dx dy Q Dq} ok rx ry h k => by
  rcases h with h | ⟨ss, hy, hx, hq⟩
  · exact .inl (l_inN ok rx ry h k)
  · refine .inr ?_
    have hp : ∃ p, y = .ref p ∧ ((∀ W' H', Go W H W' H' → SqL K H' p (ss.map V.str)) ∨ SqT K H p (ss.map V.str)) := by
      rcases hy with rfl | ⟨n, rfl⟩
      · cases ry with
        | tup z e l =>
          rw [repl_strs l] at e
          exact ⟨_, rfl, .inr (e.sq ok.le)⟩
      · cases ry with
        | lst n z e l =>
          rw [repl_strs l] at e
          exact ⟨_, rfl, .inl fun W' H' g => SqL.of (g.ok.le _ _ (g.ext.s _ _ e))⟩
    obtain ⟨p, rfl, hp⟩ := hp
    rcases hx with ⟨t, es, rfl⟩ | ⟨fs, rfl, hz⟩
    · obtain ⟨a, rfl, da⟩ := Rep.isD ok.le rx
      exact .inl ⟨a, p, ss, rfl, da, rfl, hp.imp (fun h => h W H (Go.refl ok)) id, k _ _ _ _ (Go.refl ok) (.bl false) hq⟩
    · cases rx with
      | obj co s t =>
        refine .inr ⟨_, _, _, p, ss, rfl, rfl, fun H1 => ∃ W1, Go W H W1 H1, ⟨W, Go.refl ok⟩, fun H1 ⟨W1, g1⟩ => ⟨g1.ok.le _ _ (g1.ext.s _ _ s), fun z mz => ⟨W1, _, _, noX, g1.ok, .cons (.obj co (g1.ext.s _ _ s) (t.mono g1.ext)) (.cons (.str z) .nil), hz z mz, fun v d W' H' gg rr e => ?_, fun _ _ _ _ _ _ _ z => z.elim⟩⟩, hp.imp (fun h H1 ⟨W1, g1⟩ => h W1 H1 g1) id, fun H1 ⟨W1, g1⟩ => k _ _ W1 H1 g1 (.bl false) hq⟩
        subst e
        cases rr
        exact ⟨rfl, W', g1.trans gg⟩
/-- e in a list or tuple, e perhaps an instance of C -/
theorem de_inA {a b : Expr} {fa fb : DTE} {pos : Pos} (ns : PySem.W.subIn X.K (.ref C) (.type "str") = some false) (S : Spc X.prog X.w X.K X.mg X.base C "__eq__" k ps g) (hgd : X.A.guards = some []) (hr : Room j X.A) (hj : k + 1 ≤ j) (ha : DE X c a fa) (hb : DE X c b fb) (hm : behindInMarks .In b = false := by rfl) (hK : X.K = c.K := by rfl) :
    DE X c (.Compare a [.In] [b] pos) (dOp (gInA C g) fa fb) := by
  obtain ⟨cl, f, fd, hs, hf, F, hbb⟩ := S
  refine de_cmp (op_inAA ns hs hf F hgd (hr.mono hj) hbb rfl) ?_ ha hb hm
  rw [← hK]
  exact l_inA
end
end DL

set_option Elab.async false
set_option linter.all false
set_option maxRecDepth 100000
set_option maxHeartbeats 2000000
/-! Readings, one statement at a time. -/
namespace DL
open PySem PySem.Spec PyProof.Rows L2 LW RZ
/-- the first statement alone; what follows is N -/
theorem seq_i {g u : DTS} {D : DEnds} {ρ : Env'} (h : ∀ N : Env' → Prop, (∀ ρ', u D ρ' → N ρ') → g { D with nx := N } ρ) : dSeq g u D ρ := h (u D) fun _ h => h
/-- .. with what is known of the slots behind it -/
theorem seq_cut (J : Env' → Prop) {g u : DTS} {D : DEnds} {ρ : Env'} (h2 : ∀ ρ', J ρ' → u D ρ') (h : ∀ N : Env' → Prop, (∀ ρ', J ρ' → N ρ') → g { D with nx := N } ρ) : dSeq g u D ρ := h (u D) h2
/-- an if whose test tells a truth value that is known -/
theorem if_c {c : Prop} [Decidable c] {a b : Prop} (h1 : c → a) (h2 : ¬ c → b) : if c then a else b := by
  by_cases z : c
  · rw [if_pos z]; exact h1 z
  · rw [if_neg z]; exact h2 z
/-- an if: what its test tells -/
theorem ifs_i (C : Bool → Prop) {t : DTT} {g u : DTS} {D : DEnds} {ρ : Env'} (ht : ∀ Q : Bool → Prop, (∀ b, C b → Q b) → t ρ Q) (h1 : C true → g D ρ) (h2 : C false → u D ρ) : dIfS t g u D ρ :=
  ht _ fun b c => by
    cases b with
    | true => rw [if_pos rfl]; exact h1 c
    | false => rw [if_neg Bool.false_ne_true]; exact h2 c
end DL

set_option Elab.async false
set_option linter.all false
set_option maxRecDepth 100000
set_option maxHeartbeats 2000000
namespace K05
open PySem PySem.Spec PyProof.Rows L2 LW RZ DL
open LS (strLe strLe_anti strLe_trans strLe_total)
theorem cutT {α : Type} (l : List α) (t : Nat) (h : t ≤ l.length) : DL.cutD l none (some (t : Int)) = l.take t := by
  unfold DL.cutD HT.sIx
  simp
  rw [if_neg (by omega)]
  omega
theorem cutR {α : Type} (l : List α) (t : Nat) (h : t ≤ l.length) : DL.cutD l (some (t : Int)) none = l.drop t := by
  unfold DL.cutD HT.sIx
  simp
  rw [if_neg (by omega)]
  rw [Nat.min_eq_left (by omega), List.take_of_length_le (by simp)]
theorem atN {α : Type} (l : List α) (t : Nat) (h : t < l.length) : L2.atI l (t : Int) = some l[t] := by
  unfold L2.atI L2.ixN
  rw [if_pos (by omega), if_pos (by omega)]
  exact List.getElem?_eq_getElem h
def setAt {α : Type} (l : List α) (k : Nat) (x : α) : List α := l.take k ++ x :: l.drop (k + 1)
theorem setAt_map {α β : Type} (f : α → β) (l : List α) (k : Nat) (x : α) (h : k < l.length) (e : f x = f l[k]) : (setAt l k x).map f = l.map f := by
  unfold setAt
  have q : l = l.take k ++ l[k] :: l.drop (k + 1) := by
    rw [List.getElem_cons_drop, List.take_append_drop]
  conv => rhs; rw [q]
  rw [List.map_append, List.map_append, List.map_cons, List.map_cons, e]
theorem setAt_mem {α : Type} {l : List α} {k : Nat} {x y : α} (m : y ∈ setAt l k x) : y = x ∨ y ∈ l := by
  rcases List.mem_append.mp m with m | m
  · exact .inr ((List.take_sublist _ _).subset m)
  · rcases List.mem_cons.mp m with m | m
    · exact .inl m
    · exact .inr ((List.drop_sublist _ _).subset m)
theorem setAt_len {α : Type} (l : List α) (k : Nat) (x : α) (h : k < l.length) : (setAt l k x).length = l.length := by
  have := congrArg List.length (setAt_map (fun _ : α => ()) l k x h rfl)
  rwa [List.length_map, List.length_map] at this
/-- another step with its end and begin -/
theorem near_step {h : Int} {es : List Str} {xs : List Stp} {bs : List Bnd} (k : okPlain h es xs bs) {t : Nat} (lt : t < xs.length) {l m : Int} {d : Option Int} (l1 : 1 ≤ l) (l2 : l ≤ m) (m2 : m ≤ 99) (d1 : okDel d) :
    okPlain h es (setAt xs t ⟨xs[t].e, xs[t].b, l, m, d⟩) bs := by
  have em := setAt_map Stp.e xs t ⟨xs[t].e, xs[t].b, l, m, d⟩ lt rfl
  obtain ⟨h0, h1, ok, se, sx, sb⟩ := k
  have pe : points es (setAt xs t ⟨xs[t].e, xs[t].b, l, m, d⟩) = points es xs := by unfold points; rw [em]
  refine ⟨h0, h1, ⟨ok.n, ok.s, ok.nd, fun x mx => ?_, by rw [em]; exact ok.xd, fun b mb => by rw [pe]; exact ok.b b mb, ok.bd, ok.el, by rw [setAt_len _ _ _ lt]; exact ok.xl, ok.bl⟩, se, by rw [em]; exact sx, sb⟩
  rcases setAt_mem mx with rfl | mx
  · obtain ⟨a1, a2, a3, a4, _⟩ := ok.x _ (List.getElem_mem lt)
    exact ⟨a1, a2, a3, a4, by show 1 ≤ m; omega, m2, l1, l2, d1⟩
  · exact ok.x x mx
theorem near_bound {h : Int} {es : List Str} {xs : List Stp} {bs : List Bnd} (k : okPlain h es xs bs) {t : Nat} (lt : t < bs.length) {m : Int} (m1 : -999 ≤ m) (m2 : m ≤ 999) :
    okPlain h es xs (setAt bs t ⟨bs[t].a, bs[t].b, m⟩) := by
  have em := setAt_map Bnd.k bs t ⟨bs[t].a, bs[t].b, m⟩ lt rfl
  obtain ⟨h0, h1, ok, se, sx, sb⟩ := k
  refine ⟨h0, h1, ⟨ok.n, ok.s, ok.nd, ok.x, ok.xd, fun b mb => ?_, by rw [em]; exact ok.bd, ok.el, ok.xl, by rw [setAt_len _ _ _ lt]; exact ok.bl⟩, se, sx, ?_⟩
  · rcases setAt_mem mb with rfl | mb
    · obtain ⟨a1, a2, a3, a4, a5⟩ := ok.b _ (List.getElem_mem lt)
      exact ⟨a1, a2, a3, m1, m2⟩
    · exact ok.b b mb
  · have em2 := setAt_map (fun b : Bnd => (b.a, b.b)) bs t ⟨bs[t].a, bs[t].b, m⟩ lt rfl
    have f : ∀ l : List Bnd, l.Pairwise leB ↔ (l.map fun b : Bnd => (b.a, b.b)).Pairwise fun x y => (if x.1 = y.1 then strLe x.2 y.2 else strLe x.1 y.1) = true := fun l => by rw [List.pairwise_map]; rfl
    rw [f, em2, ← f]
    exact sb
theorem eq_nil_tup {α : Type} (f : α → DL.D) (l : List α) : eqD (.tup (l.map f)) (.tup []) = decide (l = []) := by
  cases l with
  | nil => rfl
  | cons x l =>
    show PyData.eqvAll _ _ = _
    simp [D.pyL, PyData.eqvAll]
section
variable {P : Program} {w : World} {K : PySem.W.Frag} {mg : Str → Option Value} {base : Heap} {tk : Tok} {CP : Addr}
abbrev gNear : SpD := fun ds Q _ => ∃ h es xs bs, ds = [.stm, plainD h es xs bs] ∧ okPlain h es xs bs ∧ ∀ h' es' xs' bs', okPlain h' es' xs' bs' → Q (plainD h' es' xs' bs')
theorem sc__law_near : FnScope ["stream", "plain", "last", "doing", "works", "limits", "way", "more", "at", "end", "begin", "least", "most", "late", "some", "step", "bound"] ["stream", "plain"] (defScope (top 42)) := ⟨rfl, rfl, rfl, by decide +kernel, rfl, by decide +kernel, by decide +kernel⟩
theorem ok_law_near (T : Bl mg) (C__law_draw : Cal P w K mg base "_law_draw" 1 ["stream", "total"] gDraw) (C__law_pick : Cal P w K mg base "_law_pick" 2 ["stream", "items"] gPick) (F : Dfn K mg "_law_near" "_law_near" (top 42) ["stream", "plain"]) :
    Cal P w K mg base "_law_near" 3 ["stream", "plain"] gNear := by
  refine okC F sc__law_near (by decide) (by rintro ds Q De ⟨h, es, xs, bs, rfl, _⟩; rfl) fun f cdv A outer s H E De hgd hr => ⟨_, (dss_cons (ds_asg (dv 1) (dg_tup (n := 4) rfl (dgs_cons (dg_name (i := 2) sc__law_near.nd rfl (.inl rfl)) (dgs_cons (dg_name (i := 3) sc__law_near.nd rfl (.inl rfl)) (dgs_cons (dg_name (i := 4) sc__law_near.nd rfl (.inl rfl)) (dgs_cons (dg_name (i := 5) sc__law_near.nd rfl (.inl rfl)) dgs_nil))))))
      (dss_cons (ds_par (i := 6) (j := 7) rfl sc__law_near.nd rfl rfl (by decide) rfl rfl (de_cal C__law_draw hgd hr (by decide) (by rfl) (passes_call (takes_of rfl rfl rfl rfl) fun _ _ _ _ h => h) (da_cons (dv 0) (da_cons de_int da_nil))) (de_op op_sub l_I0 (de_op op_mul l_Ic de_int (de_cal C__law_draw hgd hr (by decide) (by rfl) (passes_call (takes_of rfl rfl rfl rfl) fun _ _ _ _ h => h) (da_cons (dv 0) (da_cons de_int da_nil)))) de_int) (by rfl))
      (dss_cons (ds_if (DW.dt (dw_or (dt_cmp (op_eqA hr.units) l_eq (dv 6) de_int (nomark _)) (dw_or1 (DW.dt (dw_and (dt_cmp (op_eqA hr.units) l_eq (dv 5) (de_tup da_nil) (nomark _)) (dw_and1 (dt_cmp (op_eqA hr.units) l_eq (dv 4) (de_tup da_nil) (nomark _))))))))
        (dss_one (ds_ret (de_tup (da_cons (de_callB (call_min2 rfl) l_min (by rfl) T.«min» (by decide +kernel) (da_cons de_int (da_cons (de_callB (call_max2 rfl) l_max (by rfl) T.«max» (by decide +kernel) (da_cons de_int (da_cons (de_op (op_addA) l_add (dv 2) (dv 7)) da_nil))) da_nil))) (da_cons (dv 3) (da_cons (dv 4) (da_cons (dv 5) da_nil)))))))
        dss_nil)
      (dss_cons (ds_if (DW.dt (dw_or (DW.dt (dw_and (dt_cmp (op_eqA hr.units) l_eq (dv 6) de_int (nomark _)) (dw_and1 (dt_cmp (op_neA hr.units) l_ne (dv 4) (de_tup da_nil) (nomark _))))) (dw_or1 (dt_cmp (op_eqA hr.units) l_eq (dv 5) (de_tup da_nil) (nomark _)))))
        (dss_cons (ds_set (i := 8) sc__law_near.nd rfl (.inl rfl) (de_cal C__law_draw hgd hr (by decide) (by rfl) (passes_call (takes_of rfl rfl rfl rfl) fun _ _ _ _ h => h) (da_cons (dv 0) (da_cons (de_callB (call_lenA) l_len (by rfl) T.«len» (by decide +kernel) (da_cons (dv 4) da_nil)) da_nil))))
        (dss_cons (ds_asg (de_ix (dv 4) (dv 8) (fun _ _ => rfl)) (dg_tup (n := 5) rfl (dgs_cons (dg_name (i := 9) sc__law_near.nd rfl (.inl rfl)) (dgs_cons (dg_name (i := 10) sc__law_near.nd rfl (.inl rfl)) (dgs_cons (dg_name (i := 11) sc__law_near.nd rfl (.inl rfl)) (dgs_cons (dg_name (i := 12) sc__law_near.nd rfl (.inl rfl)) (dgs_cons (dg_name (i := 13) sc__law_near.nd rfl (.inl rfl)) dgs_nil)))))))
        (dss_cons (ds_setO (i := 14) sc__law_near.nd rfl (.inl rfl) (df_lst (da_cons (de_tup (da_cons (de_callB (call_min2 rfl) l_min (by rfl) T.«min» (by decide +kernel) (da_cons (dv 12) (da_cons (de_callB (call_max2 rfl) l_max (by rfl) T.«max» (by decide +kernel) (da_cons de_int (da_cons (de_op (op_addA) l_add (dv 11) (dv 7)) da_nil))) da_nil))) (da_cons (dv 12) (da_cons (dv 13) da_nil)))) (da_cons (de_tup (da_cons (dv 11) (da_cons (de_callB (call_min2 rfl) l_min (by rfl) T.«min» (by decide +kernel) (da_cons de_int (da_cons (de_callB (call_max2 rfl) l_max (by rfl) T.«max» (by decide +kernel) (da_cons (dv 11) (da_cons (de_op (op_addA) l_add (dv 12) (dv 7)) da_nil))) da_nil))) (da_cons (dv 13) da_nil)))) da_nil))))
        (dss_cons (ds_append 14 (de_tup (da_cons (dv 11) (da_cons (dv 12) (da_cons (de_cal C__law_pick hgd hr (by decide) (by rfl) (passes_call (takes_of rfl rfl rfl rfl) fun _ _ _ _ h => h) (da_cons (dv 0) (da_cons (de_fresh (df_lst (da_cons de_int (da_cons de_int (da_cons de_int (da_cons de_int (da_cons de_non da_nil))))))) da_nil))) da_nil)))))
        (dss_cons (ds_set (i := 15) sc__law_near.nd rfl (.inl rfl) (de_view (de_op (op_addA) l_add (de_tup (da_cons (dv 9) (da_cons (dv 10) da_nil))) (de_cal C__law_pick hgd hr (by decide) (by rfl) (passes_call (takes_of rfl rfl rfl rfl) fun _ _ _ _ h => h) (da_cons (dv 0) (da_cons (dv 14) da_nil))))))
        (dss_one (ds_ret (de_tup (da_cons (dv 2) (da_cons (dv 3) (da_cons (de_op (op_addA) l_add (de_op (op_addA) l_add (de_sl (dv 4) do_none (do_some (dv 8))) (de_tup (da_cons (dv 15) da_nil))) (de_sl (dv 4) (do_some (de_op (op_addA) l_add (dv 8) de_int)) do_none)) (da_cons (dv 5) da_nil))))))))))))
        dss_nil)
      (dss_cons (ds_set (i := 8) sc__law_near.nd rfl (.inl rfl) (de_cal C__law_draw hgd hr (by decide) (by rfl) (passes_call (takes_of rfl rfl rfl rfl) fun _ _ _ _ h => h) (da_cons (dv 0) (da_cons (de_callB (call_lenA) l_len (by rfl) T.«len» (by decide +kernel) (da_cons (dv 5) da_nil)) da_nil))))
      (dss_cons (ds_set (i := 16) sc__law_near.nd rfl (.inl rfl) (de_tup (da_cons (de_ix (de_ix (dv 5) (dv 8) (fun _ _ => rfl)) de_int (fun _ _ => rfl)) (da_cons (de_ix (de_ix (dv 5) (dv 8) (fun _ _ => rfl)) de_int (fun _ _ => rfl)) (da_cons (de_callB (call_max2 rfl) l_max (by rfl) T.«max» (by decide +kernel) (da_cons (de_neg de_int) (da_cons (de_callB (call_min2 rfl) l_min (by rfl) T.«min» (by decide +kernel) (da_cons de_int (da_cons (de_op (op_addA) l_add (de_ix (de_ix (dv 5) (dv 8) (fun _ _ => rfl)) de_int (fun _ _ => rfl)) (dv 7)) da_nil))) da_nil))) da_nil)))))
      (dss_one (ds_ret (de_tup (da_cons (dv 2) (da_cons (dv 3) (da_cons (dv 4) (da_cons (de_op (op_addA) l_add (de_op (op_addA) l_add (de_sl (dv 5) do_none (do_some (dv 8))) (de_tup (da_cons (dv 16) da_nil))) (de_sl (dv 5) (do_some (de_op (op_addA) l_add (dv 8) de_int)) do_none)) da_nil))))))))))))), ?_⟩
  rintro ds Dq ⟨h, es, xs, bs, rfl, k, q⟩
  rw [show startD ["stream", "plain", "last", "doing", "works", "limits", "way", "more", "at", "end", "begin", "least", "most", "late", "some", "step", "bound"] [.stm, plainD h es xs bs] = [.dat .stm, .dat (.tup [.int h, .tup (es.map DL.D.str), .tup (xs.map Stp.D), .tup (bs.map Bnd.D)]), .un, .un, .un, .un, .un, .un, .un, .un, .un, .un, .un, .un, .un, .un, .un] from rfl]
  have sL : (16777216 : Nat) = sizeLine := sizeLine_eq.symm
  refine seq_i fun N hN => ?_
  dsimp only [DL.dAnd, DL.dAndV, DL.dAny, DL.dAppend, DL.dAsg, DL.dB, DL.dBreak, DL.dC, DL.dCall, DL.dChain, DL.dCons, DL.dConsA, DL.dCont, DL.dDrop, DL.dEnumL, DL.dEnumT, DL.dFld, DL.dFldO, DL.dFldSet, DL.dFmt, DL.dFn, DL.dFor, DL.dFresh, DL.dGet1, DL.dGet2, DL.dIfE, DL.dIfS, DL.dInK, DL.dIsi, DL.dIsiO, DL.dJoin, DL.dKeys, DL.dLenSc, DL.dLenSet, DL.dLenSk, DL.dLock, DL.dLockS, DL.dMth, DL.dNeg, DL.dNever, DL.dNext, DL.dNil, DL.dNilA, DL.dNone, DL.dNot, DL.dNotV, DL.dOp, DL.dOr, DL.dOrV, DL.dPar, DL.dPut, DL.dRet, DL.dRetN, DL.dRng1, DL.dRng2, DL.dSeq, DL.dSet, DL.dSetO, DL.dSl, DL.dSome, DL.dTruth, DL.dTup, DL.dVar, DL.dView, DL.dViewT, DL.dYes, DL.dZip, DL.fDc, DL.fDictP, DL.fDictPT, DL.fDisp, DL.fLc, DL.fListT, DL.fLock, DL.fLst, DL.fMake, DL.fMakeK, DL.fMakeL, DL.fNew, DL.gAdd, DL.gBools, DL.gCmp, DL.gConsD, DL.gDin, DL.gEq, DL.gEqO, DL.gGe, DL.gGet, DL.gGt, DL.gI, DL.gIb, DL.gIc, DL.gIn, DL.gInO, DL.gInt, DL.gIsN, DL.gIx, DL.gLe, DL.gLen, DL.gLenO, DL.gLt, DL.gNameD, DL.gNe, DL.gNilD, DL.gNotN, DL.gRepr, DL.gSl, DL.gSorted, DL.gStrI, DL.gStrO, DL.gStrS, DL.gSum, DL.gTupD, DL.gTuple, DL.jCons, DL.jNil, DL.pCons, DL.pNil, startD, isiB, List.map_cons, List.map_nil, List.cons_append, List.nil_append, List.length_cons, List.length_nil, List.set_cons_zero, List.set_cons_succ, List.getElem?_cons_zero, List.getElem?_cons_succ, List.replicate]
  refine ⟨rfl, hN _ ?_⟩
  clear hN N
  refine seq_i fun N hN => ?_
  dsimp only [DL.dAnd, DL.dAndV, DL.dAny, DL.dAppend, DL.dAsg, DL.dB, DL.dBreak, DL.dC, DL.dCall, DL.dChain, DL.dCons, DL.dConsA, DL.dCont, DL.dDrop, DL.dEnumL, DL.dEnumT, DL.dFld, DL.dFldO, DL.dFldSet, DL.dFmt, DL.dFn, DL.dFor, DL.dFresh, DL.dGet1, DL.dGet2, DL.dIfE, DL.dIfS, DL.dInK, DL.dIsi, DL.dIsiO, DL.dJoin, DL.dKeys, DL.dLenSc, DL.dLenSet, DL.dLenSk, DL.dLock, DL.dLockS, DL.dMth, DL.dNeg, DL.dNever, DL.dNext, DL.dNil, DL.dNilA, DL.dNone, DL.dNot, DL.dNotV, DL.dOp, DL.dOr, DL.dOrV, DL.dPar, DL.dPut, DL.dRet, DL.dRetN, DL.dRng1, DL.dRng2, DL.dSeq, DL.dSet, DL.dSetO, DL.dSl, DL.dSome, DL.dTruth, DL.dTup, DL.dVar, DL.dView, DL.dViewT, DL.dYes, DL.dZip, DL.fDc, DL.fDictP, DL.fDictPT, DL.fDisp, DL.fLc, DL.fListT, DL.fLock, DL.fLst, DL.fMake, DL.fMakeK, DL.fMakeL, DL.fNew, DL.gAdd, DL.gBools, DL.gCmp, DL.gConsD, DL.gDin, DL.gEq, DL.gEqO, DL.gGe, DL.gGet, DL.gGt, DL.gI, DL.gIb, DL.gIc, DL.gIn, DL.gInO, DL.gInt, DL.gIsN, DL.gIx, DL.gLe, DL.gLen, DL.gLenO, DL.gLt, DL.gNameD, DL.gNe, DL.gNilD, DL.gNotN, DL.gRepr, DL.gSl, DL.gSorted, DL.gStrI, DL.gStrO, DL.gStrS, DL.gSum, DL.gTupD, DL.gTuple, DL.jCons, DL.jNil, DL.pCons, DL.pNil, startD, isiB, List.map_cons, List.map_nil, List.cons_append, List.nil_append, List.length_cons, List.length_nil, List.set_cons_zero, List.set_cons_succ, List.getElem?_cons_zero, List.getElem?_cons_succ, List.replicate]
  refine ⟨4, rfl, by decide, by decide, fun way w0 w1 => ?_⟩
  refine ⟨2, rfl, by decide, by decide, fun m m0 m1 => ⟨.inl ⟨by decide, by decide⟩, hN _ ?_⟩⟩
  clear hN N
  obtain ⟨mo, hmo⟩ : ∃ mo : Int, mo = 2 * m - 1 := ⟨_, rfl⟩
  rw [← hmo]
  have mo1 : -1 ≤ mo := by omega
  have mo2 : mo ≤ 1 := by omega
  clear hmo m0 m1 m
  have hbc : D.cmp (.tup (bs.map Bnd.D)) = true := by have := k.ok.bc; rwa [k.b] at this
  have hsc : D.cmp (.tup (xs.map Stp.D)) = true := by have := k.ok.sc; rwa [k.x] at this
  have nc : D.cmp (.tup []) = true := by decide
  have ret1 : 4 ≤ sizeLine ∧ Dq (plainD (minI 99 (maxI 0 (h + mo))) es xs bs) := ⟨by omega, q _ _ _ _ ⟨by unfold minI maxI; split <;> split <;> omega, by unfold minI maxI; split <;> split <;> omega, k.ok, k.se, k.sx, k.sb⟩⟩
  have eb : eqD (.tup (bs.map Bnd.D)) (.tup []) = decide (bs = []) := eq_nil_tup _ _
  have ex : eqD (.tup (xs.map Stp.D)) (.tup []) = decide (xs = []) := eq_nil_tup _ _
  have z0 : (0 : Nat) ≤ sizeLine := by omega
  refine seq_cut (fun ρ' => ρ' = [.dat .stm, .dat (.tup [.int h, .tup (es.map DL.D.str), .tup (xs.map Stp.D), .tup (bs.map Bnd.D)]), .dat (.int h), .dat (.tup (es.map DL.D.str)), .dat (.tup (xs.map Stp.D)), .dat (.tup (bs.map Bnd.D)), .dat (.int way), .dat (.int mo), .un, .un, .un, .un, .un, .un, .un, .un, .un] ∧ (bs = [] → xs ≠ [])) ?rest fun N hN => ?_
  rotate_left
  · dsimp only [DL.dAnd, DL.dAndV, DL.dAny, DL.dAppend, DL.dAsg, DL.dB, DL.dBreak, DL.dC, DL.dCall, DL.dChain, DL.dCons, DL.dConsA, DL.dCont, DL.dDrop, DL.dEnumL, DL.dEnumT, DL.dFld, DL.dFldO, DL.dFldSet, DL.dFmt, DL.dFn, DL.dFor, DL.dFresh, DL.dGet1, DL.dGet2, DL.dIfE, DL.dIfS, DL.dInK, DL.dIsi, DL.dIsiO, DL.dJoin, DL.dKeys, DL.dLenSc, DL.dLenSet, DL.dLenSk, DL.dLock, DL.dLockS, DL.dMth, DL.dNeg, DL.dNever, DL.dNext, DL.dNil, DL.dNilA, DL.dNone, DL.dNot, DL.dNotV, DL.dOp, DL.dOr, DL.dOrV, DL.dPar, DL.dPut, DL.dRet, DL.dRetN, DL.dRng1, DL.dRng2, DL.dSeq, DL.dSet, DL.dSetO, DL.dSl, DL.dSome, DL.dTruth, DL.dTup, DL.dVar, DL.dView, DL.dViewT, DL.dYes, DL.dZip, DL.fDc, DL.fDictP, DL.fDictPT, DL.fDisp, DL.fLc, DL.fListT, DL.fLock, DL.fLst, DL.fMake, DL.fMakeK, DL.fMakeL, DL.fNew, DL.gAdd, DL.gBools, DL.gCmp, DL.gConsD, DL.gDin, DL.gEq, DL.gEqO, DL.gGe, DL.gGet, DL.gGt, DL.gI, DL.gIb, DL.gIc, DL.gIn, DL.gInO, DL.gInt, DL.gIsN, DL.gIx, DL.gLe, DL.gLen, DL.gLenO, DL.gLt, DL.gNameD, DL.gNe, DL.gNilD, DL.gNotN, DL.gRepr, DL.gSl, DL.gSorted, DL.gStrI, DL.gStrO, DL.gStrS, DL.gSum, DL.gTupD, DL.gTuple, DL.jCons, DL.jNil, DL.pCons, DL.pNil, startD, isiB, List.map_cons, List.map_nil, List.cons_append, List.nil_append, List.length_cons, List.length_nil, List.set_cons_zero, List.set_cons_succ, List.getElem?_cons_zero, List.getElem?_cons_succ, List.replicate]
    refine ⟨int_cmp _, int_cmp _, if_c (fun _ => ifp rfl ret1) fun _ => ⟨z0, hbc, nc, if_c (fun c1 => ⟨z0, hsc, nc, if_c (fun _ => ret1) fun c2 => hN _ ⟨rfl, fun _ => ?_⟩⟩) fun c1 => ifn Bool.false_ne_true (hN _ ⟨rfl, fun z => ?_⟩)⟩⟩
    · rw [ex, decide_eq_true_eq] at c2
      exact c2
    · rw [eb, decide_eq_true_eq] at c1
      exact absurd z c1
  rintro ρ' ⟨rfl, hne⟩
  refine seq_i fun N hN => ?_
  refine ifs_i (fun b => (b = true → xs ≠ []) ∧ (b = false → bs ≠ [])) (fun Q hQ => ?_) (fun c => ?_) fun c => hN _ ?_
  · dsimp only [DL.dAnd, DL.dAndV, DL.dAny, DL.dAppend, DL.dAsg, DL.dB, DL.dBreak, DL.dC, DL.dCall, DL.dChain, DL.dCons, DL.dConsA, DL.dCont, DL.dDrop, DL.dEnumL, DL.dEnumT, DL.dFld, DL.dFldO, DL.dFldSet, DL.dFmt, DL.dFn, DL.dFor, DL.dFresh, DL.dGet1, DL.dGet2, DL.dIfE, DL.dIfS, DL.dInK, DL.dIsi, DL.dIsiO, DL.dJoin, DL.dKeys, DL.dLenSc, DL.dLenSet, DL.dLenSk, DL.dLock, DL.dLockS, DL.dMth, DL.dNeg, DL.dNever, DL.dNext, DL.dNil, DL.dNilA, DL.dNone, DL.dNot, DL.dNotV, DL.dOp, DL.dOr, DL.dOrV, DL.dPar, DL.dPut, DL.dRet, DL.dRetN, DL.dRng1, DL.dRng2, DL.dSeq, DL.dSet, DL.dSetO, DL.dSl, DL.dSome, DL.dTruth, DL.dTup, DL.dVar, DL.dView, DL.dViewT, DL.dYes, DL.dZip, DL.fDc, DL.fDictP, DL.fDictPT, DL.fDisp, DL.fLc, DL.fListT, DL.fLock, DL.fLst, DL.fMake, DL.fMakeK, DL.fMakeL, DL.fNew, DL.gAdd, DL.gBools, DL.gCmp, DL.gConsD, DL.gDin, DL.gEq, DL.gEqO, DL.gGe, DL.gGet, DL.gGt, DL.gI, DL.gIb, DL.gIc, DL.gIn, DL.gInO, DL.gInt, DL.gIsN, DL.gIx, DL.gLe, DL.gLen, DL.gLenO, DL.gLt, DL.gNameD, DL.gNe, DL.gNilD, DL.gNotN, DL.gRepr, DL.gSl, DL.gSorted, DL.gStrI, DL.gStrO, DL.gStrS, DL.gSum, DL.gTupD, DL.gTuple, DL.jCons, DL.jNil, DL.pCons, DL.pNil, startD, isiB, List.map_cons, List.map_nil, List.cons_append, List.nil_append, List.length_cons, List.length_nil, List.set_cons_zero, List.set_cons_succ, List.getElem?_cons_zero, List.getElem?_cons_succ, List.replicate]
    rw [eb, ex]
    have last : 0 ≤ sizeLine ∧ D.cmp (.tup (bs.map Bnd.D)) = true ∧ D.cmp (.tup []) = true ∧ Q (decide (bs = [])) := ⟨z0, hbc, nc, hQ _ ⟨fun z => hne (of_decide_eq_true z), fun z => of_decide_eq_false z⟩⟩
    refine ⟨int_cmp _, int_cmp _, if_c (fun _ => ⟨z0, hsc, nc, if_c (fun c => hQ _ ⟨fun _ => ?_, nofun⟩) fun _ => last⟩) fun _ => ifn Bool.false_ne_true last⟩
    rw [Bool.not_eq_true', decide_eq_false_iff_not] at c
    exact c
  · have hx := c.1 rfl
    clear c hne hN
    have lx : 0 < xs.length := List.length_pos_iff.mpr hx
    have xl := k.ok.xl
    refine seq_i fun N1 hN => ?_
    dsimp only [DL.dAnd, DL.dAndV, DL.dAny, DL.dAppend, DL.dAsg, DL.dB, DL.dBreak, DL.dC, DL.dCall, DL.dChain, DL.dCons, DL.dConsA, DL.dCont, DL.dDrop, DL.dEnumL, DL.dEnumT, DL.dFld, DL.dFldO, DL.dFldSet, DL.dFmt, DL.dFn, DL.dFor, DL.dFresh, DL.dGet1, DL.dGet2, DL.dIfE, DL.dIfS, DL.dInK, DL.dIsi, DL.dIsiO, DL.dJoin, DL.dKeys, DL.dLenSc, DL.dLenSet, DL.dLenSk, DL.dLock, DL.dLockS, DL.dMth, DL.dNeg, DL.dNever, DL.dNext, DL.dNil, DL.dNilA, DL.dNone, DL.dNot, DL.dNotV, DL.dOp, DL.dOr, DL.dOrV, DL.dPar, DL.dPut, DL.dRet, DL.dRetN, DL.dRng1, DL.dRng2, DL.dSeq, DL.dSet, DL.dSetO, DL.dSl, DL.dSome, DL.dTruth, DL.dTup, DL.dVar, DL.dView, DL.dViewT, DL.dYes, DL.dZip, DL.fDc, DL.fDictP, DL.fDictPT, DL.fDisp, DL.fLc, DL.fListT, DL.fLock, DL.fLst, DL.fMake, DL.fMakeK, DL.fMakeL, DL.fNew, DL.gAdd, DL.gBools, DL.gCmp, DL.gConsD, DL.gDin, DL.gEq, DL.gEqO, DL.gGe, DL.gGet, DL.gGt, DL.gI, DL.gIb, DL.gIc, DL.gIn, DL.gInO, DL.gInt, DL.gIsN, DL.gIx, DL.gLe, DL.gLen, DL.gLenO, DL.gLt, DL.gNameD, DL.gNe, DL.gNilD, DL.gNotN, DL.gRepr, DL.gSl, DL.gSorted, DL.gStrI, DL.gStrO, DL.gStrS, DL.gSum, DL.gTupD, DL.gTuple, DL.jCons, DL.jNil, DL.pCons, DL.pNil, startD, isiB, List.map_cons, List.map_nil, List.cons_append, List.nil_append, List.length_cons, List.length_nil, List.set_cons_zero, List.set_cons_succ, List.getElem?_cons_zero, List.getElem?_cons_succ, List.replicate]
    refine ⟨xs.length, by rw [List.length_map], by omega, by omega, fun t t0 t1 => hN _ ?_⟩
    clear hN N1
    obtain ⟨t, rfl⟩ := Int.eq_ofNat_of_zero_le t0
    have lt : t < xs.length := by omega
    have ltm : t < (xs.map Stp.D).length := by rw [List.length_map]; exact lt
    have eat := atN (xs.map Stp.D) t ltm
    refine seq_i fun N1 hN => ?_
    dsimp only [DL.dAnd, DL.dAndV, DL.dAny, DL.dAppend, DL.dAsg, DL.dB, DL.dBreak, DL.dC, DL.dCall, DL.dChain, DL.dCons, DL.dConsA, DL.dCont, DL.dDrop, DL.dEnumL, DL.dEnumT, DL.dFld, DL.dFldO, DL.dFldSet, DL.dFmt, DL.dFn, DL.dFor, DL.dFresh, DL.dGet1, DL.dGet2, DL.dIfE, DL.dIfS, DL.dInK, DL.dIsi, DL.dIsiO, DL.dJoin, DL.dKeys, DL.dLenSc, DL.dLenSet, DL.dLenSk, DL.dLock, DL.dLockS, DL.dMth, DL.dNeg, DL.dNever, DL.dNext, DL.dNil, DL.dNilA, DL.dNone, DL.dNot, DL.dNotV, DL.dOp, DL.dOr, DL.dOrV, DL.dPar, DL.dPut, DL.dRet, DL.dRetN, DL.dRng1, DL.dRng2, DL.dSeq, DL.dSet, DL.dSetO, DL.dSl, DL.dSome, DL.dTruth, DL.dTup, DL.dVar, DL.dView, DL.dViewT, DL.dYes, DL.dZip, DL.fDc, DL.fDictP, DL.fDictPT, DL.fDisp, DL.fLc, DL.fListT, DL.fLock, DL.fLst, DL.fMake, DL.fMakeK, DL.fMakeL, DL.fNew, DL.gAdd, DL.gBools, DL.gCmp, DL.gConsD, DL.gDin, DL.gEq, DL.gEqO, DL.gGe, DL.gGet, DL.gGt, DL.gI, DL.gIb, DL.gIc, DL.gIn, DL.gInO, DL.gInt, DL.gIsN, DL.gIx, DL.gLe, DL.gLen, DL.gLenO, DL.gLt, DL.gNameD, DL.gNe, DL.gNilD, DL.gNotN, DL.gRepr, DL.gSl, DL.gSorted, DL.gStrI, DL.gStrO, DL.gStrS, DL.gSum, DL.gTupD, DL.gTuple, DL.jCons, DL.jNil, DL.pCons, DL.pNil, startD, isiB, List.map_cons, List.map_nil, List.cons_append, List.nil_append, List.length_cons, List.length_nil, List.set_cons_zero, List.set_cons_succ, List.getElem?_cons_zero, List.getElem?_cons_succ, List.replicate]
    rw [eat, List.getElem_map]
    have oy := k.ok.x _ (List.getElem_mem lt)
    have near := fun (l m : Int) (d : Option Int) l1 l2 m2 d1 => near_step k lt (l := l) (m := m) (d := d) l1 l2 m2 d1
    have er : ∀ x : Stp, (setAt xs t x).map Stp.D = (xs.take t).map Stp.D ++ [x.D] ++ (xs.drop (t + 1)).map Stp.D := fun x => by
      unfold setAt
      rw [List.map_append, List.map_cons, List.append_assoc]
      rfl
    obtain ⟨y, hy⟩ : ∃ y, y = xs[t] := ⟨_, rfl⟩
    rw [← hy] at oy near ⊢
    clear hy
    obtain ⟨e, b, l, m, d⟩ := y
    obtain ⟨_, _, _, _, m1, m2, l1, l2, d1⟩ := oy
    dsimp only at m1 m2 l1 l2 d1 near
    refine ⟨rfl, hN _ ?_⟩
    clear hN N1
    refine seq_i fun N1 hN => ?_
    dsimp only [DL.dAnd, DL.dAndV, DL.dAny, DL.dAppend, DL.dAsg, DL.dB, DL.dBreak, DL.dC, DL.dCall, DL.dChain, DL.dCons, DL.dConsA, DL.dCont, DL.dDrop, DL.dEnumL, DL.dEnumT, DL.dFld, DL.dFldO, DL.dFldSet, DL.dFmt, DL.dFn, DL.dFor, DL.dFresh, DL.dGet1, DL.dGet2, DL.dIfE, DL.dIfS, DL.dInK, DL.dIsi, DL.dIsiO, DL.dJoin, DL.dKeys, DL.dLenSc, DL.dLenSet, DL.dLenSk, DL.dLock, DL.dLockS, DL.dMth, DL.dNeg, DL.dNever, DL.dNext, DL.dNil, DL.dNilA, DL.dNone, DL.dNot, DL.dNotV, DL.dOp, DL.dOr, DL.dOrV, DL.dPar, DL.dPut, DL.dRet, DL.dRetN, DL.dRng1, DL.dRng2, DL.dSeq, DL.dSet, DL.dSetO, DL.dSl, DL.dSome, DL.dTruth, DL.dTup, DL.dVar, DL.dView, DL.dViewT, DL.dYes, DL.dZip, DL.fDc, DL.fDictP, DL.fDictPT, DL.fDisp, DL.fLc, DL.fListT, DL.fLock, DL.fLst, DL.fMake, DL.fMakeK, DL.fMakeL, DL.fNew, DL.gAdd, DL.gBools, DL.gCmp, DL.gConsD, DL.gDin, DL.gEq, DL.gEqO, DL.gGe, DL.gGet, DL.gGt, DL.gI, DL.gIb, DL.gIc, DL.gIn, DL.gInO, DL.gInt, DL.gIsN, DL.gIx, DL.gLe, DL.gLen, DL.gLenO, DL.gLt, DL.gNameD, DL.gNe, DL.gNilD, DL.gNotN, DL.gRepr, DL.gSl, DL.gSorted, DL.gStrI, DL.gStrO, DL.gStrS, DL.gSum, DL.gTupD, DL.gTuple, DL.jCons, DL.jNil, DL.pCons, DL.pNil, startD, isiB, List.map_cons, List.map_nil, List.cons_append, List.nil_append, List.length_cons, List.length_nil, List.set_cons_zero, List.set_cons_succ, List.getElem?_cons_zero, List.getElem?_cons_succ, List.replicate]
    dsimp only [g2I]
    refine ⟨by omega, by omega, by omega, hN _ ?_⟩
    clear hN N1
    refine seq_i fun N1 hN => ?_
    dsimp only [DL.dAnd, DL.dAndV, DL.dAny, DL.dAppend, DL.dAsg, DL.dB, DL.dBreak, DL.dC, DL.dCall, DL.dChain, DL.dCons, DL.dConsA, DL.dCont, DL.dDrop, DL.dEnumL, DL.dEnumT, DL.dFld, DL.dFldO, DL.dFldSet, DL.dFmt, DL.dFn, DL.dFor, DL.dFresh, DL.dGet1, DL.dGet2, DL.dIfE, DL.dIfS, DL.dInK, DL.dIsi, DL.dIsiO, DL.dJoin, DL.dKeys, DL.dLenSc, DL.dLenSet, DL.dLenSk, DL.dLock, DL.dLockS, DL.dMth, DL.dNeg, DL.dNever, DL.dNext, DL.dNil, DL.dNilA, DL.dNone, DL.dNot, DL.dNotV, DL.dOp, DL.dOr, DL.dOrV, DL.dPar, DL.dPut, DL.dRet, DL.dRetN, DL.dRng1, DL.dRng2, DL.dSeq, DL.dSet, DL.dSetO, DL.dSl, DL.dSome, DL.dTruth, DL.dTup, DL.dVar, DL.dView, DL.dViewT, DL.dYes, DL.dZip, DL.fDc, DL.fDictP, DL.fDictPT, DL.fDisp, DL.fLc, DL.fListT, DL.fLock, DL.fLst, DL.fMake, DL.fMakeK, DL.fMakeL, DL.fNew, DL.gAdd, DL.gBools, DL.gCmp, DL.gConsD, DL.gDin, DL.gEq, DL.gEqO, DL.gGe, DL.gGet, DL.gGt, DL.gI, DL.gIb, DL.gIc, DL.gIn, DL.gInO, DL.gInt, DL.gIsN, DL.gIx, DL.gLe, DL.gLen, DL.gLenO, DL.gLt, DL.gNameD, DL.gNe, DL.gNilD, DL.gNotN, DL.gRepr, DL.gSl, DL.gSorted, DL.gStrI, DL.gStrO, DL.gStrS, DL.gSum, DL.gTupD, DL.gTuple, DL.jCons, DL.jNil, DL.pCons, DL.pNil, startD, isiB, List.map_cons, List.map_nil, List.cons_append, List.nil_append, List.length_cons, List.length_nil, List.set_cons_zero, List.set_cons_succ, List.getElem?_cons_zero, List.getElem?_cons_succ, List.replicate]
    refine ⟨by omega, _, .inr ⟨true, rfl⟩, by simp, by simp, fun y my => ?_⟩
    have hd : ∃ o : Option Int, y = delD o ∧ okDel o := by
      simp only [List.mem_cons, List.mem_nil_iff, or_false] at my
      rcases my with rfl | rfl | rfl | rfl | rfl
      · exact ⟨some 0, rfl, by decide, by decide⟩
      · exact ⟨some 1, rfl, by decide, by decide⟩
      · exact ⟨some 2, rfl, by decide, by decide⟩
      · exact ⟨some 3, rfl, by decide, by decide⟩
      · exact ⟨none, rfl, trivial⟩
    obtain ⟨o, rfl, ho⟩ := hd
    clear my
    refine ⟨by omega, by omega, hN _ ?_⟩
    clear hN N1
    refine seq_i fun N1 hN => ?_
    dsimp only [DL.dAnd, DL.dAndV, DL.dAny, DL.dAppend, DL.dAsg, DL.dB, DL.dBreak, DL.dC, DL.dCall, DL.dChain, DL.dCons, DL.dConsA, DL.dCont, DL.dDrop, DL.dEnumL, DL.dEnumT, DL.dFld, DL.dFldO, DL.dFldSet, DL.dFmt, DL.dFn, DL.dFor, DL.dFresh, DL.dGet1, DL.dGet2, DL.dIfE, DL.dIfS, DL.dInK, DL.dIsi, DL.dIsiO, DL.dJoin, DL.dKeys, DL.dLenSc, DL.dLenSet, DL.dLenSk, DL.dLock, DL.dLockS, DL.dMth, DL.dNeg, DL.dNever, DL.dNext, DL.dNil, DL.dNilA, DL.dNone, DL.dNot, DL.dNotV, DL.dOp, DL.dOr, DL.dOrV, DL.dPar, DL.dPut, DL.dRet, DL.dRetN, DL.dRng1, DL.dRng2, DL.dSeq, DL.dSet, DL.dSetO, DL.dSl, DL.dSome, DL.dTruth, DL.dTup, DL.dVar, DL.dView, DL.dViewT, DL.dYes, DL.dZip, DL.fDc, DL.fDictP, DL.fDictPT, DL.fDisp, DL.fLc, DL.fListT, DL.fLock, DL.fLst, DL.fMake, DL.fMakeK, DL.fMakeL, DL.fNew, DL.gAdd, DL.gBools, DL.gCmp, DL.gConsD, DL.gDin, DL.gEq, DL.gEqO, DL.gGe, DL.gGet, DL.gGt, DL.gI, DL.gIb, DL.gIc, DL.gIn, DL.gInO, DL.gInt, DL.gIsN, DL.gIx, DL.gLe, DL.gLen, DL.gLenO, DL.gLt, DL.gNameD, DL.gNe, DL.gNilD, DL.gNotN, DL.gRepr, DL.gSl, DL.gSorted, DL.gStrI, DL.gStrO, DL.gStrS, DL.gSum, DL.gTupD, DL.gTuple, DL.jCons, DL.jNil, DL.pCons, DL.pNil, startD, isiB, List.map_cons, List.map_nil, List.cons_append, List.nil_append, List.length_cons, List.length_nil, List.set_cons_zero, List.set_cons_succ, List.getElem?_cons_zero, List.getElem?_cons_succ, List.replicate]
    refine ⟨by omega, _, .inr ⟨true, rfl⟩, by simp, by simp, fun y my => ?_⟩
    have hy : ∃ (l' m' : Int) (d' : Option Int), y = .tup [.int l', .int m', delD d'] ∧ 1 ≤ l' ∧ l' ≤ m' ∧ m' ≤ 99 ∧ okDel d' := by
      simp only [List.mem_cons, List.mem_nil_iff, or_false] at my
      rcases my with rfl | rfl | rfl
      · exact ⟨_, _, _, rfl, by unfold minI maxI; split <;> split <;> omega, by unfold minI maxI; split <;> split <;> omega, m2, d1⟩
      · exact ⟨_, _, _, rfl, l1, by unfold minI maxI; split <;> split <;> omega, by unfold minI maxI; split <;> split <;> omega, d1⟩
      · exact ⟨_, _, _, rfl, l1, l2, m2, ho⟩
    obtain ⟨l', m', d', rfl, a1, a2, a3, a4⟩ := hy
    clear my
    have qq := q _ _ _ _ (near l' m' d' a1 a2 a3 a4)
    refine ⟨by show 2 + 3 ≤ sizeLine; omega, by cases d' <;> rfl, hN _ ?_⟩
    clear hN N1
    (dsimp only [DL.dRet, List.map, DL.Ent.view]; dsimp only [DL.dAnd, DL.dAndV, DL.dAny, DL.dAppend, DL.dAsg, DL.dB, DL.dBreak, DL.dC, DL.dCall, DL.dChain, DL.dCons, DL.dConsA, DL.dCont, DL.dDrop, DL.dEnumL, DL.dEnumT, DL.dFld, DL.dFldO, DL.dFldSet, DL.dFmt, DL.dFn, DL.dFor, DL.dFresh, DL.dGet1, DL.dGet2, DL.dIfE, DL.dIfS, DL.dInK, DL.dIsi, DL.dIsiO, DL.dJoin, DL.dKeys, DL.dLenSc, DL.dLenSet, DL.dLenSk, DL.dLock, DL.dLockS, DL.dMth, DL.dNeg, DL.dNever, DL.dNext, DL.dNil, DL.dNilA, DL.dNone, DL.dNot, DL.dNotV, DL.dOp, DL.dOr, DL.dOrV, DL.dPar, DL.dPut, DL.dRet, DL.dRetN, DL.dRng1, DL.dRng2, DL.dSeq, DL.dSet, DL.dSetO, DL.dSl, DL.dSome, DL.dTruth, DL.dTup, DL.dVar, DL.dView, DL.dViewT, DL.dYes, DL.dZip, DL.fDc, DL.fDictP, DL.fDictPT, DL.fDisp, DL.fLc, DL.fListT, DL.fLock, DL.fLst, DL.fMake, DL.fMakeK, DL.fMakeL, DL.fNew, DL.gAdd, DL.gBools, DL.gCmp, DL.gConsD, DL.gDin, DL.gEq, DL.gEqO, DL.gGe, DL.gGet, DL.gGt, DL.gI, DL.gIb, DL.gIc, DL.gIn, DL.gInO, DL.gInt, DL.gIsN, DL.gIx, DL.gLe, DL.gLen, DL.gLenO, DL.gLt, DL.gNameD, DL.gNe, DL.gNilD, DL.gNotN, DL.gRepr, DL.gSl, DL.gSorted, DL.gStrI, DL.gStrO, DL.gStrS, DL.gSum, DL.gTupD, DL.gTuple, DL.jCons, DL.jNil, DL.pCons, DL.pNil, startD, isiB, List.map_cons, List.map_nil, List.cons_append, List.nil_append, List.length_cons, List.length_nil, List.set_cons_zero, List.set_cons_succ, List.getElem?_cons_zero, List.getElem?_cons_succ, List.replicate])
    rw [show ((t : Int) + 1) = ((t + 1 : Nat) : Int) from rfl, cutT _ t (by omega), cutR _ (t + 1) (by omega), ← List.map_take, ← List.map_drop]
    have len := congrArg List.length (er ⟨e, b, l', m', d'⟩)
    rw [List.length_map, setAt_len _ _ _ lt] at len
    simp only [List.length_append, List.length_map, List.length_cons, List.length_nil] at len ⊢
    refine ⟨by omega, by omega, by omega, by omega, ?_⟩
    unfold plainD at qq
    rw [er] at qq
    exact qq
  · have hb := c.2 rfl
    clear hN N c hne
    have lb : 0 < bs.length := List.length_pos_iff.mpr hb
    have bl := k.ok.bl
    refine seq_i fun N1 hN => ?_
    dsimp only [DL.dAnd, DL.dAndV, DL.dAny, DL.dAppend, DL.dAsg, DL.dB, DL.dBreak, DL.dC, DL.dCall, DL.dChain, DL.dCons, DL.dConsA, DL.dCont, DL.dDrop, DL.dEnumL, DL.dEnumT, DL.dFld, DL.dFldO, DL.dFldSet, DL.dFmt, DL.dFn, DL.dFor, DL.dFresh, DL.dGet1, DL.dGet2, DL.dIfE, DL.dIfS, DL.dInK, DL.dIsi, DL.dIsiO, DL.dJoin, DL.dKeys, DL.dLenSc, DL.dLenSet, DL.dLenSk, DL.dLock, DL.dLockS, DL.dMth, DL.dNeg, DL.dNever, DL.dNext, DL.dNil, DL.dNilA, DL.dNone, DL.dNot, DL.dNotV, DL.dOp, DL.dOr, DL.dOrV, DL.dPar, DL.dPut, DL.dRet, DL.dRetN, DL.dRng1, DL.dRng2, DL.dSeq, DL.dSet, DL.dSetO, DL.dSl, DL.dSome, DL.dTruth, DL.dTup, DL.dVar, DL.dView, DL.dViewT, DL.dYes, DL.dZip, DL.fDc, DL.fDictP, DL.fDictPT, DL.fDisp, DL.fLc, DL.fListT, DL.fLock, DL.fLst, DL.fMake, DL.fMakeK, DL.fMakeL, DL.fNew, DL.gAdd, DL.gBools, DL.gCmp, DL.gConsD, DL.gDin, DL.gEq, DL.gEqO, DL.gGe, DL.gGet, DL.gGt, DL.gI, DL.gIb, DL.gIc, DL.gIn, DL.gInO, DL.gInt, DL.gIsN, DL.gIx, DL.gLe, DL.gLen, DL.gLenO, DL.gLt, DL.gNameD, DL.gNe, DL.gNilD, DL.gNotN, DL.gRepr, DL.gSl, DL.gSorted, DL.gStrI, DL.gStrO, DL.gStrS, DL.gSum, DL.gTupD, DL.gTuple, DL.jCons, DL.jNil, DL.pCons, DL.pNil, startD, isiB, List.map_cons, List.map_nil, List.cons_append, List.nil_append, List.length_cons, List.length_nil, List.set_cons_zero, List.set_cons_succ, List.getElem?_cons_zero, List.getElem?_cons_succ, List.replicate]
    refine ⟨bs.length, by rw [List.length_map], by omega, by omega, fun t t0 t1 => hN _ ?_⟩
    clear hN N1
    obtain ⟨t, rfl⟩ := Int.eq_ofNat_of_zero_le t0
    have lt : t < bs.length := by omega
    have ltm : t < (bs.map Bnd.D).length := by rw [List.length_map]; exact lt
    have eat := atN (bs.map Bnd.D) t ltm
    rw [List.getElem_map] at eat
    have near := fun (m : Int) m1 m2 => near_bound k lt (m := m) m1 m2
    have er : ∀ x : Bnd, (setAt bs t x).map Bnd.D = (bs.take t).map Bnd.D ++ [x.D] ++ (bs.drop (t + 1)).map Bnd.D := fun x => by
      unfold setAt
      rw [List.map_append, List.map_cons, List.append_assoc]
      rfl
    obtain ⟨y, hy⟩ : ∃ y, y = bs[t] := ⟨_, rfl⟩
    rw [← hy] at near eat
    clear hy
    obtain ⟨a, b, m⟩ := y
    refine seq_i fun N1 hN => ?_
    dsimp only [DL.dAnd, DL.dAndV, DL.dAny, DL.dAppend, DL.dAsg, DL.dB, DL.dBreak, DL.dC, DL.dCall, DL.dChain, DL.dCons, DL.dConsA, DL.dCont, DL.dDrop, DL.dEnumL, DL.dEnumT, DL.dFld, DL.dFldO, DL.dFldSet, DL.dFmt, DL.dFn, DL.dFor, DL.dFresh, DL.dGet1, DL.dGet2, DL.dIfE, DL.dIfS, DL.dInK, DL.dIsi, DL.dIsiO, DL.dJoin, DL.dKeys, DL.dLenSc, DL.dLenSet, DL.dLenSk, DL.dLock, DL.dLockS, DL.dMth, DL.dNeg, DL.dNever, DL.dNext, DL.dNil, DL.dNilA, DL.dNone, DL.dNot, DL.dNotV, DL.dOp, DL.dOr, DL.dOrV, DL.dPar, DL.dPut, DL.dRet, DL.dRetN, DL.dRng1, DL.dRng2, DL.dSeq, DL.dSet, DL.dSetO, DL.dSl, DL.dSome, DL.dTruth, DL.dTup, DL.dVar, DL.dView, DL.dViewT, DL.dYes, DL.dZip, DL.fDc, DL.fDictP, DL.fDictPT, DL.fDisp, DL.fLc, DL.fListT, DL.fLock, DL.fLst, DL.fMake, DL.fMakeK, DL.fMakeL, DL.fNew, DL.gAdd, DL.gBools, DL.gCmp, DL.gConsD, DL.gDin, DL.gEq, DL.gEqO, DL.gGe, DL.gGet, DL.gGt, DL.gI, DL.gIb, DL.gIc, DL.gIn, DL.gInO, DL.gInt, DL.gIsN, DL.gIx, DL.gLe, DL.gLen, DL.gLenO, DL.gLt, DL.gNameD, DL.gNe, DL.gNilD, DL.gNotN, DL.gRepr, DL.gSl, DL.gSorted, DL.gStrI, DL.gStrO, DL.gStrS, DL.gSum, DL.gTupD, DL.gTuple, DL.jCons, DL.jNil, DL.pCons, DL.pNil, startD, isiB, List.map_cons, List.map_nil, List.cons_append, List.nil_append, List.length_cons, List.length_nil, List.set_cons_zero, List.set_cons_succ, List.getElem?_cons_zero, List.getElem?_cons_succ, List.replicate]
    dsimp only [g2I]
    rw [eat]
    dsimp only [Bnd.D]
    refine ⟨by omega, hN _ ?_⟩
    clear hN N1
    (dsimp only [DL.dRet, List.map, DL.Ent.view]; dsimp only [DL.dAnd, DL.dAndV, DL.dAny, DL.dAppend, DL.dAsg, DL.dB, DL.dBreak, DL.dC, DL.dCall, DL.dChain, DL.dCons, DL.dConsA, DL.dCont, DL.dDrop, DL.dEnumL, DL.dEnumT, DL.dFld, DL.dFldO, DL.dFldSet, DL.dFmt, DL.dFn, DL.dFor, DL.dFresh, DL.dGet1, DL.dGet2, DL.dIfE, DL.dIfS, DL.dInK, DL.dIsi, DL.dIsiO, DL.dJoin, DL.dKeys, DL.dLenSc, DL.dLenSet, DL.dLenSk, DL.dLock, DL.dLockS, DL.dMth, DL.dNeg, DL.dNever, DL.dNext, DL.dNil, DL.dNilA, DL.dNone, DL.dNot, DL.dNotV, DL.dOp, DL.dOr, DL.dOrV, DL.dPar, DL.dPut, DL.dRet, DL.dRetN, DL.dRng1, DL.dRng2, DL.dSeq, DL.dSet, DL.dSetO, DL.dSl, DL.dSome, DL.dTruth, DL.dTup, DL.dVar, DL.dView, DL.dViewT, DL.dYes, DL.dZip, DL.fDc, DL.fDictP, DL.fDictPT, DL.fDisp, DL.fLc, DL.fListT, DL.fLock, DL.fLst, DL.fMake, DL.fMakeK, DL.fMakeL, DL.fNew, DL.gAdd, DL.gBools, DL.gCmp, DL.gConsD, DL.gDin, DL.gEq, DL.gEqO, DL.gGe, DL.gGet, DL.gGt, DL.gI, DL.gIb, DL.gIc, DL.gIn, DL.gInO, DL.gInt, DL.gIsN, DL.gIx, DL.gLe, DL.gLen, DL.gLenO, DL.gLt, DL.gNameD, DL.gNe, DL.gNilD, DL.gNotN, DL.gRepr, DL.gSl, DL.gSorted, DL.gStrI, DL.gStrO, DL.gStrS, DL.gSum, DL.gTupD, DL.gTuple, DL.jCons, DL.jNil, DL.pCons, DL.pNil, startD, isiB, List.map_cons, List.map_nil, List.cons_append, List.nil_append, List.length_cons, List.length_nil, List.set_cons_zero, List.set_cons_succ, List.getElem?_cons_zero, List.getElem?_cons_succ, List.replicate])
    have qq := q _ _ _ _ (near (maxI (-999) (minI 999 (m + mo))) (by unfold minI maxI; split <;> split <;> omega) (by unfold minI maxI; split <;> split <;> omega))
    rw [show ((t : Int) + 1) = ((t + 1 : Nat) : Int) from rfl, cutT _ t (by omega), cutR _ (t + 1) (by omega), ← List.map_take, ← List.map_drop]
    have len := congrArg List.length (er ⟨a, b, maxI (-999) (minI 999 (m + mo))⟩)
    rw [List.length_map, setAt_len _ _ _ lt] at len
    simp only [List.length_append, List.length_map, List.length_cons, List.length_nil] at len ⊢
    refine ⟨by omega, by omega, by omega, by omega, ?_⟩
    unfold plainD at qq
    rw [er] at qq
    exact qq
end
end K05

set_option Elab.async false
set_option linter.all false
set_option maxRecDepth 100000
set_option maxHeartbeats 2000000
namespace K05
open PySem PySem.Spec PyProof.Rows L2 LW RZ DL
section
variable {P : Program} {w : World} {K : PySem.W.Frag} {mg : Str → Option Value} {base : Heap} {tk : Tok} {CP : Addr} {x : Str} {dvs : List V} {kws : List (Str × V)} {params : Arguments} {f : Addr} {fd : FuncData}
/-- whether v is a point -/
def isPt (v : D) (ps : List Str) : Bool := match v with
  | .dct _ _ => false
  | .obj _ _ => false
  | v => inD v (ps.map DL.D.str)
/-- values that may be looked for -/
def findable (CP : Addr) (v : D) : Prop := v.cmp = true ∨ (∃ t es, v = .dct t es) ∨ ∃ h es xs bs, v = planD CP h es xs bs
theorem isPt_cmp {v : D} (h : v.cmp = true) (ps : List Str) : isPt v ps = inD v (ps.map DL.D.str) := by
  cases v with
  | dct t es => cases h
  | obj C fs => cases h
  | _ => rfl
abbrev gCont (CP : Addr) : SpD := fun ds Q _ => ∃ h es xs bs v, ds = [planD CP h es xs bs, v] ∧ findable CP v ∧ (∀ p ∈ points es xs, PyData.strOk p = true) ∧ Q (.bl (isPt v (points (sortE es) (sortS xs))))
theorem gIn_find {CP : Addr} {v : D} {ps : List Str} {y : D} {Q : D → Prop} (hy : y = .tup (ps.map D.str) ∨ ∃ n, y = .lst n (ps.map D.str)) (hv : findable CP v) (ho : ∀ p ∈ ps, PyData.strOk p = true) (q : Q (.bl (isPt v ps))) : gInA CP (gEqP CP) v y Q := by
  rcases hv with hv | hv
  · left
    rw [isPt_cmp hv] at q
    rcases hy with rfl | ⟨n, rfl⟩
    · exact ⟨hv, strs_cmp ho, q⟩
    · exact ⟨hv, strs_cmp ho, q⟩
  · right
    refine ⟨ps, hy, ?_, ?_⟩
    · rcases hv with hv | ⟨h, es, xs, bs, rfl⟩
      · exact .inl hv
      · exact .inr ⟨_, rfl, fun z _ => ⟨h, es, xs, bs, .str z, rfl, .inr ⟨nofun, nofun, nofun, rfl⟩⟩⟩
    · rcases hv with ⟨t, es, rfl⟩ | ⟨h, es, xs, bs, rfl⟩
      · exact q
      · exact q
theorem sc_Plan___contains__2 : FnScope ["self", "value"] ["self", "value"] (defScope (mtop 28 24)) := ⟨rfl, rfl, rfl, by decide +kernel, rfl, by decide +kernel, by decide +kernel⟩
theorem ok_contains2 (T : Bl mg) (n__points : NoAttr K CP "_points") (ns_C : PySem.W.subIn K (.ref CP) (.type "str") = some false) (S_eq : Spc P w K mg base CP "__eq__" 3 ["self", "other"] (gEqP CP)) (F : Fun K x "Plan.__contains__" (mtop 28 24) f fd) :
    FnD P w K mg base 5 f fd ["self", "value"] (gCont CP) := by
  refine okD F sc_Plan___contains__2 (by decide) (by rintro ds Q De ⟨h, es, xs, bs, v, rfl, _⟩; rfl) fun cdv A outer s H E De hgd hr => ⟨_, (dss_one (ds_ret (de_inA ns_C S_eq hgd hr (by decide) (dv 1) (de_fld n__points (dv 0))))), ?_⟩
  rintro ds Dq ⟨h, es, xs, bs, v, rfl, fv, ho, q⟩
  rw [show startD ["self", "value"] [planD CP h es xs bs, v] = [.dat (planD CP h es xs bs), .dat v] from rfl]
  dsimp only [DL.dAnd, DL.dAndV, DL.dAny, DL.dAppend, DL.dAsg, DL.dB, DL.dBreak, DL.dC, DL.dCall, DL.dChain, DL.dCons, DL.dConsA, DL.dCont, DL.dDrop, DL.dEnumL, DL.dEnumT, DL.dFld, DL.dFldO, DL.dFldSet, DL.dFmt, DL.dFn, DL.dFor, DL.dFresh, DL.dGet1, DL.dGet2, DL.dIfE, DL.dIfS, DL.dInK, DL.dIsi, DL.dIsiO, DL.dJoin, DL.dKeys, DL.dLenSc, DL.dLenSet, DL.dLenSk, DL.dLock, DL.dLockS, DL.dMth, DL.dNeg, DL.dNever, DL.dNext, DL.dNil, DL.dNilA, DL.dNone, DL.dNot, DL.dNotV, DL.dOp, DL.dOr, DL.dOrV, DL.dPar, DL.dPut, DL.dRet, DL.dRetN, DL.dRng1, DL.dRng2, DL.dSeq, DL.dSet, DL.dSetO, DL.dSl, DL.dSome, DL.dTruth, DL.dTup, DL.dVar, DL.dView, DL.dViewT, DL.dYes, DL.dZip, DL.fDc, DL.fDictP, DL.fDictPT, DL.fDisp, DL.fLc, DL.fListT, DL.fLock, DL.fLst, DL.fMake, DL.fMakeK, DL.fMakeL, DL.fNew, DL.gAdd, DL.gBools, DL.gCmp, DL.gConsD, DL.gDin, DL.gEq, DL.gEqO, DL.gGe, DL.gGet, DL.gGt, DL.gI, DL.gIb, DL.gIc, DL.gIn, DL.gInO, DL.gInt, DL.gIsN, DL.gIx, DL.gLe, DL.gLen, DL.gLenO, DL.gLt, DL.gNameD, DL.gNe, DL.gNilD, DL.gNotN, DL.gRepr, DL.gSl, DL.gSorted, DL.gStrI, DL.gStrO, DL.gStrS, DL.gSum, DL.gTupD, DL.gTuple, DL.jCons, DL.jNil, DL.pCons, DL.pNil, startD, isiB, List.map_cons, List.map_nil, List.cons_append, List.nil_append, List.length_cons, List.length_nil, List.set_cons_zero, List.set_cons_succ, List.getElem?_cons_zero, List.getElem?_cons_succ, List.replicate]
  exact ⟨rfl, _, rfl, gIn_find (.inl rfl) fv (fun p m => ho p ((points_perm es xs).mem_iff.mp m)) q⟩
end
end K05

set_option Elab.async false
set_option linter.all false
set_option maxRecDepth 100000
set_option maxHeartbeats 2000000
/-! repr of data (lists from anywhere), of dicts with keys that are texts or numbers; == and != of texts. -/
namespace DL
open PySem PySem.Spec PyProof.Rows L2 LW RZ
section
variable {X : Cx} {c : Cn} {K : PySem.W.Frag}
mutual
theorem noDict : ∀ d : D, d.flat = true → d.py.hasDict = false
  | .non, _ => by simp [D.py, PyData.hasDict]
  | .bl _, _ => by simp [D.py, PyData.hasDict]
  | .int _, _ => by simp [D.py, PyData.hasDict]
  | .str _, _ => by simp [D.py, PyData.hasDict]
  | .lst _ xs, h => by simp [D.py, PyData.hasDict, noDictL xs h]
  | .tup xs, h => by simp [D.py, PyData.hasDict, noDictL xs h]
  | .dct _ _, h => by cases h
  | .obj _ _, h => by cases h
  | .stm, h => by cases h
  | .scr _, h => by cases h
theorem noDictL : ∀ ds : List D, D.flatL ds = true → PyData.hasDictAll (D.pyL ds) = false
  | [], _ => by simp [D.pyL, PyData.hasDictAll]
  | d :: ds, h => by
    have h' := Bool.and_eq_true_iff.mp h
    simp [D.pyL, PyData.hasDictAll, noDict d h'.1, noDictL ds h'.2]
end
/-- a dict with keys that are texts or numbers, as the library reads it -/
def dictPy (es : List (D × D)) : PyData := .dict ((es.map fun p => p.1.py).zip (es.map fun p => p.2.py))
def rReprK (K : PySem.W.Frag) : List V → Hp → VK → Prop := fun xs H Q => ∃ a kvs ds, xs = [.ref a] ∧ Rd H a (.dK kvs) ∧ DpXAll K H (kvs.map (·.2)) ds ∧ Sz 60 sizeLine (.dict ((kvs.map fun p => keyD p.1).zip ds)) ∧ Q (.str (PyData.dict ((kvs.map fun p => keyD p.1).zip ds)).shown) H
theorem call_reprK (hg : X.A.guards = some []) (hu : X.A.units + 64 < cLine) (hK : X.K = K := by rfl) : CallR X (.builtin "repr") (rReprK K) := by
  subst hK
  intro pins s σ H xs us Q I r h
  obtain ⟨a, kvs, ds, rfl, hd, ha, ⟨hs, hz, hl⟩, q⟩ := h
  obtain rfl := Vals.ref1 r
  obtain ⟨_, hS, vs, rkv, o, es, ep, h1, hex, hdd, _, pairs, _⟩ := dk_rd I.hok hd
  have lens := ha.len
  obtain ⟨as, hr, hn⟩ := DpXAll.reads I ha (vs.map (·.2)) (kvSnd rkv)
  have e1 : (kvs.map fun p => keyD p.1) = vs.map fun p => keyD p.1 := by
    have q := congrArg (List.map keyD) (kvFst rkv)
    simpa [List.map_map, Function.comp_def] using q
  have rd : Reads s.heap (.ref a) (.dict ((kvs.map fun p => keyD p.1).zip ds)) (a :: [] ++ as) := by
    refine Reads.dict h1 hex.1 hdd ?_ ?_
    · rw [zip_fst (by simpa using lens), e1]
      exact keysRead pairs
    · rw [zip_snd (by simpa using lens), pairsVals pairs]
      exact hr
  have nsm : sysModules ∉ a :: [] ++ as := fun q => by
    rcases List.mem_cons.mp q with e | q
    · exact beq_eq_false_iff_ne.mp hS e.symm
    · exact hn (by simpa using q)
  exact repr_of_reads' rd hs (fun _ => nsm) hg (by omega) (fun _ _ e => e) (fun h' u tk hk => ⟨.str _, H, I.kept (t' := tk) hk, ⟨_, rfl⟩, q⟩) hl
theorem RepK.dpx {W : Wd} {H : Hp} (le : Same W.S H) : ∀ {kvs : List (Key × V)} {es : List (D × D)}, RepK K W kvs es → D.plainL (es.map (·.2)) = true → DpXAll K H (kvs.map (·.2)) (es.map fun p => p.2.py) ∧ (kvs.map fun p => keyD p.1) = es.map fun p => p.1.py
  | _, _, .nil, _ => ⟨.nil, rfl⟩
  | _, _, .int h t, s => by
    have s' := Bool.and_eq_true_iff.mp s
    obtain ⟨a, b⟩ := RepK.dpx le t s'.2
    exact ⟨.cons (Rep.dpx le h s'.1) a, by rw [List.map_cons, List.map_cons, b]; rfl⟩
  | _, _, .str h t, s => by
    have s' := Bool.and_eq_true_iff.mp s
    obtain ⟨a, b⟩ := RepK.dpx le t s'.2
    exact ⟨.cons (Rep.dpx le h s'.1) a, by rw [List.map_cons, List.map_cons, b]; rfl⟩
/-- repr of data, whatever list -/
def gReprW : List D → (D → Prop) → Prop := fun ds Q => match ds with
  | [.tup xs] => D.flatL xs = true ∧ Sz 60 sizeLine (D.py (.tup xs)) ∧ Q (.str (D.py (.tup xs)).shown)
  | [.lst n xs] => D.flatL xs = true ∧ Sz 60 sizeLine (D.py (.lst n xs)) ∧ Q (.str (D.py (.lst n xs)).shown)
  | [.dct false es] => D.plainL (es.map (·.2)) = true ∧ Sz 60 sizeLine (dictPy es) ∧ Q (.str (dictPy es).shown)
  | _ => False
def rReprW (K : PySem.W.Frag) : List V → Hp → VK → Prop := fun xs H Q => rReprD K xs H Q ∨ rReprK K xs H Q
theorem call_reprW (hg : X.A.guards = some []) (hu : X.A.units + 64 < cLine) (hK : X.K = K := by rfl) : CallR X (.builtin "repr") (rReprW K) := by
  subst hK
  exact (call_reprD hg hu).or (call_reprK hg hu)
theorem l_reprW : DCall K (rReprW K) gReprW := fun {W H xs ds Q Dq} ok r h k => by
  unfold gReprW at h
  split at h
  · cases r with
    | cons r1 r2 =>
      cases r2
      have z := r1.dp ok.le (show D.flat (.tup _) = true from h.1)
      cases r1 with
      | tup _ _ _ => exact .inl ⟨_, _, rfl, z, h.2.1.1, noDict _ h.1, h.2.1.2.1, h.2.1.2.2, k _ _ _ _ (Go.refl ok) (.str _) h.2.2⟩
  · cases r with
    | cons r1 r2 =>
      cases r2
      have z := r1.dp ok.le (show D.flat (.lst _ _) = true from h.1)
      cases r1 with
      | lst _ _ _ _ => exact .inl ⟨_, _, rfl, z, h.2.1.1, noDict (.lst false _) h.1, h.2.1.2.1, h.2.1.2.2, k _ _ _ _ (Go.refl ok) (.str _) h.2.2⟩
  · cases r with
    | cons r1 r2 =>
      cases r2
      cases r1 with
      | dK z rd rk =>
        obtain ⟨a, b⟩ := rk.dpx ok.le h.1
        have b' := b
        refine .inr ⟨_, _, _, rfl, rdS ok.le rd, a, ?_, ?_⟩
        · rw [b]; exact h.2.1
        · rw [b]; exact k _ _ _ _ (Go.refl ok) (.str _) h.2.2
  · exact h.elim
/-! == and != of texts -/
def gEqS (f : Bool → Bool) : D → D → (D → Prop) → Prop := fun x y Q => match x, y with
  | .str a, .str b => Q (.bl (f (a == b)))
  | _, _ => False
theorem l_eqS : DOp2 K rEq (gEqS id) := fun {W H x y dx dy Q Dq} ok rx ry h k => by
  cases rx with
  | str a =>
    cases ry with
    | str b =>
      refine ⟨rfl, ?_⟩
      rw [dec_str]
      exact k _ _ _ _ (Go.refl ok) (.bl _) h
    | _ => exact h.elim
  | _ => exact h.elim
theorem l_neS : DOp2 K rNe (gEqS not) := fun {W H x y dx dy Q Dq} ok rx ry h k => by
  cases rx with
  | str a =>
    cases ry with
    | str b =>
      refine ⟨rfl, ?_⟩
      rw [dec_str]
      exact k _ _ _ _ (Go.refl ok) (.bl _) h
    | _ => exact h.elim
  | _ => exact h.elim
end
section
variable {X : Cx} {c : Cn} {K : PySem.W.Frag} {k j : Nat} {C : Addr} {ps : List Str} {g : SpD} {a b : Expr} {fa fb : DTE} {pos : Pos}
theorem dt_eqO (S : Spc X.prog X.w X.K X.mg X.base C "__eq__" k ps g) (hgd : X.A.guards = some []) (hr : Room j X.A) (hj : k ≤ j) (ha : DE X c a fa) (hb' : DE X c b fb) (hK : X.K = c.K := by rfl) : DT X c (.Compare a [.Eq] [b] pos) (dB (dOp (gEqO C g id) fa fb)) := by
  obtain ⟨cl, f, fd, h1, h2, F, hb⟩ := S
  exact dt_cmp (op_eqO h1 h2 F hgd (hr.mono hj) hb) (by rw [← hK]; exact l_eqO) ha hb' (nomark _)
theorem dt_neO (S : Spc X.prog X.w X.K X.mg X.base C "__eq__" k ps g) (co : ClsOk X.K C) (hn : PySem.W.findIn X.K (.ref C) "__ne__" = some (some (.builtin "object.__ne__"))) (hgd : X.A.guards = some []) (hr : Room j X.A) (hj : k + 1 ≤ j) (ha : DE X c a fa) (hb' : DE X c b fb) (hK : X.K = c.K := by rfl) :
    DT X c (.Compare a [.NotEq] [b] pos) (dB (dOp (gEqO C g not) fa fb)) := by
  obtain ⟨cl, f, fd, h1, h2, F, hb⟩ := S
  exact dt_cmp (op_neO hn co.hm h1 h2 F hgd (hr.mono hj) hb) (by rw [← hK]; exact l_eqO) ha hb' (nomark _)
end
/-- from here on what frames hold by themselves is shared -/
def dShareS (g : DTS) : DTS := fun D ρ => g D (ρ.map Ent.view)
theorem ds_share {X : Cx} {c : Cn} {st : Stmt} {g : DTS} (h : DS X c st g) : DS X c st (dShareS g) := by
  obtain ⟨t, p, v⟩ := h
  exact ⟨t, p, ⟨fun eo en q k => v.run eo (seen_env en) q k⟩⟩
end DL

set_option Elab.async false
set_option linter.all false
set_option maxRecDepth 100000
set_option maxHeartbeats 2000000
namespace K05
open PySem PySem.Spec PyProof.Rows L2 LW RZ DL
theorem szT {k n m : Nat} {ds : List DL.D} (h : ∀ d ∈ ds, Sz k n d.py) (l : ds.length ≤ m) : Sz (k + 1) ((n + 2) * m + 3) (D.py (.tup ds)) := by
  have z := Sz.tup (k := k) (n := n) (ds := ds.map D.py) fun d m => by
    obtain ⟨e, me, rfl⟩ := List.mem_map.mp m
    exact h e me
  rw [List.length_map] at z
  have e : D.py (.tup ds) = .tuple (ds.map D.py) := by rw [D.py, pyL_map]
  rw [e]
  exact z.mono (Nat.le_refl _) (Nat.add_le_add_right (Nat.mul_le_mul_left _ l) _)
theorem szL {k n m : Nat} {b : Bool} {ds : List DL.D} (h : ∀ d ∈ ds, Sz k n d.py) (l : ds.length ≤ m) : Sz (k + 1) ((n + 2) * m + 3) (D.py (.lst b ds)) := by
  have z := Sz.lst (k := k) (n := n) (ds := ds.map D.py) fun d m => by
    obtain ⟨e, me, rfl⟩ := List.mem_map.mp m
    exact h e me
  rw [List.length_map] at z
  have e : D.py (.lst b ds) = .list (ds.map D.py) := by rw [D.py, pyL_map]
  rw [e]
  exact z.mono (Nat.le_refl _) (Nat.add_le_add_right (Nat.mul_le_mul_left _ l) _)
theorem szName {s : Str} (h : okName s) : Sz 0 82 (.str s) := Sz.str (m := 8) (fun c m => by have := (h.2.2 c m).2; omega) h.2.1
theorem szStart : Sz 0 82 (.str start) := Sz.str (m := 8) (by decide +kernel) (by decide +kernel)
theorem szI {i : Int} (h1 : -1000 ≤ i) (h2 : i ≤ 1000) : Sz 0 82 (.int i) := (Sz.int (by omega)).mono (Nat.le_refl _) (by decide)
theorem szPt {es : List Str} {xs : List Stp} {bs : List Bnd} (k : okParts es xs bs) : ∀ p ∈ points es xs, Sz 0 82 (.str p) := fun p m => by
  rcases List.mem_cons.mp m with rfl | m
  · exact szStart
  · rcases List.mem_append.mp m with m | m
    · exact szName (k.n p m)
    · obtain ⟨x, mx, rfl⟩ := List.mem_map.mp m
      exact szName (k.x x mx).e1
theorem szDel {d : Option Int} (h : okDel d) : Sz 0 82 (D.py (delD d)) := by
  cases d with
  | none => exact Sz.none.mono (Nat.le_refl _) (by decide)
  | some i => exact szI (by have := h.1; omega) (by have := h.2; omega)
theorem szBegin {es : List Str} {xs : List Stp} {bs : List Bnd} (k : okParts es xs bs) : ∀ x ∈ xs, Sz 0 82 (.str x.b) := fun x m => by
  rcases (k.x x m).b1 with e | e
  · rw [e]; exact szStart
  · exact szName (k.n _ e)
theorem szStep {es : List Str} {xs : List Stp} {bs : List Bnd} (k : okParts es xs bs) : ∀ x ∈ xs, Sz 1 423 (D.py x.D) := fun x m => by
  obtain ⟨e1, _, _, _, m1, m2, l1, l2, d1⟩ := k.x x m
  refine szT (k := 0) (n := 82) (m := 5) (fun d md => ?_) (Nat.le_refl _)
  simp only [List.mem_cons, List.mem_nil_iff, or_false] at md
  rcases md with rfl | rfl | rfl | rfl | rfl
  · exact szName e1
  · exact szBegin k x m
  · exact szI (by omega) (by omega)
  · exact szI (by omega) (by omega)
  · exact szDel d1
theorem szBnd {es : List Str} {xs : List Stp} {bs : List Bnd} (k : okParts es xs bs) : ∀ x ∈ bs, Sz 1 255 (D.py x.D) := fun x m => by
  obtain ⟨a1, b1, _, m1, m2⟩ := k.b x m
  refine szT (k := 0) (n := 82) (m := 3) (fun d md => ?_) (Nat.le_refl _)
  simp only [List.mem_cons, List.mem_nil_iff, or_false] at md
  rcases md with rfl | rfl | rfl
  · exact szPt k _ a1
  · exact szPt k _ b1
  · exact szI (by omega) (by omega)
theorem szStrs {es : List Str} {n : Nat} (h : ∀ e ∈ es, Sz 0 82 (.str e)) (l : es.length ≤ n) : Sz 1 (84 * n + 3) (D.py (.tup (es.map DL.D.str))) :=
  szT (k := 0) (n := 82) (m := n) (fun d m => by obtain ⟨e, me, rfl⟩ := List.mem_map.mp m; exact h e me) (by rw [List.length_map]; exact l)
theorem szSteps {es : List Str} {xs : List Stp} {bs : List Bnd} (k : okParts es xs bs) : Sz 2 20000 (D.py (.tup (xs.map Stp.D))) :=
  (szT (k := 1) (n := 423) (m := 5) (fun d m => by obtain ⟨x, mx, rfl⟩ := List.mem_map.mp m; exact szStep k x mx) (by rw [List.length_map]; exact k.xl)).mono (Nat.le_refl _) (by decide)
theorem szBnds {es : List Str} {xs : List Stp} {bs : List Bnd} (k : okParts es xs bs) : Sz 2 20000 (D.py (.tup (bs.map Bnd.D))) :=
  (szT (k := 1) (n := 255) (m := 64) (fun d m => by obtain ⟨x, mx, rfl⟩ := List.mem_map.mp m; exact szBnd k x mx) (by rw [List.length_map]; have := k.bl; omega)).mono (Nat.le_refl _) (by decide)
theorem szEvs {es : List Str} {xs : List Stp} {bs : List Bnd} (k : okParts es xs bs) : Sz 2 20000 (D.py (.tup (es.map DL.D.str))) := (szStrs (n := 10) (fun e m => szName (k.n e m)) k.el).mono (by decide) (by decide)
theorem szEnds {es : List Str} {xs : List Stp} {bs : List Bnd} (k : okParts es xs bs) : Sz 2 20000 (D.py (.tup ((xs.map Stp.e).map DL.D.str))) := (szStrs (n := 10) (fun e m => by obtain ⟨x, mx, rfl⟩ := List.mem_map.mp m; exact szName (k.x x mx).e1) (by rw [List.length_map]; have := k.xl; omega)).mono (by decide) (by decide)
theorem szPts {es : List Str} {xs : List Stp} {bs : List Bnd} (k : okParts es xs bs) : Sz 2 20000 (D.py (.tup ((points es xs).map DL.D.str))) := (szStrs (n := 20) (szPt k) (by have := k.el; have := k.xl; rw [points, List.length_cons, List.length_append, List.length_map]; omega)).mono (by decide) (by decide)
/-- what a plan tells, and the law's own -/
def sixD (h : Int) (es : List Str) (xs : List Stp) (bs : List Bnd) : List DL.D := [.int h, .tup (es.map DL.D.str), .tup (xs.map Stp.D), .tup (bs.map Bnd.D), .tup ((xs.map Stp.e).map DL.D.str), .tup ((points es xs).map DL.D.str)]
theorem szSix {h : Int} {es : List Str} {xs : List Stp} {bs : List Bnd} (k : okPlain h es xs bs) : Sz 60 sizeLine (D.py (.tup (sixD h es xs bs))) := by
  refine (szT (k := 2) (n := 20000) (m := 6) (fun d md => ?_) (Nat.le_refl _)).mono (by decide) (by rw [sizeLine_eq]; decide)
  unfold sixD at md
  simp only [List.mem_cons, List.mem_nil_iff, or_false] at md
  have h0 := k.h0
  have h1 := k.h1
  rcases md with rfl | rfl | rfl | rfl | rfl | rfl
  · exact (szI (by omega) (by omega)).mono (by decide) (by decide)
  · exact szEvs k.ok
  · exact szSteps k.ok
  · exact szBnds k.ok
  · exact szEnds k.ok
  · exact szPts k.ok
theorem flatSix (h : Int) (es : List Str) (xs : List Stp) (bs : List Bnd) : D.flatL (sixD h es xs bs) = true := by
  simp only [sixD, D.flatL, D.flat, flat_strs, flat_steps, flat_bounds, Bool.and_self]
theorem reprT {xs : List DL.D} {Q : DL.D → Prop} (f : D.flatL xs = true) (z : Sz 60 sizeLine (D.py (.tup xs))) (q : Q (.str (D.py (.tup xs)).shown)) : gReprW [.tup xs] Q := ⟨f, z, q⟩
theorem reprL {n : Bool} {xs : List DL.D} {Q : DL.D → Prop} (f : D.flatL xs = true) (z : Sz 60 sizeLine (D.py (.lst n xs))) (q : Q (.str (D.py (.lst n xs)).shown)) : gReprW [.lst n xs] Q := ⟨f, z, q⟩
theorem eqS_same {f : Bool → Bool} {x : Str} {Q : DL.D → Prop} (q : Q (.bl (f true))) : gEqS f (.str x) (.str x) Q := by
  show Q (.bl (f (x == x)))
  rw [beq_self_eq_true]
  exact q
theorem repr2T {xs : List DL.D} {f : Bool → Bool} {Q : DL.D → Prop} {A B : Prop} (fl : D.flatL xs = true) (z : Sz 60 sizeLine (D.py (.tup xs))) (a : A) (b : B) (q : Q (.bl (f true))) : gReprW [.tup xs] fun x => A ∧ B ∧ gReprW [.tup xs] fun y => gEqS f x y Q :=
  reprT fl z ⟨a, b, reprT fl z (eqS_same q)⟩
theorem repr2L {n n' : Bool} {xs : List DL.D} {f : Bool → Bool} {Q : DL.D → Prop} (fl : D.flatL xs = true) (z : ∀ n, Sz 60 sizeLine (D.py (.lst n xs))) (q : Q (.bl (f true))) : gReprW [.lst n xs] fun x => gReprW [.lst n' xs] fun y => gEqS f x y Q :=
  reprL fl (z n) (reprL (n := n') fl (z n') (eqS_same q))
theorem at4_0 {α : Type} (a b c d : α) : L2.atI [a, b, c, d] 0 = some a := rfl
theorem at4_1 {α : Type} (a b c d : α) : L2.atI [a, b, c, d] 1 = some b := rfl
theorem at4_2 {α : Type} (a b c d : α) : L2.atI [a, b, c, d] 2 = some c := rfl
theorem at4_3 {α : Type} (a b c d : α) : L2.atI [a, b, c, d] 3 = some d := rfl
theorem merge_kvB {bs : List Bnd} (nd : (bs.map Bnd.k).Nodup) : mergeD [] (prE (bs.map fun b => (b.k, DL.D.int b.m))) = bs.map kvB := by
  have e : prE (bs.map fun b => (b.k, DL.D.int b.m)) = bs.map kvB := by
    unfold prE
    rw [List.map_map]
    exact List.map_congr_left fun x _ => rfl
  rw [e, merge_nodup _ [] (fun p m => by cases m), List.nil_append]
  rw [List.pairwise_map]
  exact (List.pairwise_map.mp nd).imp fun {a b} h => by
    show keyEq (.tup [.str a.a, .str a.b]) (.tup [.str b.a, .str b.b]) = false
    rw [key_pair, decide_eq_false_iff_not]
    exact fun q => h ((kB_eq a b).mpr q)
theorem held_kvB {bs : List Bnd} (e : sortB bs = bs) (a b : Str) : (findK (bs.map kvB) (.tup [.str a, .str b])).getD .non = held bs a b := by
  unfold held
  rw [e]
  rfl
theorem findK_mem : ∀ {es : List (DL.D × DL.D)} {y v : DL.D}, findK es y = some v → ∃ p ∈ es, p.2 = v := by
  intro es y v h
  unfold findK at h
  cases q : es.find? fun p => keyEq p.1 y with
  | none => rw [q] at h; cases h
  | some p => rw [q] at h; cases h; exact ⟨p, List.mem_of_find?_eq_some q, rfl⟩
theorem held_cases {bs : List Bnd} (e : sortB bs = bs) (a b : Str) : held bs a b = .non ∨ ∃ y ∈ bs, held bs a b = .int y.m := by
  rw [← held_kvB e]
  cases q : findK (bs.map kvB) (.tup [.str a, .str b]) with
  | none => exact .inl rfl
  | some v =>
    obtain ⟨p, m, ev⟩ := findK_mem q
    obtain ⟨y, my, rfl⟩ := List.mem_map.mp m
    exact .inr ⟨y, my, ev.symm⟩
theorem flat_held {bs : List Bnd} (e : sortB bs = bs) (a : Str) : ∀ ps : List Str, D.flatL (ps.map fun p => held bs a p) = true
  | [] => rfl
  | p :: ps => by
    rw [List.map_cons, D.flatL, flat_held e a ps]
    rcases held_cases e a p with h | ⟨y, _, h⟩ <;> rw [h] <;> rfl
theorem szHeld {h : Int} {es : List Str} {xs : List Stp} {bs : List Bnd} (k : okPlain h es xs bs) (a : Str) (n : Bool) : Sz 60 sizeLine (D.py (.lst n ((points es xs).map fun p => held bs a p))) := by
  refine (szL (k := 0) (n := 82) (m := 20) (fun d m => ?_) ?_).mono (by decide) (by rw [sizeLine_eq]; decide)
  · obtain ⟨p, mp, rfl⟩ := List.mem_map.mp m
    rcases held_cases k.b a p with h | ⟨y, my, h⟩
    · rw [h]; exact Sz.none.mono (Nat.le_refl _) (by decide)
    · rw [h]; exact szI (by have := (k.ok.b y my).m1; omega) (by have := (k.ok.b y my).m2; omega)
  · have := k.ok.el
    have := k.ok.xl
    rw [List.length_map, points, List.length_cons, List.length_append, List.length_map]
    omega
theorem empty_app (x : Str) : Str.empty ++ x = x := by
  cases x
  show Str.mk (#[] ++ _) = _
  rw [Array.empty_append]
section
variable {P : Program} {w : World} {K : PySem.W.Frag} {mg : Str → Option Value} {base : Heap} {tk : Tok} {CP : Addr}
abbrev gLen (CP : Addr) : SpD := fun ds Q _ => ∃ h es xs bs, ds = [planD CP h es xs bs] ∧ Q (.int (1 + es.length + xs.length))
abbrev gStrP (CP : Addr) : SpD := fun ds Q _ => ∃ h es xs bs, ds = [planD CP h es xs bs] ∧ es.length < 100 ∧ xs.length < 100 ∧ bs.length < 100 ∧ Q (.str (told es.length xs.length bs.length))
abbrev gStepP (CP : Addr) : SpD := fun ds Q _ => ∃ h es xs bs y, ds = [planD CP h es xs bs, .str y.e] ∧ okParts es xs bs ∧ y ∈ xs ∧ Q y.D
abbrev gBoundP (CP : Addr) : SpD := fun ds Q _ => ∃ h es xs bs a b, ds = [planD CP h es xs bs, .str a, .str b] ∧ (∀ p ∈ points es xs, PyData.strOk p = true) ∧ a ∈ points es xs ∧ b ∈ points es xs ∧ Q (held bs a b)
abbrev gPts : SpD := fun ds Q _ => ∃ h es xs bs, ds = [plainD h es xs bs] ∧ es.length + xs.length < 64 ∧ Q (.tup ((points es xs).map DL.D.str))
abbrev gTold (CP : Addr) : SpD := fun ds Q _ => ∃ h es xs bs, ds = [plainD h es xs bs, planD CP h es xs bs] ∧ okPlain h es xs bs ∧ Q (.bl true)
theorem sc__law_told_right : FnScope ["plain", "plan", "ends", "points", "found", "numbers", "first", "due", "text", "second", "most", "step", "end"] ["plain", "plan"] (defScope (top 43)) := ⟨rfl, rfl, rfl, by decide +kernel, rfl, by decide +kernel, by decide +kernel⟩
theorem ok_law_told (T : Bl mg) (C__law_points : Cal P w K mg base "_law_points" 1 ["plain"] gPts) (P_bounds : Prt P w K mg base CP "bounds" "_bounds") (P_events : Prt P w K mg base CP "events" "_events") (P_horizon : Prt P w K mg base CP "horizon" "_horizon") (P_steps : Prt P w K mg base CP "steps" "_steps") (P_ends : Prt P w K mg base CP "ends" "_ends") (P_points : Prt P w K mg base CP "points" "_points")
    (L_len : Spc P w K mg base CP "__len__" 1 ["self"] (gLen CP)) (L_str : Spc P w K mg base CP "__str__" 1 ["self"] (gStrP CP)) (M_step : Mth P w K mg base CP "step" 1 ["self", "end"] (gStepP CP)) (M_bound : Mth P w K mg base CP "bound" 2 ["self", "first", "second"] (gBoundP CP)) (F : Dfn K mg "_law_told_right" "_law_told_right" (top 43) ["plain", "plan"]) :
    Cal P w K mg base "_law_told_right" 4 ["plain", "plan"] (gTold CP) := by
  refine okC F sc__law_told_right (by decide) (by rintro ds Q De ⟨h, es, xs, bs, rfl, _⟩; rfl) fun f cdv A outer s H E De hgd hr => ⟨_, (dss_cons (ds_par (i := 2) (j := 3) rfl sc__law_told_right.nd rfl rfl (by decide) rfl rfl (de_callTy (call_tupleA) l_tuple (by rfl) T.«tuple» (by decide +kernel) (da_cons (de_fresh (df_lc (own := [("step", 11)]) (by rfl) sc__law_told_right.nd (di_any (de_ix (dv 0) de_int (fun _ _ => rfl))) (blkOk_by (own := [("step", 11)]) (N := ["plain", "plan", "ends", "points", "found", "numbers", "first", "due", "text", "second", "most", "step", "end"]) (sc := defScope (top 43)) (by decide +kernel)) (fun _ _ _ _ _ => (dg_name (i := 11) sc__law_told_right.nd rfl (.inl rfl))) (fun _ _ _ _ _ => dts_nil) (fun _ _ _ _ _ => (de_ix (dv 11) de_int (fun _ _ => rfl))) (by decide))) da_nil)) (de_cal C__law_points hgd hr (by decide) (by rfl) (passes_call (takes_of rfl rfl rfl rfl) fun _ _ _ _ h => h) (da_cons (dv 0) da_nil)) (by rfl))
      (dss_cons (ds_set (i := 4) sc__law_told_right.nd rfl (.inl rfl) (de_tup (da_cons (de_prop P_horizon hr (by decide) (dv 1)) (da_cons (de_prop P_events hr (by decide) (dv 1)) (da_cons (de_prop P_steps hr (by decide) (dv 1)) (da_cons (de_prop P_bounds hr (by decide) (dv 1)) (da_cons (de_prop P_ends hr (by decide) (dv 1)) (da_cons (de_prop P_points hr (by decide) (dv 1)) da_nil))))))))
      (dss_cons (ds_if (DW.dt (dw_or (dt_cmp op_ne l_neS (de_callB (call_reprW hgd hr.units) l_reprW (by rfl) T.«repr» (by decide +kernel) (da_cons (dv 4) da_nil)) (de_callB (call_reprW hgd hr.units) l_reprW (by rfl) T.«repr» (by decide +kernel) (da_cons (de_op (op_addA) l_add (dv 0) (de_tup (da_cons (dv 2) (da_cons (dv 3) da_nil)))) da_nil)) (nomark _)) (dw_or1 (dt_cmp (op_neA hr.units) l_ne (de_lenO L_len hgd hr (by decide) (by rfl) T.«len» (da_cons (dv 1) da_nil)) (de_callB (call_lenA) l_len (by rfl) T.«len» (by decide +kernel) (da_cons (dv 3) da_nil)) (nomark _)))))
        (dss_one (ds_ret de_bl))
        dss_nil)
      (dss_cons (ds_if (dt_cmp op_ne l_neS (de_callB (call_reprW hgd hr.units) l_reprW (by rfl) T.«repr» (by decide +kernel) (da_cons (de_fresh (df_lc (own := [("end", 12)]) (by rfl) sc__law_told_right.nd (di_any (dv 2)) (blkOk_by (own := [("end", 12)]) (N := ["plain", "plan", "ends", "points", "found", "numbers", "first", "due", "text", "second", "most", "step", "end"]) (sc := defScope (top 43)) (by decide +kernel)) (fun _ _ _ _ _ => (dg_name (i := 12) sc__law_told_right.nd rfl (.inl rfl))) (fun _ _ _ _ _ => dts_nil) (fun _ _ _ _ _ => (de_mth M_step hgd hr (by decide) (passN fun _ _ _ h => h) (dv 1) (da_cons (dv 12) da_nil))) (by decide))) da_nil)) (de_callB (call_reprW hgd hr.units) l_reprW (by rfl) T.«repr» (by decide +kernel) (da_cons (de_fresh (df_listT (by rfl) T.«list» (de_ix (dv 0) de_int (fun _ _ => rfl)))) da_nil)) (nomark _))
        (dss_one (ds_ret de_bl))
        dss_nil)
      (dss_cons (ds_set (i := 5) sc__law_told_right.nd rfl (.inr rfl) (de_fresh (df_dictPT (by rfl) hr.units (by rfl) T.«dict» (de_fresh (df_lc (own := [("first", 6), ("second", 9), ("most", 10)]) (by rfl) sc__law_told_right.nd (di_any (de_ix (dv 0) de_int (fun _ _ => rfl))) (blkOk_by (own := [("first", 6), ("second", 9), ("most", 10)]) (N := ["plain", "plan", "ends", "points", "found", "numbers", "first", "due", "text", "second", "most", "step", "end"]) (sc := defScope (top 43)) (by decide +kernel)) (fun _ _ _ _ _ => (dg_tup (n := 3) rfl (dgs_cons (dg_name (i := 6) sc__law_told_right.nd rfl (.inl rfl)) (dgs_cons (dg_name (i := 9) sc__law_told_right.nd rfl (.inl rfl)) (dgs_cons (dg_name (i := 10) sc__law_told_right.nd rfl (.inl rfl)) dgs_nil))))) (fun _ _ _ _ _ => dts_nil) (fun _ _ _ _ _ => (de_tup (da_cons (de_tup (da_cons (dv 6) (da_cons (dv 9) da_nil))) (da_cons (dv 10) da_nil)))) (by decide))))))
      (dss_cons (ds_for (passes_of rfl) rfl (di_any (dv 3)) (dg_name (i := 6) sc__law_told_right.nd rfl (.inr rfl))
        (dss_cons (ds_setLc (i := 7) rfl rfl (own := [("second", 9)]) (by rfl) sc__law_told_right.nd (di_any (dv 3)) (blkOk_by (own := [("second", 9)]) (N := ["plain", "plan", "ends", "points", "found", "numbers", "first", "due", "text", "second", "most", "step", "end"]) (sc := defScope (top 43)) (by decide +kernel)) (fun _ _ _ _ _ => (dg_name (i := 9) sc__law_told_right.nd rfl (.inl rfl))) (fun _ _ _ _ _ => dts_nil) (fun _ _ _ _ _ => (de_dget1 (hu1 hr) (dv 5) (de_tup (da_cons (dv 6) (da_cons (dv 9) da_nil))))) (by decide))
        (dss_one (ds_if (dt_cmp op_ne l_neS (de_callB (call_reprW hgd hr.units) l_reprW (by rfl) T.«repr» (by decide +kernel) (da_cons (de_fresh (df_lc (own := [("second", 9)]) (by rfl) sc__law_told_right.nd (di_any (dv 3)) (blkOk_by (own := [("second", 9)]) (N := ["plain", "plan", "ends", "points", "found", "numbers", "first", "due", "text", "second", "most", "step", "end"]) (sc := defScope (top 43)) (by decide +kernel)) (fun _ _ _ _ _ => (dg_name (i := 9) sc__law_told_right.nd rfl (.inl rfl))) (fun _ _ _ _ _ => dts_nil) (fun _ _ _ _ _ => (de_mth M_bound hgd hr (by decide) (passN fun _ _ _ h => h) (dv 1) (da_cons (dv 6) (da_cons (dv 9) da_nil)))) (by decide))) da_nil)) (de_callB (call_reprW hgd hr.units) l_reprW (by rfl) T.«repr» (by decide +kernel) (da_cons (dv 7) da_nil)) (nomark _))
          (dss_one (ds_ret de_bl))
          dss_nil))))
      (dss_cons (ds_set (i := 8) sc__law_told_right.nd rfl (.inl rfl) (de_op (op_addA) l_add (de_op (op_addA) l_add (de_op (op_addA) l_add (de_op (op_addA) l_add de_str (de_callTy call_str_int l_strI (by rfl) T.«str» (by decide +kernel) (da_cons (de_callB (call_lenA) l_len (by rfl) T.«len» (by decide +kernel) (da_cons (de_ix (dv 0) de_int (fun _ _ => rfl)) da_nil)) da_nil))) de_str) (de_callTy call_str_int l_strI (by rfl) T.«str» (by decide +kernel) (da_cons (de_callB (call_lenA) l_len (by rfl) T.«len» (by decide +kernel) (da_cons (dv 2) da_nil)) da_nil))) de_str))
      (dss_one (ds_ret (de_cmp op_eq l_eqS (de_strO L_str hgd hr (by decide) (by rfl) T.«str» (da_cons (dv 1) da_nil)) (de_op (op_addA) l_add (de_op (op_addA) l_add (dv 8) (de_callTy call_str_int l_strI (by rfl) T.«str» (by decide +kernel) (da_cons (de_callB (call_lenA) l_len (by rfl) T.«len» (by decide +kernel) (da_cons (de_ix (dv 0) de_int (fun _ _ => rfl)) da_nil)) da_nil))) de_str) (nomark _))))))))))), ?_⟩
  rintro ds Dq ⟨h, es, xs, bs, rfl, k, q⟩
  rw [show startD ["plain", "plan", "ends", "points", "found", "numbers", "first", "due", "text", "second", "most", "step", "end"] [plainD h es xs bs, planD CP h es xs bs] = [.dat (.tup [.int h, .tup (es.map DL.D.str), .tup (xs.map Stp.D), .tup (bs.map Bnd.D)]), .dat (planD CP h es xs bs), .un, .un, .un, .un, .un, .un, .un, .un, .un, .un, .un] from rfl]
  have sL : (16777216 : Nat) = sizeLine := sizeLine_eq.symm
  have el := k.ok.el
  have xl := k.ok.xl
  have bl := k.ok.bl
  refine seq_i fun N hN => ?_
  dsimp only [DL.dAnd, DL.dAndV, DL.dAny, DL.dAppend, DL.dAsg, DL.dB, DL.dBreak, DL.dC, DL.dCall, DL.dChain, DL.dCons, DL.dConsA, DL.dCont, DL.dDrop, DL.dEnumL, DL.dEnumT, DL.dFld, DL.dFldO, DL.dFldSet, DL.dFmt, DL.dFn, DL.dFor, DL.dFresh, DL.dGet1, DL.dGet2, DL.dIfE, DL.dIfS, DL.dInK, DL.dIsi, DL.dIsiO, DL.dJoin, DL.dKeys, DL.dLenSc, DL.dLenSet, DL.dLenSk, DL.dLock, DL.dLockS, DL.dMth, DL.dNeg, DL.dNever, DL.dNext, DL.dNil, DL.dNilA, DL.dNone, DL.dNot, DL.dNotV, DL.dOp, DL.dOr, DL.dOrV, DL.dPar, DL.dPut, DL.dRet, DL.dRetN, DL.dRng1, DL.dRng2, DL.dSeq, DL.dSet, DL.dSetO, DL.dSl, DL.dSome, DL.dTruth, DL.dTup, DL.dVar, DL.dView, DL.dViewT, DL.dYes, DL.dZip, DL.fDc, DL.fDictP, DL.fDictPT, DL.fDisp, DL.fLc, DL.fListT, DL.fLock, DL.fLst, DL.fMake, DL.fMakeK, DL.fMakeL, DL.fNew, DL.gAdd, DL.gBools, DL.gCmp, DL.gConsD, DL.gDin, DL.gEq, DL.gEqO, DL.gGe, DL.gGet, DL.gGt, DL.gI, DL.gIb, DL.gIc, DL.gIn, DL.gInO, DL.gInt, DL.gIsN, DL.gIx, DL.gLe, DL.gLen, DL.gLenO, DL.gLt, DL.gNameD, DL.gNe, DL.gNilD, DL.gNotN, DL.gRepr, DL.gSl, DL.gSorted, DL.gStrI, DL.gStrO, DL.gStrS, DL.gSum, DL.gTupD, DL.gTuple, DL.jCons, DL.jNil, DL.pCons, DL.pNil, startD, isiB, List.map_cons, List.map_nil, List.cons_append, List.nil_append, List.length_cons, List.length_nil, List.set_cons_zero, List.set_cons_succ, List.getElem?_cons_zero, List.getElem?_cons_succ, List.replicate]
  refine lc_map (F := fun d => match d with | .tup (.str s :: _) => .str s | _ => .non) (xs.map Stp.D) _ (fun d m R r => ?_) ?_
  · obtain ⟨x, mx, rfl⟩ := List.mem_map.mp m
    obtain ⟨e, b, l, m, dd⟩ := x
    exact r
  have hm : (xs.map Stp.D).map (fun d => match d with | .tup (.str s :: _) => D.str s | _ => .non) = (xs.map Stp.e).map DL.D.str := by
    rw [List.map_map, List.map_map]
    exact List.map_congr_left fun x _ => by cases x; rfl
  rw [hm, List.nil_append]
  clear hm
  refine ⟨h, es, xs, bs, rfl, by omega, hN _ ?_⟩
  clear hN N
  refine seq_i fun N hN => ?_
  dsimp only [DL.dAnd, DL.dAndV, DL.dAny, DL.dAppend, DL.dAsg, DL.dB, DL.dBreak, DL.dC, DL.dCall, DL.dChain, DL.dCons, DL.dConsA, DL.dCont, DL.dDrop, DL.dEnumL, DL.dEnumT, DL.dFld, DL.dFldO, DL.dFldSet, DL.dFmt, DL.dFn, DL.dFor, DL.dFresh, DL.dGet1, DL.dGet2, DL.dIfE, DL.dIfS, DL.dInK, DL.dIsi, DL.dIsiO, DL.dJoin, DL.dKeys, DL.dLenSc, DL.dLenSet, DL.dLenSk, DL.dLock, DL.dLockS, DL.dMth, DL.dNeg, DL.dNever, DL.dNext, DL.dNil, DL.dNilA, DL.dNone, DL.dNot, DL.dNotV, DL.dOp, DL.dOr, DL.dOrV, DL.dPar, DL.dPut, DL.dRet, DL.dRetN, DL.dRng1, DL.dRng2, DL.dSeq, DL.dSet, DL.dSetO, DL.dSl, DL.dSome, DL.dTruth, DL.dTup, DL.dVar, DL.dView, DL.dViewT, DL.dYes, DL.dZip, DL.fDc, DL.fDictP, DL.fDictPT, DL.fDisp, DL.fLc, DL.fListT, DL.fLock, DL.fLst, DL.fMake, DL.fMakeK, DL.fMakeL, DL.fNew, DL.gAdd, DL.gBools, DL.gCmp, DL.gConsD, DL.gDin, DL.gEq, DL.gEqO, DL.gGe, DL.gGet, DL.gGt, DL.gI, DL.gIb, DL.gIc, DL.gIn, DL.gInO, DL.gInt, DL.gIsN, DL.gIx, DL.gLe, DL.gLen, DL.gLenO, DL.gLt, DL.gNameD, DL.gNe, DL.gNilD, DL.gNotN, DL.gRepr, DL.gSl, DL.gSorted, DL.gStrI, DL.gStrO, DL.gStrS, DL.gSum, DL.gTupD, DL.gTuple, DL.jCons, DL.jNil, DL.pCons, DL.pNil, startD, isiB, List.map_cons, List.map_nil, List.cons_append, List.nil_append, List.length_cons, List.length_nil, List.set_cons_zero, List.set_cons_succ, List.getElem?_cons_zero, List.getElem?_cons_succ, List.replicate]
  refine ⟨rfl, _, rfl, rfl, _, rfl, rfl, _, rfl, rfl, _, rfl, rfl, _, rfl, rfl, _, rfl, by omega, hN _ ?_⟩
  clear hN N
  rw [k.e, k.x, k.b]
  have fs := flatSix h es xs bs
  have zs := szSix k
  have z2 : 2 ≤ sizeLine := by omega
  refine seq_i fun N hN => ?_
  refine ifs_i (fun b => b = false) (fun Q hQ => ?_) (fun c => by cases c) fun _ => hN _ ?_
  · dsimp only [DL.dAnd, DL.dAndV, DL.dAny, DL.dAppend, DL.dAsg, DL.dB, DL.dBreak, DL.dC, DL.dCall, DL.dChain, DL.dCons, DL.dConsA, DL.dCont, DL.dDrop, DL.dEnumL, DL.dEnumT, DL.dFld, DL.dFldO, DL.dFldSet, DL.dFmt, DL.dFn, DL.dFor, DL.dFresh, DL.dGet1, DL.dGet2, DL.dIfE, DL.dIfS, DL.dInK, DL.dIsi, DL.dIsiO, DL.dJoin, DL.dKeys, DL.dLenSc, DL.dLenSet, DL.dLenSk, DL.dLock, DL.dLockS, DL.dMth, DL.dNeg, DL.dNever, DL.dNext, DL.dNil, DL.dNilA, DL.dNone, DL.dNot, DL.dNotV, DL.dOp, DL.dOr, DL.dOrV, DL.dPar, DL.dPut, DL.dRet, DL.dRetN, DL.dRng1, DL.dRng2, DL.dSeq, DL.dSet, DL.dSetO, DL.dSl, DL.dSome, DL.dTruth, DL.dTup, DL.dVar, DL.dView, DL.dViewT, DL.dYes, DL.dZip, DL.fDc, DL.fDictP, DL.fDictPT, DL.fDisp, DL.fLc, DL.fListT, DL.fLock, DL.fLst, DL.fMake, DL.fMakeK, DL.fMakeL, DL.fNew, DL.gAdd, DL.gBools, DL.gCmp, DL.gConsD, DL.gDin, DL.gEq, DL.gEqO, DL.gGe, DL.gGet, DL.gGt, DL.gI, DL.gIb, DL.gIc, DL.gIn, DL.gInO, DL.gInt, DL.gIsN, DL.gIx, DL.gLe, DL.gLen, DL.gLenO, DL.gLt, DL.gNameD, DL.gNe, DL.gNilD, DL.gNotN, DL.gRepr, DL.gSl, DL.gSorted, DL.gStrI, DL.gStrO, DL.gStrS, DL.gSum, DL.gTupD, DL.gTuple, DL.jCons, DL.jNil, DL.pCons, DL.pNil, startD, isiB, List.map_cons, List.map_nil, List.cons_append, List.nil_append, List.length_cons, List.length_nil, List.set_cons_zero, List.set_cons_succ, List.getElem?_cons_zero, List.getElem?_cons_succ, List.replicate]
    refine repr2T fs zs z2 (by omega) ?_
    refine ifn (by decide) ⟨rfl, h, es, xs, bs, rfl, _, rfl, by omega, by omega, int_cmp _, int_cmp _, hQ _ ?_⟩
    have e : (((points es xs).map DL.D.str).length : Int) = 1 + es.length + xs.length := by
      rw [List.length_map, points, List.length_cons, List.length_append, List.length_map]
      omega
    rw [e, eq_int, decide_eq_true rfl]
    rfl
  · clear hN N
    refine seq_i fun N hN => ?_
    refine ifs_i (fun b => b = false) (fun Q hQ => ?_) (fun c => by cases c) fun _ => hN _ ?_
    · dsimp only [DL.dAnd, DL.dAndV, DL.dAny, DL.dAppend, DL.dAsg, DL.dB, DL.dBreak, DL.dC, DL.dCall, DL.dChain, DL.dCons, DL.dConsA, DL.dCont, DL.dDrop, DL.dEnumL, DL.dEnumT, DL.dFld, DL.dFldO, DL.dFldSet, DL.dFmt, DL.dFn, DL.dFor, DL.dFresh, DL.dGet1, DL.dGet2, DL.dIfE, DL.dIfS, DL.dInK, DL.dIsi, DL.dIsiO, DL.dJoin, DL.dKeys, DL.dLenSc, DL.dLenSet, DL.dLenSk, DL.dLock, DL.dLockS, DL.dMth, DL.dNeg, DL.dNever, DL.dNext, DL.dNil, DL.dNilA, DL.dNone, DL.dNot, DL.dNotV, DL.dOp, DL.dOr, DL.dOrV, DL.dPar, DL.dPut, DL.dRet, DL.dRetN, DL.dRng1, DL.dRng2, DL.dSeq, DL.dSet, DL.dSetO, DL.dSl, DL.dSome, DL.dTruth, DL.dTup, DL.dVar, DL.dView, DL.dViewT, DL.dYes, DL.dZip, DL.fDc, DL.fDictP, DL.fDictPT, DL.fDisp, DL.fLc, DL.fListT, DL.fLock, DL.fLst, DL.fMake, DL.fMakeK, DL.fMakeL, DL.fNew, DL.gAdd, DL.gBools, DL.gCmp, DL.gConsD, DL.gDin, DL.gEq, DL.gEqO, DL.gGe, DL.gGet, DL.gGt, DL.gI, DL.gIb, DL.gIc, DL.gIn, DL.gInO, DL.gInt, DL.gIsN, DL.gIx, DL.gLe, DL.gLen, DL.gLenO, DL.gLt, DL.gNameD, DL.gNe, DL.gNilD, DL.gNotN, DL.gRepr, DL.gSl, DL.gSorted, DL.gStrI, DL.gStrO, DL.gStrS, DL.gSum, DL.gTupD, DL.gTuple, DL.jCons, DL.jNil, DL.pCons, DL.pNil, startD, isiB, List.map_cons, List.map_nil, List.cons_append, List.nil_append, List.length_cons, List.length_nil, List.set_cons_zero, List.set_cons_succ, List.getElem?_cons_zero, List.getElem?_cons_succ, List.replicate]
      rw [List.map_map]
      refine lc_map (F := fun d => match d with | .str e => ((xs.find? fun x => x.e == e).map Stp.D).getD .non | _ => .non) _ _ (fun d m R r => ?_) ?_
      · obtain ⟨x, mx, rfl⟩ := List.mem_map.mp m
        have fx : (xs.find? fun y => y.e == x.e) = some x := by
          cases fe : xs.find? fun y => y.e == x.e with
          | none =>
            have := List.find?_eq_none.mp fe x mx
            rw [beq_self_eq_true] at this
            exact absurd rfl this
          | some y =>
            have h1 := List.find?_some fe
            rw [inj_of k.ok.xd y (List.mem_of_find?_eq_some fe) x mx (beq_iff_eq.mp h1)]
        have r' : R (((xs.find? fun y => y.e == x.e).map Stp.D).getD .non) := r
        rw [fx] at r'
        exact ⟨rfl, rfl, h, es, xs, bs, x, rfl, k.ok, mx, r'⟩
      · have hm : (xs.map (DL.D.str ∘ Stp.e)).map (fun d => match d with | .str e => ((xs.find? fun x => x.e == e).map Stp.D).getD .non | _ => .non) = xs.map Stp.D := by
          rw [List.map_map]
          refine List.map_congr_left fun x mx => ?_
          show ((xs.find? fun y => y.e == x.e).map Stp.D).getD .non = x.D
          cases fe : xs.find? fun y => y.e == x.e with
          | none =>
            have := List.find?_eq_none.mp fe x mx
            rw [beq_self_eq_true] at this
            exact absurd rfl this
          | some y =>
            have h1 := List.find?_some fe
            rw [inj_of k.ok.xd y (List.mem_of_find?_eq_some fe) x mx (beq_iff_eq.mp h1)]
            rfl
        rw [hm, List.nil_append, at4_2]
        have zl : ∀ n, Sz 60 sizeLine (D.py (.lst n (xs.map Stp.D))) := fun n => (szL (k := 1) (n := 423) (m := 5) (fun d m => by obtain ⟨x, mx, rfl⟩ := List.mem_map.mp m; exact szStep k.ok x mx) (by rw [List.length_map]; exact xl)).mono (by decide) (by omega)
        dsimp only [Ent.datum]
        exact repr2L (flat_steps xs) zl (hQ _ rfl)
    clear hN N
    refine seq_i fun N hN => ?_
    dsimp only [DL.dAnd, DL.dAndV, DL.dAny, DL.dAppend, DL.dAsg, DL.dB, DL.dBreak, DL.dC, DL.dCall, DL.dChain, DL.dCons, DL.dConsA, DL.dCont, DL.dDrop, DL.dEnumL, DL.dEnumT, DL.dFld, DL.dFldO, DL.dFldSet, DL.dFmt, DL.dFn, DL.dFor, DL.dFresh, DL.dGet1, DL.dGet2, DL.dIfE, DL.dIfS, DL.dInK, DL.dIsi, DL.dIsiO, DL.dJoin, DL.dKeys, DL.dLenSc, DL.dLenSet, DL.dLenSk, DL.dLock, DL.dLockS, DL.dMth, DL.dNeg, DL.dNever, DL.dNext, DL.dNil, DL.dNilA, DL.dNone, DL.dNot, DL.dNotV, DL.dOp, DL.dOr, DL.dOrV, DL.dPar, DL.dPut, DL.dRet, DL.dRetN, DL.dRng1, DL.dRng2, DL.dSeq, DL.dSet, DL.dSetO, DL.dSl, DL.dSome, DL.dTruth, DL.dTup, DL.dVar, DL.dView, DL.dViewT, DL.dYes, DL.dZip, DL.fDc, DL.fDictP, DL.fDictPT, DL.fDisp, DL.fLc, DL.fListT, DL.fLock, DL.fLst, DL.fMake, DL.fMakeK, DL.fMakeL, DL.fNew, DL.gAdd, DL.gBools, DL.gCmp, DL.gConsD, DL.gDin, DL.gEq, DL.gEqO, DL.gGe, DL.gGet, DL.gGt, DL.gI, DL.gIb, DL.gIc, DL.gIn, DL.gInO, DL.gInt, DL.gIsN, DL.gIx, DL.gLe, DL.gLen, DL.gLenO, DL.gLt, DL.gNameD, DL.gNe, DL.gNilD, DL.gNotN, DL.gRepr, DL.gSl, DL.gSorted, DL.gStrI, DL.gStrO, DL.gStrS, DL.gSum, DL.gTupD, DL.gTuple, DL.jCons, DL.jNil, DL.pCons, DL.pNil, startD, isiB, List.map_cons, List.map_nil, List.cons_append, List.nil_append, List.length_cons, List.length_nil, List.set_cons_zero, List.set_cons_succ, List.getElem?_cons_zero, List.getElem?_cons_succ, List.replicate]
    rw [at4_3]
    dsimp only
    refine lc_map (F := fun d => match d with | .tup [a, b, m] => .tup [.tup [a, b], m] | _ => .non) _ _ (fun d m R r => ?_) ⟨bs.map fun b => (b.k, .int b.m), ?_, fun p m => ?_, hN _ ?_⟩
    · obtain ⟨x, mx, rfl⟩ := List.mem_map.mp m
      exact ⟨rfl, by show 2 ≤ sizeLine; omega, by show 2 ≤ sizeLine; omega, r⟩
    · rw [List.nil_append, List.map_map, List.map_map]
      exact List.map_congr_left fun x _ => rfl
    · obtain ⟨x, mx, rfl⟩ := List.mem_map.mp m
      nofun
    clear hN N
    rw [merge_kvB k.ok.bd]
    refine seq_i fun N hN => ?_
    dsimp only [DL.dAnd, DL.dAndV, DL.dAny, DL.dAppend, DL.dAsg, DL.dB, DL.dBreak, DL.dC, DL.dCall, DL.dChain, DL.dCons, DL.dConsA, DL.dCont, DL.dDrop, DL.dEnumL, DL.dEnumT, DL.dFld, DL.dFldO, DL.dFldSet, DL.dFmt, DL.dFn, DL.dFor, DL.dFresh, DL.dGet1, DL.dGet2, DL.dIfE, DL.dIfS, DL.dInK, DL.dIsi, DL.dIsiO, DL.dJoin, DL.dKeys, DL.dLenSc, DL.dLenSet, DL.dLenSk, DL.dLock, DL.dLockS, DL.dMth, DL.dNeg, DL.dNever, DL.dNext, DL.dNil, DL.dNilA, DL.dNone, DL.dNot, DL.dNotV, DL.dOp, DL.dOr, DL.dOrV, DL.dPar, DL.dPut, DL.dRet, DL.dRetN, DL.dRng1, DL.dRng2, DL.dSeq, DL.dSet, DL.dSetO, DL.dSl, DL.dSome, DL.dTruth, DL.dTup, DL.dVar, DL.dView, DL.dViewT, DL.dYes, DL.dZip, DL.fDc, DL.fDictP, DL.fDictPT, DL.fDisp, DL.fLc, DL.fListT, DL.fLock, DL.fLst, DL.fMake, DL.fMakeK, DL.fMakeL, DL.fNew, DL.gAdd, DL.gBools, DL.gCmp, DL.gConsD, DL.gDin, DL.gEq, DL.gEqO, DL.gGe, DL.gGet, DL.gGt, DL.gI, DL.gIb, DL.gIc, DL.gIn, DL.gInO, DL.gInt, DL.gIsN, DL.gIx, DL.gLe, DL.gLen, DL.gLenO, DL.gLt, DL.gNameD, DL.gNe, DL.gNilD, DL.gNotN, DL.gRepr, DL.gSl, DL.gSorted, DL.gStrI, DL.gStrO, DL.gStrS, DL.gSum, DL.gTupD, DL.gTuple, DL.jCons, DL.jNil, DL.pCons, DL.pNil, startD, isiB, List.map_cons, List.map_nil, List.cons_append, List.nil_append, List.length_cons, List.length_nil, List.set_cons_zero, List.set_cons_succ, List.getElem?_cons_zero, List.getElem?_cons_succ, List.replicate]
    refine for_inv (fun ρ => ∃ r6 r7 r8 r9 r10 r11 r12 : Ent, ρ = [.dat (.tup [.int h, .tup (es.map DL.D.str), .tup (xs.map Stp.D), .tup (bs.map Bnd.D)]), .dat (planD CP h es xs bs), .dat (.tup ((xs.map Stp.e).map DL.D.str)), .dat (.tup ((points es xs).map DL.D.str)), .dat (.tup [.int h, .tup (es.map DL.D.str), .tup (xs.map Stp.D), .tup (bs.map Bnd.D), .tup ((xs.map Stp.e).map DL.D.str), .tup ((points es xs).map DL.D.str)]), .dat (.dct true (bs.map kvB)), r6, r7, r8, r9, r10, r11, r12]) _ ?s1 ⟨_, _, _, _, _, _, _, rfl⟩ ?s2
    case s1 =>
      rintro d md ρ ⟨r6, r7, r8, r9, r10, r11, r12, rfl⟩ N1 hN1
      obtain ⟨a, ma, rfl⟩ := List.mem_map.mp md
      refine seq_i fun N2 hN2 => ?_
      dsimp only [DL.dAnd, DL.dAndV, DL.dAny, DL.dAppend, DL.dAsg, DL.dB, DL.dBreak, DL.dC, DL.dCall, DL.dChain, DL.dCons, DL.dConsA, DL.dCont, DL.dDrop, DL.dEnumL, DL.dEnumT, DL.dFld, DL.dFldO, DL.dFldSet, DL.dFmt, DL.dFn, DL.dFor, DL.dFresh, DL.dGet1, DL.dGet2, DL.dIfE, DL.dIfS, DL.dInK, DL.dIsi, DL.dIsiO, DL.dJoin, DL.dKeys, DL.dLenSc, DL.dLenSet, DL.dLenSk, DL.dLock, DL.dLockS, DL.dMth, DL.dNeg, DL.dNever, DL.dNext, DL.dNil, DL.dNilA, DL.dNone, DL.dNot, DL.dNotV, DL.dOp, DL.dOr, DL.dOrV, DL.dPar, DL.dPut, DL.dRet, DL.dRetN, DL.dRng1, DL.dRng2, DL.dSeq, DL.dSet, DL.dSetO, DL.dSl, DL.dSome, DL.dTruth, DL.dTup, DL.dVar, DL.dView, DL.dViewT, DL.dYes, DL.dZip, DL.fDc, DL.fDictP, DL.fDictPT, DL.fDisp, DL.fLc, DL.fListT, DL.fLock, DL.fLst, DL.fMake, DL.fMakeK, DL.fMakeL, DL.fNew, DL.gAdd, DL.gBools, DL.gCmp, DL.gConsD, DL.gDin, DL.gEq, DL.gEqO, DL.gGe, DL.gGet, DL.gGt, DL.gI, DL.gIb, DL.gIc, DL.gIn, DL.gInO, DL.gInt, DL.gIsN, DL.gIx, DL.gLe, DL.gLen, DL.gLenO, DL.gLt, DL.gNameD, DL.gNe, DL.gNilD, DL.gNotN, DL.gRepr, DL.gSl, DL.gSorted, DL.gStrI, DL.gStrO, DL.gStrS, DL.gSum, DL.gTupD, DL.gTuple, DL.jCons, DL.jNil, DL.pCons, DL.pNil, startD, isiB, List.map_cons, List.map_nil, List.cons_append, List.nil_append, List.length_cons, List.length_nil, List.set_cons_zero, List.set_cons_succ, List.getElem?_cons_zero, List.getElem?_cons_succ, List.replicate]
      have hl : ((points es xs).map DL.D.str).map (fun d => match d with | .str p => held bs a p | _ => .non) = (points es xs).map fun p => held bs a p := by
        rw [List.map_map]
        exact List.map_congr_left fun x _ => rfl
      refine lc_map (F := fun d => match d with | .str p => held bs a p | _ => .non) _ _ (fun d m R r => ?_) (hN2 _ ?_)
      · obtain ⟨p, mp, rfl⟩ := List.mem_map.mp m
        refine ⟨z2, rfl, ?_⟩
        have r' : R (held bs a p) := r
        rw [← held_kvB k.b] at r'
        exact r'
      rw [hl, List.nil_append]
      clear hN2 N2
      refine ifs_i (fun b => b = false) (fun Q hQ => ?_) (fun c => by cases c) fun _ => hN1 _ ⟨_, _, _, _, _, _, _, rfl⟩
      dsimp only [DL.dAnd, DL.dAndV, DL.dAny, DL.dAppend, DL.dAsg, DL.dB, DL.dBreak, DL.dC, DL.dCall, DL.dChain, DL.dCons, DL.dConsA, DL.dCont, DL.dDrop, DL.dEnumL, DL.dEnumT, DL.dFld, DL.dFldO, DL.dFldSet, DL.dFmt, DL.dFn, DL.dFor, DL.dFresh, DL.dGet1, DL.dGet2, DL.dIfE, DL.dIfS, DL.dInK, DL.dIsi, DL.dIsiO, DL.dJoin, DL.dKeys, DL.dLenSc, DL.dLenSet, DL.dLenSk, DL.dLock, DL.dLockS, DL.dMth, DL.dNeg, DL.dNever, DL.dNext, DL.dNil, DL.dNilA, DL.dNone, DL.dNot, DL.dNotV, DL.dOp, DL.dOr, DL.dOrV, DL.dPar, DL.dPut, DL.dRet, DL.dRetN, DL.dRng1, DL.dRng2, DL.dSeq, DL.dSet, DL.dSetO, DL.dSl, DL.dSome, DL.dTruth, DL.dTup, DL.dVar, DL.dView, DL.dViewT, DL.dYes, DL.dZip, DL.fDc, DL.fDictP, DL.fDictPT, DL.fDisp, DL.fLc, DL.fListT, DL.fLock, DL.fLst, DL.fMake, DL.fMakeK, DL.fMakeL, DL.fNew, DL.gAdd, DL.gBools, DL.gCmp, DL.gConsD, DL.gDin, DL.gEq, DL.gEqO, DL.gGe, DL.gGet, DL.gGt, DL.gI, DL.gIb, DL.gIc, DL.gIn, DL.gInO, DL.gInt, DL.gIsN, DL.gIx, DL.gLe, DL.gLen, DL.gLenO, DL.gLt, DL.gNameD, DL.gNe, DL.gNilD, DL.gNotN, DL.gRepr, DL.gSl, DL.gSorted, DL.gStrI, DL.gStrO, DL.gStrS, DL.gSum, DL.gTupD, DL.gTuple, DL.jCons, DL.jNil, DL.pCons, DL.pNil, startD, isiB, List.map_cons, List.map_nil, List.cons_append, List.nil_append, List.length_cons, List.length_nil, List.set_cons_zero, List.set_cons_succ, List.getElem?_cons_zero, List.getElem?_cons_succ, List.replicate]
      refine lc_map (F := fun d => match d with | .str p => held bs a p | _ => .non) _ _ (fun d m R r => ?_) ?_
      · obtain ⟨p, mp, rfl⟩ := List.mem_map.mp m
        exact ⟨rfl, rfl, h, es, xs, bs, a, p, rfl, k.ok.pts, ma, mp, r⟩
      rw [hl, List.nil_append]
      dsimp only [Ent.datum]
      exact repr2L (flat_held k.b a _) (szHeld k a) (hQ _ rfl)
    case s2 =>
      rintro ρ ⟨r6, r7, r8, r9, r10, r11, r12, rfl⟩
      refine hN _ ?_
      clear hN N
      refine seq_i fun N hN => ?_
      dsimp only [DL.dAnd, DL.dAndV, DL.dAny, DL.dAppend, DL.dAsg, DL.dB, DL.dBreak, DL.dC, DL.dCall, DL.dChain, DL.dCons, DL.dConsA, DL.dCont, DL.dDrop, DL.dEnumL, DL.dEnumT, DL.dFld, DL.dFldO, DL.dFldSet, DL.dFmt, DL.dFn, DL.dFor, DL.dFresh, DL.dGet1, DL.dGet2, DL.dIfE, DL.dIfS, DL.dInK, DL.dIsi, DL.dIsiO, DL.dJoin, DL.dKeys, DL.dLenSc, DL.dLenSet, DL.dLenSk, DL.dLock, DL.dLockS, DL.dMth, DL.dNeg, DL.dNever, DL.dNext, DL.dNil, DL.dNilA, DL.dNone, DL.dNot, DL.dNotV, DL.dOp, DL.dOr, DL.dOrV, DL.dPar, DL.dPut, DL.dRet, DL.dRetN, DL.dRng1, DL.dRng2, DL.dSeq, DL.dSet, DL.dSetO, DL.dSl, DL.dSome, DL.dTruth, DL.dTup, DL.dVar, DL.dView, DL.dViewT, DL.dYes, DL.dZip, DL.fDc, DL.fDictP, DL.fDictPT, DL.fDisp, DL.fLc, DL.fListT, DL.fLock, DL.fLst, DL.fMake, DL.fMakeK, DL.fMakeL, DL.fNew, DL.gAdd, DL.gBools, DL.gCmp, DL.gConsD, DL.gDin, DL.gEq, DL.gEqO, DL.gGe, DL.gGet, DL.gGt, DL.gI, DL.gIb, DL.gIc, DL.gIn, DL.gInO, DL.gInt, DL.gIsN, DL.gIx, DL.gLe, DL.gLen, DL.gLenO, DL.gLt, DL.gNameD, DL.gNe, DL.gNilD, DL.gNotN, DL.gRepr, DL.gSl, DL.gSorted, DL.gStrI, DL.gStrO, DL.gStrS, DL.gSum, DL.gTupD, DL.gTuple, DL.jCons, DL.jNil, DL.pCons, DL.pNil, startD, isiB, List.map_cons, List.map_nil, List.cons_append, List.nil_append, List.length_cons, List.length_nil, List.set_cons_zero, List.set_cons_succ, List.getElem?_cons_zero, List.getElem?_cons_succ, List.replicate]
      rw [at4_1]
      dsimp only
      rw [List.length_map, List.length_map, List.length_map]
      have big : (100 : Nat) ≤ sizeLine := by omega
      have l1 : es.length < 100 := by omega
      have l2 : xs.length < 100 := by omega
      have l3 : bs.length < 100 := by omega
      have t0 : (Str.ofString "plan of ").length ≤ 10 := by decide +kernel
      have t1 := app_le t0 (num_len _ l1)
      have t2 := app_le t1 (show (Str.ofString " events, ").length ≤ 10 by decide +kernel)
      have t3 := app_le t2 (num_len _ l2)
      have t4 := app_le t3 (show (Str.ofString " steps, ").length ≤ 10 by decide +kernel)
      have t5 := app_le t4 (num_len _ l3)
      have t6 := app_le t5 (show (Str.ofString " bounds").length ≤ 10 by decide +kernel)
      simp only [Str.length_append] at t1 t2 t3 t4 t5 t6
      refine ⟨num_log _ l1, by omega, by simp only [Str.length_append]; omega, num_log _ l2, by simp only [Str.length_append]; omega, by simp only [Str.length_append]; omega, hN _ ?_⟩
      clear hN N
      (dsimp only [DL.dRet, List.map, DL.Ent.view]; dsimp only [DL.dAnd, DL.dAndV, DL.dAny, DL.dAppend, DL.dAsg, DL.dB, DL.dBreak, DL.dC, DL.dCall, DL.dChain, DL.dCons, DL.dConsA, DL.dCont, DL.dDrop, DL.dEnumL, DL.dEnumT, DL.dFld, DL.dFldO, DL.dFldSet, DL.dFmt, DL.dFn, DL.dFor, DL.dFresh, DL.dGet1, DL.dGet2, DL.dIfE, DL.dIfS, DL.dInK, DL.dIsi, DL.dIsiO, DL.dJoin, DL.dKeys, DL.dLenSc, DL.dLenSet, DL.dLenSk, DL.dLock, DL.dLockS, DL.dMth, DL.dNeg, DL.dNever, DL.dNext, DL.dNil, DL.dNilA, DL.dNone, DL.dNot, DL.dNotV, DL.dOp, DL.dOr, DL.dOrV, DL.dPar, DL.dPut, DL.dRet, DL.dRetN, DL.dRng1, DL.dRng2, DL.dSeq, DL.dSet, DL.dSetO, DL.dSl, DL.dSome, DL.dTruth, DL.dTup, DL.dVar, DL.dView, DL.dViewT, DL.dYes, DL.dZip, DL.fDc, DL.fDictP, DL.fDictPT, DL.fDisp, DL.fLc, DL.fListT, DL.fLock, DL.fLst, DL.fMake, DL.fMakeK, DL.fMakeL, DL.fNew, DL.gAdd, DL.gBools, DL.gCmp, DL.gConsD, DL.gDin, DL.gEq, DL.gEqO, DL.gGe, DL.gGet, DL.gGt, DL.gI, DL.gIb, DL.gIc, DL.gIn, DL.gInO, DL.gInt, DL.gIsN, DL.gIx, DL.gLe, DL.gLen, DL.gLenO, DL.gLt, DL.gNameD, DL.gNe, DL.gNilD, DL.gNotN, DL.gRepr, DL.gSl, DL.gSorted, DL.gStrI, DL.gStrO, DL.gStrS, DL.gSum, DL.gTupD, DL.gTuple, DL.jCons, DL.jNil, DL.pCons, DL.pNil, startD, isiB, List.map_cons, List.map_nil, List.cons_append, List.nil_append, List.length_cons, List.length_nil, List.set_cons_zero, List.set_cons_succ, List.getElem?_cons_zero, List.getElem?_cons_succ, List.replicate])
      rw [at4_3]
      dsimp only
      rw [List.length_map]
      have te : told es.length xs.length bs.length = Str.ofString "plan of " ++ Str.ofString (toString (es.length : Int)) ++ Str.ofString " events, " ++ Str.ofString (toString (xs.length : Int)) ++ Str.ofString " steps, " ++ Str.ofString (toString (bs.length : Int)) ++ Str.ofString " bounds" := by
        unfold told
        rw [empty_app]
      refine ⟨rfl, h, es, xs, bs, rfl, l1, l2, l3, _, rfl, num_log _ l3, by simp only [Str.length_append]; omega, by simp only [Str.length_append]; omega, ?_⟩
      rw [te]
      exact eqS_same q
end
end K05

set_option Elab.async false
set_option linter.all false
set_option maxRecDepth 100000
set_option maxHeartbeats 2000000
namespace K05
open PySem PySem.Spec PyProof.Rows L2 LW RZ DL
theorem lc_none {g : DTG} {tt : DTT} {te : DTE} {ρ : Env'} : ∀ (ds acc : List DL.D) {Q : List DL.D → Prop}, (∀ d ∈ ds, ∀ R : Env' → Bool → Prop, (∀ ρ1, R ρ1 false) → g d ρ fun ρ1 => tt ρ1 (R ρ1)) → Q acc → lcD g tt te ρ acc ds Q
  | [], acc, Q, _, q => q
  | d :: ds, acc, Q, h, q => h d List.mem_cons_self (fun ρ1 b => if b = true then te ρ1 fun y => lcD g tt te ρ (acc ++ [y]) ds Q else lcD g tt te ρ acc ds Q) fun ρ1 => by
    rw [if_neg Bool.false_ne_true]
    exact lc_none ds acc (fun e m => h e (List.mem_cons_of_mem _ m)) q
theorem strOk_of {x : Str} (h : ∀ c ∈ x.cps.toList, c < 0x110000) : PyData.strOk x = true := by
  unfold PyData.strOk
  rw [← Array.all_toList]
  exact List.all_eq_true.mpr fun c m => decide_eq_true (h c m)
theorem of_strOk {x : Str} (h : PyData.strOk x = true) : ∀ c ∈ x.cps.toList, c < 0x110000 := by
  unfold PyData.strOk at h
  rw [← Array.all_toList] at h
  exact fun c m => of_decide_eq_true (List.all_eq_true.mp h c m)
theorem strOk_app {x y : Str} (h1 : PyData.strOk x = true) (h2 : PyData.strOk y = true) : PyData.strOk (x ++ y) = true := strOk_of fun c m => by
  have e : (x ++ y).cps.toList = x.cps.toList ++ y.cps.toList := Array.toList_append
  rw [e] at m
  exact (List.mem_append.mp m).elim (of_strOk h1 c) (of_strOk h2 c)
theorem strOk_cut {x : Str} (lo hi : Option Int) (h : PyData.strOk x = true) : PyData.strOk (L2.cutS x lo hi) = true := strOk_of fun c m => by
  unfold L2.cutS at m
  exact of_strOk h c ((List.drop_sublist _ _).subset ((List.take_sublist _ _).subset (by simpa using m)))
theorem plain_cmp {h : Int} {es : List Str} {xs : List Stp} {bs : List Bnd} (k : okPlain h es xs bs) : D.cmp (.tup [.int h, .tup (es.map DL.D.str), .tup (xs.map Stp.D), .tup (bs.map Bnd.D)]) = true := by
  have a := strs_lay es fun e m => name_ok (k.ok.n e m)
  have b := steps_lay xs fun x m => ⟨name_ok (k.ok.x x m).e1, k.ok.begins x m⟩
  have c := bounds_lay bs fun x m => ⟨k.ok.pts _ (k.ok.b x m).a1, k.ok.pts _ (k.ok.b x m).b1⟩
  have f1 := flat_strs es
  have f2 := flat_steps xs
  have f3 := flat_bounds bs
  unfold D.cmp SeqAt.shaped
  simp [D.py, D.pyL, D.flat, D.flatL, f1, f2, f3, PyData.canLay0, PyData.canLayAll0, PyData.depth, PyData.depthAll, a.1, b.1, c.1, a.2]
  omega
section
variable {P : Program} {w : World} {K : PySem.W.Frag} {mg : Str → Option Value} {base : Heap} {tk : Tok} {CP : Addr}
abbrev gHolds (CP : Addr) : SpD := fun ds Q _ => ∃ h es xs bs, ds = [.stm, plainD h es xs bs, planD CP h es xs bs] ∧ okPlain h es xs bs ∧ Q (.bl true)
theorem sc__law_holds_right : FnScope ["stream", "plain", "plan", "points", "some", "value"] ["stream", "plain", "plan"] (defScope (top 44)) := ⟨rfl, rfl, rfl, by decide +kernel, rfl, by decide +kernel, by decide +kernel⟩
theorem ok_law_holds (T : Bl mg) (ns_C : PySem.W.subIn K (.ref CP) (.type "str") = some false) (C__law_points : Cal P w K mg base "_law_points" 1 ["plain"] gPts) (C__law_pick : Cal P w K mg base "_law_pick" 2 ["stream", "items"] gPick) (S_in : Spc P w K mg base CP "__contains__" 5 ["self", "value"] (gCont CP)) (S_eq : Spc P w K mg base CP "__eq__" 3 ["self", "other"] (gEqP CP)) (F : Dfn K mg "_law_holds_right" "_law_holds_right" (top 44) ["stream", "plain", "plan"]) :
    Cal P w K mg base "_law_holds_right" 7 ["stream", "plain", "plan"] (gHolds CP) := by
  refine okC F sc__law_holds_right (by decide) (by rintro ds Q De ⟨h, es, xs, bs, rfl, _⟩; rfl) fun f cdv A outer s H E De hgd hr => ⟨_, (dss_cons (ds_set (i := 3) sc__law_holds_right.nd rfl (.inr rfl) (de_cal C__law_points hgd hr (by decide) (by rfl) (passes_call (takes_of rfl rfl rfl rfl) fun _ _ _ _ h => h) (da_cons (dv 1) da_nil)))
      (dss_cons (ds_set (i := 4) sc__law_holds_right.nd rfl (.inl rfl) (de_op (op_addA) l_add (de_fresh (df_listT (by rfl) T.«list» (dv 3))) (de_fresh (df_lst (da_cons de_str (da_cons de_str (da_cons de_str (da_cons de_int (da_cons de_int (da_cons de_bl (da_cons de_non (da_cons (de_tup da_nil) (da_cons (de_fresh (df_lst da_nil)) (da_cons (de_fresh df_newK) (da_cons (dv 3) (da_cons (de_fresh (df_lst (da_cons (de_ix (dv 3) de_int (fun _ _ => rfl)) da_nil))) (da_cons (dv 1) (da_cons (de_ix (dv 1) de_int (fun _ _ => rfl)) da_nil))))))))))))))))))
      (dss_cons (ds_set (i := 4) sc__law_holds_right.nd rfl (.inl rfl) (de_op (op_addA) l_add (dv 4) (de_fresh (df_lst (da_cons (de_op (op_addA) l_add (de_cal C__law_pick hgd hr (by decide) (by rfl) (passes_call (takes_of rfl rfl rfl rfl) fun _ _ _ _ h => h) (da_cons (dv 0) (da_cons (dv 3) da_nil))) de_str) (da_cons (de_sl (de_cal C__law_pick hgd hr (by decide) (by rfl) (passes_call (takes_of rfl rfl rfl rfl) fun _ _ _ _ h => h) (da_cons (dv 0) (da_cons (dv 3) da_nil))) do_none (do_some (de_neg de_int))) (da_cons de_str (da_cons de_str (da_cons (dv 2) da_nil)))))))))
      (dss_one (ds_ret (de_cmp (op_eqA hr.units) l_eq (de_fresh (df_lc (own := [("value", 5)]) (by rfl) sc__law_holds_right.nd (di_any (dv 4)) (blkOk_by (own := [("value", 5)]) (N := ["stream", "plain", "plan", "points", "some", "value"]) (sc := defScope (top 44)) (by decide +kernel)) (fun _ _ _ _ _ => (dg_name (i := 5) sc__law_holds_right.nd rfl (.inl rfl))) (fun _ _ _ _ _ => (dts_one (dt_cmp (op_neA hr.units) l_ne (de_inO S_in hgd hr (by decide) (dv 5) (dv 2)) (de_inA ns_C S_eq hgd hr (by decide) (dv 5) (de_fresh (df_listT (by rfl) T.«list» (dv 3)))) (nomark _)))) (fun _ _ _ _ _ => (dv 5)) (by decide))) (de_fresh (df_lst da_nil)) (nomark _))))))), ?_⟩
  rintro ds Dq ⟨h, es, xs, bs, rfl, k, q⟩
  rw [show startD ["stream", "plain", "plan", "points", "some", "value"] [.stm, plainD h es xs bs, planD CP h es xs bs] = [.dat .stm, .dat (.tup [.int h, .tup (es.map DL.D.str), .tup (xs.map Stp.D), .tup (bs.map Bnd.D)]), .dat (planD CP h es xs bs), .un, .un, .un] from rfl]
  have sL : (16777216 : Nat) = sizeLine := sizeLine_eq.symm
  have el := k.ok.el
  have xl := k.ok.xl
  have bl := k.ok.bl
  refine seq_i fun N hN => ?_
  dsimp only [DL.dAnd, DL.dAndV, DL.dAny, DL.dAppend, DL.dAsg, DL.dB, DL.dBreak, DL.dC, DL.dCall, DL.dChain, DL.dCons, DL.dConsA, DL.dCont, DL.dDrop, DL.dEnumL, DL.dEnumT, DL.dFld, DL.dFldO, DL.dFldSet, DL.dFmt, DL.dFn, DL.dFor, DL.dFresh, DL.dGet1, DL.dGet2, DL.dIfE, DL.dIfS, DL.dInK, DL.dIsi, DL.dIsiO, DL.dJoin, DL.dKeys, DL.dLenSc, DL.dLenSet, DL.dLenSk, DL.dLock, DL.dLockS, DL.dMth, DL.dNeg, DL.dNever, DL.dNext, DL.dNil, DL.dNilA, DL.dNone, DL.dNot, DL.dNotV, DL.dOp, DL.dOr, DL.dOrV, DL.dPar, DL.dPut, DL.dRet, DL.dRetN, DL.dRng1, DL.dRng2, DL.dSeq, DL.dSet, DL.dSetO, DL.dSl, DL.dSome, DL.dTruth, DL.dTup, DL.dVar, DL.dView, DL.dViewT, DL.dYes, DL.dZip, DL.fDc, DL.fDictP, DL.fDictPT, DL.fDisp, DL.fLc, DL.fListT, DL.fLock, DL.fLst, DL.fMake, DL.fMakeK, DL.fMakeL, DL.fNew, DL.gAdd, DL.gBools, DL.gCmp, DL.gConsD, DL.gDin, DL.gEq, DL.gEqO, DL.gGe, DL.gGet, DL.gGt, DL.gI, DL.gIb, DL.gIc, DL.gIn, DL.gInO, DL.gInt, DL.gIsN, DL.gIx, DL.gLe, DL.gLen, DL.gLenO, DL.gLt, DL.gNameD, DL.gNe, DL.gNilD, DL.gNotN, DL.gRepr, DL.gSl, DL.gSorted, DL.gStrI, DL.gStrO, DL.gStrS, DL.gSum, DL.gTupD, DL.gTuple, DL.jCons, DL.jNil, DL.pCons, DL.pNil, startD, isiB, List.map_cons, List.map_nil, List.cons_append, List.nil_append, List.length_cons, List.length_nil, List.set_cons_zero, List.set_cons_succ, List.getElem?_cons_zero, List.getElem?_cons_succ, List.replicate]
  refine ⟨h, es, xs, bs, rfl, by omega, hN _ ?_⟩
  clear hN N
  refine seq_i fun N hN => ?_
  dsimp only [DL.dAnd, DL.dAndV, DL.dAny, DL.dAppend, DL.dAsg, DL.dB, DL.dBreak, DL.dC, DL.dCall, DL.dChain, DL.dCons, DL.dConsA, DL.dCont, DL.dDrop, DL.dEnumL, DL.dEnumT, DL.dFld, DL.dFldO, DL.dFldSet, DL.dFmt, DL.dFn, DL.dFor, DL.dFresh, DL.dGet1, DL.dGet2, DL.dIfE, DL.dIfS, DL.dInK, DL.dIsi, DL.dIsiO, DL.dJoin, DL.dKeys, DL.dLenSc, DL.dLenSet, DL.dLenSk, DL.dLock, DL.dLockS, DL.dMth, DL.dNeg, DL.dNever, DL.dNext, DL.dNil, DL.dNilA, DL.dNone, DL.dNot, DL.dNotV, DL.dOp, DL.dOr, DL.dOrV, DL.dPar, DL.dPut, DL.dRet, DL.dRetN, DL.dRng1, DL.dRng2, DL.dSeq, DL.dSet, DL.dSetO, DL.dSl, DL.dSome, DL.dTruth, DL.dTup, DL.dVar, DL.dView, DL.dViewT, DL.dYes, DL.dZip, DL.fDc, DL.fDictP, DL.fDictPT, DL.fDisp, DL.fLc, DL.fListT, DL.fLock, DL.fLst, DL.fMake, DL.fMakeK, DL.fMakeL, DL.fNew, DL.gAdd, DL.gBools, DL.gCmp, DL.gConsD, DL.gDin, DL.gEq, DL.gEqO, DL.gGe, DL.gGet, DL.gGt, DL.gI, DL.gIb, DL.gIc, DL.gIn, DL.gInO, DL.gInt, DL.gIsN, DL.gIx, DL.gLe, DL.gLen, DL.gLenO, DL.gLt, DL.gNameD, DL.gNe, DL.gNilD, DL.gNotN, DL.gRepr, DL.gSl, DL.gSorted, DL.gStrI, DL.gStrO, DL.gStrS, DL.gSum, DL.gTupD, DL.gTuple, DL.jCons, DL.jNil, DL.pCons, DL.pNil, startD, isiB, List.map_cons, List.map_nil, List.cons_append, List.nil_append, List.length_cons, List.length_nil, List.set_cons_zero, List.set_cons_succ, List.getElem?_cons_zero, List.getElem?_cons_succ, List.replicate]
  have hp : ∀ p ∈ points es xs, findable CP (.str p) := fun p m => .inl (str_cmp (k.ok.pts p m))
  have ev : findable CP (.tup (es.map DL.D.str)) := .inl (strs_cmp fun e m => name_ok (k.ok.n e m))
  rw [at4_1, show L2.atI ((points es xs).map DL.D.str) 0 = some (.str start) from atN ((points es xs).map DL.D.str) 0 (by rw [List.length_map, points]; exact Nat.succ_pos _)]
  dsimp only [Ent.datum]
  have lp : (points es xs).length ≤ 20 := by rw [points, List.length_cons, List.length_append, List.length_map]; omega
  have sc : PyData.strOk start = true := by decide +kernel
  generalize hl : (points es xs).map DL.D.str ++ [DL.D.str (Str.ofString ""), .str (Str.ofString "Start"), .str (Str.ofString "start "), .int 0, .int 1, .bl true, .non, .tup [], .lst true [], .dct false [], .tup ((points es xs).map DL.D.str), .lst true [.str start], .tup [.int h, .tup (es.map DL.D.str), .tup (xs.map Stp.D), .tup (bs.map Bnd.D)], .tup (es.map DL.D.str)] = L
  have ll : L.length ≤ 40 := by rw [← hl, List.length_append, List.length_map]; simp only [List.length_cons, List.length_nil]; omega
  have hL : ∀ d ∈ L, findable CP d := fun d m => by
    rw [← hl] at m
    rcases List.mem_append.mp m with m | m
    · obtain ⟨p, mp, rfl⟩ := List.mem_map.mp m
      exact hp p mp
    · simp only [List.mem_cons, List.mem_nil_iff, or_false] at m
      rcases m with rfl | rfl | rfl | rfl | rfl | rfl | rfl | rfl | rfl | rfl | rfl | rfl | rfl | rfl
      · exact .inl (str_cmp (by decide +kernel))
      · exact .inl (str_cmp (by decide +kernel))
      · exact .inl (str_cmp (by decide +kernel))
      · exact .inl (int_cmp _)
      · exact .inl (int_cmp _)
      · exact .inl (by decide)
      · exact .inl (by decide)
      · exact .inl (by decide)
      · exact .inl (by decide)
      · exact .inr (.inl ⟨_, _, rfl⟩)
      · exact .inl (strs_cmp k.ok.pts)
      · exact .inl (by decide +kernel)
      · exact .inl (plain_cmp k)
      · exact ev
  refine ⟨by omega, by omega, by omega, by omega, ?_, hN _ ?_⟩
  · rw [List.length_map]
    simp only [List.length_cons, List.length_nil]
    omega
  clear hN N hl
  refine seq_i fun N hN => ?_
  dsimp only [DL.dAnd, DL.dAndV, DL.dAny, DL.dAppend, DL.dAsg, DL.dB, DL.dBreak, DL.dC, DL.dCall, DL.dChain, DL.dCons, DL.dConsA, DL.dCont, DL.dDrop, DL.dEnumL, DL.dEnumT, DL.dFld, DL.dFldO, DL.dFldSet, DL.dFmt, DL.dFn, DL.dFor, DL.dFresh, DL.dGet1, DL.dGet2, DL.dIfE, DL.dIfS, DL.dInK, DL.dIsi, DL.dIsiO, DL.dJoin, DL.dKeys, DL.dLenSc, DL.dLenSet, DL.dLenSk, DL.dLock, DL.dLockS, DL.dMth, DL.dNeg, DL.dNever, DL.dNext, DL.dNil, DL.dNilA, DL.dNone, DL.dNot, DL.dNotV, DL.dOp, DL.dOr, DL.dOrV, DL.dPar, DL.dPut, DL.dRet, DL.dRetN, DL.dRng1, DL.dRng2, DL.dSeq, DL.dSet, DL.dSetO, DL.dSl, DL.dSome, DL.dTruth, DL.dTup, DL.dVar, DL.dView, DL.dViewT, DL.dYes, DL.dZip, DL.fDc, DL.fDictP, DL.fDictPT, DL.fDisp, DL.fLc, DL.fListT, DL.fLock, DL.fLst, DL.fMake, DL.fMakeK, DL.fMakeL, DL.fNew, DL.gAdd, DL.gBools, DL.gCmp, DL.gConsD, DL.gDin, DL.gEq, DL.gEqO, DL.gGe, DL.gGet, DL.gGt, DL.gI, DL.gIb, DL.gIc, DL.gIn, DL.gInO, DL.gInt, DL.gIsN, DL.gIx, DL.gLe, DL.gLen, DL.gLenO, DL.gLt, DL.gNameD, DL.gNe, DL.gNilD, DL.gNotN, DL.gRepr, DL.gSl, DL.gSorted, DL.gStrI, DL.gStrO, DL.gStrS, DL.gSum, DL.gTupD, DL.gTuple, DL.jCons, DL.jNil, DL.pCons, DL.pNil, startD, isiB, List.map_cons, List.map_nil, List.cons_append, List.nil_append, List.length_cons, List.length_nil, List.set_cons_zero, List.set_cons_succ, List.getElem?_cons_zero, List.getElem?_cons_succ, List.replicate]
  have ln : 0 < ((points es xs).map DL.D.str).length := by rw [List.length_map, points]; exact Nat.succ_pos _
  have pk : ∀ d ∈ (points es xs).map DL.D.str, ∃ p, d = .str p ∧ PyData.strOk p = true ∧ p.length ≤ 8 := fun d m => by
    obtain ⟨p, mp, rfl⟩ := List.mem_map.mp m
    refine ⟨p, rfl, k.ok.pts p mp, ?_⟩
    rcases List.mem_cons.mp mp with rfl | mp
    · decide +kernel
    · rcases List.mem_append.mp mp with mp | mp
      · exact (k.ok.n p mp).2.1
      · obtain ⟨x, mx, rfl⟩ := List.mem_map.mp mp
        exact (k.ok.x x mx).e1.2.1
  refine ⟨_, .inl rfl, ln, by rw [List.length_map]; omega, fun d1 m1 => ?_⟩
  obtain ⟨p1, rfl, o1, s1⟩ := pk d1 m1
  dsimp only
  have oa : PyData.strOk (Str.ofString "a") = true := by decide +kernel
  have la : (Str.ofString "a").length ≤ 10 := by decide +kernel
  refine ⟨by omega, _, .inl rfl, ln, by rw [List.length_map]; omega, fun d2 m2 => ?_⟩
  obtain ⟨p2, rfl, o2, s2⟩ := pk d2 m2
  dsimp only [Ent.datum]
  generalize hm : L ++ [DL.D.str (p1 ++ Str.ofString "a"), .str (L2.cutS p2 none (some (-1))), .str (Str.ofString "zzzzzzzzz"), .str (Str.ofString "bb"), planD CP h es xs bs] = M
  have hM : ∀ d ∈ M, findable CP d := fun d m => by
    rw [← hm] at m
    rcases List.mem_append.mp m with m | m
    · exact hL d m
    · simp only [List.mem_cons, List.mem_nil_iff, or_false] at m
      rcases m with rfl | rfl | rfl | rfl | rfl
      · exact .inl (str_cmp (strOk_app o1 oa))
      · exact .inl (str_cmp (strOk_cut none (some (-1)) o2))
      · exact .inl (str_cmp (by decide +kernel))
      · exact .inl (str_cmp (by decide +kernel))
      · exact .inr (.inr ⟨h, es, xs, bs, rfl⟩)
  refine ⟨by omega, by omega, ?_, hN _ ?_⟩
  · simp only [List.length_cons, List.length_nil]
    omega
  clear hN N hm m1 m2
  (dsimp only [DL.dRet, List.map, DL.Ent.view]; dsimp only [DL.dAnd, DL.dAndV, DL.dAny, DL.dAppend, DL.dAsg, DL.dB, DL.dBreak, DL.dC, DL.dCall, DL.dChain, DL.dCons, DL.dConsA, DL.dCont, DL.dDrop, DL.dEnumL, DL.dEnumT, DL.dFld, DL.dFldO, DL.dFldSet, DL.dFmt, DL.dFn, DL.dFor, DL.dFresh, DL.dGet1, DL.dGet2, DL.dIfE, DL.dIfS, DL.dInK, DL.dIsi, DL.dIsiO, DL.dJoin, DL.dKeys, DL.dLenSc, DL.dLenSet, DL.dLenSk, DL.dLock, DL.dLockS, DL.dMth, DL.dNeg, DL.dNever, DL.dNext, DL.dNil, DL.dNilA, DL.dNone, DL.dNot, DL.dNotV, DL.dOp, DL.dOr, DL.dOrV, DL.dPar, DL.dPut, DL.dRet, DL.dRetN, DL.dRng1, DL.dRng2, DL.dSeq, DL.dSet, DL.dSetO, DL.dSl, DL.dSome, DL.dTruth, DL.dTup, DL.dVar, DL.dView, DL.dViewT, DL.dYes, DL.dZip, DL.fDc, DL.fDictP, DL.fDictPT, DL.fDisp, DL.fLc, DL.fListT, DL.fLock, DL.fLst, DL.fMake, DL.fMakeK, DL.fMakeL, DL.fNew, DL.gAdd, DL.gBools, DL.gCmp, DL.gConsD, DL.gDin, DL.gEq, DL.gEqO, DL.gGe, DL.gGet, DL.gGt, DL.gI, DL.gIb, DL.gIc, DL.gIn, DL.gInO, DL.gInt, DL.gIsN, DL.gIx, DL.gLe, DL.gLen, DL.gLenO, DL.gLt, DL.gNameD, DL.gNe, DL.gNilD, DL.gNotN, DL.gRepr, DL.gSl, DL.gSorted, DL.gStrI, DL.gStrO, DL.gStrS, DL.gSum, DL.gTupD, DL.gTuple, DL.jCons, DL.jNil, DL.pCons, DL.pNil, startD, isiB, List.map_cons, List.map_nil, List.cons_append, List.nil_append, List.length_cons, List.length_nil, List.set_cons_zero, List.set_cons_succ, List.getElem?_cons_zero, List.getElem?_cons_succ, List.replicate])
  refine lc_none M [] (fun d m R hR => ?_) ⟨by omega, by decide, by decide, q⟩
  have fd := hM d m
  dsimp only [wipeE]
  dsimp only [DL.dAnd, DL.dAndV, DL.dAny, DL.dAppend, DL.dAsg, DL.dB, DL.dBreak, DL.dC, DL.dCall, DL.dChain, DL.dCons, DL.dConsA, DL.dCont, DL.dDrop, DL.dEnumL, DL.dEnumT, DL.dFld, DL.dFldO, DL.dFldSet, DL.dFmt, DL.dFn, DL.dFor, DL.dFresh, DL.dGet1, DL.dGet2, DL.dIfE, DL.dIfS, DL.dInK, DL.dIsi, DL.dIsiO, DL.dJoin, DL.dKeys, DL.dLenSc, DL.dLenSet, DL.dLenSk, DL.dLock, DL.dLockS, DL.dMth, DL.dNeg, DL.dNever, DL.dNext, DL.dNil, DL.dNilA, DL.dNone, DL.dNot, DL.dNotV, DL.dOp, DL.dOr, DL.dOrV, DL.dPar, DL.dPut, DL.dRet, DL.dRetN, DL.dRng1, DL.dRng2, DL.dSeq, DL.dSet, DL.dSetO, DL.dSl, DL.dSome, DL.dTruth, DL.dTup, DL.dVar, DL.dView, DL.dViewT, DL.dYes, DL.dZip, DL.fDc, DL.fDictP, DL.fDictPT, DL.fDisp, DL.fLc, DL.fListT, DL.fLock, DL.fLst, DL.fMake, DL.fMakeK, DL.fMakeL, DL.fNew, DL.gAdd, DL.gBools, DL.gCmp, DL.gConsD, DL.gDin, DL.gEq, DL.gEqO, DL.gGe, DL.gGet, DL.gGt, DL.gI, DL.gIb, DL.gIc, DL.gIn, DL.gInO, DL.gInt, DL.gIsN, DL.gIx, DL.gLe, DL.gLen, DL.gLenO, DL.gLt, DL.gNameD, DL.gNe, DL.gNilD, DL.gNotN, DL.gRepr, DL.gSl, DL.gSorted, DL.gStrI, DL.gStrO, DL.gStrS, DL.gSum, DL.gTupD, DL.gTuple, DL.jCons, DL.jNil, DL.pCons, DL.pNil, startD, isiB, List.map_cons, List.map_nil, List.cons_append, List.nil_append, List.length_cons, List.length_nil, List.set_cons_zero, List.set_cons_succ, List.getElem?_cons_zero, List.getElem?_cons_succ, List.replicate]
  have bc : ∀ b : Bool, D.cmp (.bl b) = true := by decide
  refine ⟨rfl, h, es, xs, bs, d, rfl, fd, k.ok.pts, _, rfl, gIn_find (.inr ⟨true, rfl⟩) fd k.ok.pts ⟨bc _, bc _, ?_⟩⟩
  rw [k.e, k.x]
  have z : ∀ b : Bool, (!eqD (.bl (id b)) (.bl b)) = false := by decide
  rw [z]
  exact hR _
end
end K05

set_option Elab.async false
set_option linter.all false
set_option maxRecDepth 100000
set_option maxHeartbeats 2000000
namespace K05
open PySem PySem.Spec PyProof.Rows L2 LW RZ DL
def keys4 : List Str := ["horizon", "events", "steps", "bounds"]
/-- a dict of a plan's parts -/
structure okVals (vs : List (DL.D × DL.D)) (h : Int) (es : List Str) (xs : List Stp) (bs : List Bnd) : Prop where
  ks : ∀ p ∈ vs, ∃ k ∈ keys4, p.1 = .str k
  fh : findK vs (.str (Str.ofString "horizon")) = some (.int h)
  fe : (findK vs (.str (Str.ofString "events"))).getD (.tup []) = .tup (es.map DL.D.str)
  fs : (findK vs (.str (Str.ofString "steps"))).getD (.tup []) = .tup (xs.map Stp.D)
  fb : (findK vs (.str (Str.ofString "bounds"))).getD (.tup []) = .tup (bs.map Bnd.D)
section
variable {P : Program} {w : World} {K : PySem.W.Frag} {mg : Str → Option Value} {base : Heap} {tk : Tok} {CP : Addr} {BP : FuncData → Prop} {gV : List V → List V → List V} {x : Str} {dvs : List V} {kws : List (Str × V)} {params : Arguments} {f : Addr} {fd : FuncData}
abbrev gOf (CP : Addr) : SpD := fun ds Q _ => ∃ vs h es xs bs, ds = [.dct false vs] ∧ okVals vs h es xs bs ∧ 0 ≤ h ∧ h ≤ 99 ∧ okParts es xs bs ∧ Q (planD CP h es xs bs)
theorem sc_Plan_of : FnScope ["cls", "values", "key"] ["cls", "values"] (defScope (mtop 28 1)) := ⟨rfl, rfl, rfl, by decide +kernel, rfl, by decide +kernel, by decide +kernel⟩
theorem ok_of (T : Bl mg) (K__KEYS : KTup K mg "_KEYS" ["horizon", "events", "steps", "bounds"]) (I_Plan : Ini P w K mg base "Plan" CP 8 psInit BP gIniP) (B_Plan_events_steps_bounds : Kw3 K BP gV) (R_Plan_events_steps_bounds : KwR K gV) (F : FunD K x "Plan.of" params (defBody (mtop 28 1)) (defScope (mtop 28 1)) dvs kws f fd) :
    FnC P w K mg base CP 10 f fd ["cls", "values"] (gOf CP) := by
  refine okM F sc_Plan_of (by decide) (by rintro ds Q De ⟨vs, h, es, xs, bs, rfl, _⟩; rfl) fun cdv A outer s H E De hgd hr => ⟨_, (dss_cons (ds_if (DW.dt (dw_or (dt_not (dt_val (de_isi "dict" (by rfl) T.«isinstance» (by rfl) T.«dict» (by decide +kernel) (dv 1)))) (dw_or1 (dt_dnin (hu1 hr) de_str (dv 1)))))
        (dss_one ds_never)
        dss_nil)
      (dss_cons (ds_if (dt_not (dt_val (de_callB (call_all rfl) l_all (by rfl) T.«all» (by decide +kernel) (da_cons (de_fresh (df_lock 1 (df_lc (own := [("key", 2)]) (by rfl) sc_Plan_of.nd (di_keys 1) (blkOk_by (own := [("key", 2)]) (N := ["cls", "values", "key"]) (sc := defScope (mtop 28 1)) (by decide +kernel)) (fun _ _ _ _ _ => (dg_name (i := 2) sc_Plan_of.nd rfl (.inl rfl))) (fun _ _ _ _ _ => dts_nil) (fun _ _ _ _ _ => (de_inK hr.units (u65 hr) K__KEYS (by decide +kernel) (by rfl) (dv 2))) (by decide)))) da_nil))))
        (dss_one ds_never)
        dss_nil)
      (dss_one (ds_ret (de_fresh (df_makeKL 0 I_Plan B_Plan_events_steps_bounds R_Plan_events_steps_bounds hgd hr (by decide) (passes_call (takes_of rfl rfl rfl rfl) fun _ _ _ _ h => h) (da_cons (de_dget (hu1 hr) (dv 1) de_str (fun _ _ => rfl)) da_nil) (dk_cons (de_dget2 (hu1 hr) (dv 1) de_str (de_tup da_nil) ⟨by rfl, by rfl, by rfl, by rfl⟩) (dk_cons (de_dget2 (hu1 hr) (dv 1) de_str (de_tup da_nil) ⟨by rfl, by rfl, by rfl, by rfl⟩) (dk_cons (de_dget2 (hu1 hr) (dv 1) de_str (de_tup da_nil) ⟨by rfl, by rfl, by rfl, by rfl⟩) dk_nil))))))))), ?_⟩
  rintro ds Dq ⟨vs, h, es, xs, bs, rfl, ov, h0, h1, ok, q⟩
  rw [show startC ["cls", "values", "key"] CP [.dct false vs] = [.cls CP, .dat (.dct false vs), .un] from rfl]
  have sL : (16777216 : Nat) = sizeLine := sizeLine_eq.symm
  refine seq_i fun N hN => ?_
  refine ifs_i (fun b => b = false) (fun Q hQ => ?_) (fun c => by cases c) fun _ => hN _ ?_
  · dsimp only [DL.dAnd, DL.dAndV, DL.dAny, DL.dAppend, DL.dAsg, DL.dB, DL.dBreak, DL.dC, DL.dCall, DL.dChain, DL.dCons, DL.dConsA, DL.dCont, DL.dDrop, DL.dEnumL, DL.dEnumT, DL.dFld, DL.dFldO, DL.dFldSet, DL.dFmt, DL.dFn, DL.dFor, DL.dFresh, DL.dGet1, DL.dGet2, DL.dIfE, DL.dIfS, DL.dInK, DL.dIsi, DL.dIsiO, DL.dJoin, DL.dKeys, DL.dLenSc, DL.dLenSet, DL.dLenSk, DL.dLock, DL.dLockS, DL.dMth, DL.dNeg, DL.dNever, DL.dNext, DL.dNil, DL.dNilA, DL.dNone, DL.dNot, DL.dNotV, DL.dOp, DL.dOr, DL.dOrV, DL.dPar, DL.dPut, DL.dRet, DL.dRetN, DL.dRng1, DL.dRng2, DL.dSeq, DL.dSet, DL.dSetO, DL.dSl, DL.dSome, DL.dTruth, DL.dTup, DL.dVar, DL.dView, DL.dViewT, DL.dYes, DL.dZip, DL.fDc, DL.fDictP, DL.fDictPT, DL.fDisp, DL.fLc, DL.fListT, DL.fLock, DL.fLst, DL.fMake, DL.fMakeK, DL.fMakeL, DL.fNew, DL.gAdd, DL.gBools, DL.gCmp, DL.gConsD, DL.gDin, DL.gEq, DL.gEqO, DL.gGe, DL.gGet, DL.gGt, DL.gI, DL.gIb, DL.gIc, DL.gIn, DL.gInO, DL.gInt, DL.gIsN, DL.gIx, DL.gLe, DL.gLen, DL.gLenO, DL.gLt, DL.gNameD, DL.gNe, DL.gNilD, DL.gNotN, DL.gRepr, DL.gSl, DL.gSorted, DL.gStrI, DL.gStrO, DL.gStrS, DL.gSum, DL.gTupD, DL.gTuple, DL.jCons, DL.jNil, DL.pCons, DL.pNil, startD, isiB, List.map_cons, List.map_nil, List.cons_append, List.nil_append, List.length_cons, List.length_nil, List.set_cons_zero, List.set_cons_succ, List.getElem?_cons_zero, List.getElem?_cons_succ, List.replicate]
    rw [ov.fh]
    exact ifn (by decide) ⟨rfl, hQ _ rfl⟩
  clear hN N
  refine seq_i fun N hN => ?_
  refine ifs_i (fun b => b = false) (fun Q hQ => ?_) (fun c => by cases c) fun _ => hN _ ?_
  · dsimp only [DL.dAnd, DL.dAndV, DL.dAny, DL.dAppend, DL.dAsg, DL.dB, DL.dBreak, DL.dC, DL.dCall, DL.dChain, DL.dCons, DL.dConsA, DL.dCont, DL.dDrop, DL.dEnumL, DL.dEnumT, DL.dFld, DL.dFldO, DL.dFldSet, DL.dFmt, DL.dFn, DL.dFor, DL.dFresh, DL.dGet1, DL.dGet2, DL.dIfE, DL.dIfS, DL.dInK, DL.dIsi, DL.dIsiO, DL.dJoin, DL.dKeys, DL.dLenSc, DL.dLenSet, DL.dLenSk, DL.dLock, DL.dLockS, DL.dMth, DL.dNeg, DL.dNever, DL.dNext, DL.dNil, DL.dNilA, DL.dNone, DL.dNot, DL.dNotV, DL.dOp, DL.dOr, DL.dOrV, DL.dPar, DL.dPut, DL.dRet, DL.dRetN, DL.dRng1, DL.dRng2, DL.dSeq, DL.dSet, DL.dSetO, DL.dSl, DL.dSome, DL.dTruth, DL.dTup, DL.dVar, DL.dView, DL.dViewT, DL.dYes, DL.dZip, DL.fDc, DL.fDictP, DL.fDictPT, DL.fDisp, DL.fLc, DL.fListT, DL.fLock, DL.fLst, DL.fMake, DL.fMakeK, DL.fMakeL, DL.fNew, DL.gAdd, DL.gBools, DL.gCmp, DL.gConsD, DL.gDin, DL.gEq, DL.gEqO, DL.gGe, DL.gGet, DL.gGt, DL.gI, DL.gIb, DL.gIc, DL.gIn, DL.gInO, DL.gInt, DL.gIsN, DL.gIx, DL.gLe, DL.gLen, DL.gLenO, DL.gLt, DL.gNameD, DL.gNe, DL.gNilD, DL.gNotN, DL.gRepr, DL.gSl, DL.gSorted, DL.gStrI, DL.gStrO, DL.gStrS, DL.gSum, DL.gTupD, DL.gTuple, DL.jCons, DL.jNil, DL.pCons, DL.pNil, startD, isiB, List.map_cons, List.map_nil, List.cons_append, List.nil_append, List.length_cons, List.length_nil, List.set_cons_zero, List.set_cons_succ, List.getElem?_cons_zero, List.getElem?_cons_succ, List.replicate]
    refine ⟨fun e m => ?_, lc_map (F := fun _ => .bl true) _ _ (fun d m R r => ?_) ⟨_, bools_true _, ?_⟩⟩
    · obtain ⟨z, _, ez⟩ := ov.ks e m
      rw [ez]
      exact Nat.zero_le _
    · obtain ⟨p, mp, rfl⟩ := List.mem_map.mp m
      obtain ⟨z, mz, ez⟩ := ov.ks p mp
      rw [ez]
      have zo : PyData.strOk z = true ∧ inD (.str z) (keys4.map DL.D.str) = true := by
        simp only [keys4, List.mem_cons, List.mem_nil_iff, or_false] at mz
        rcases mz with rfl | rfl | rfl | rfl <;> decide +kernel
      refine ⟨str_cmp zo.1, ?_⟩
      have r' : R (.bl true) := r
      rw [← zo.2] at r'
      exact r'
    · rw [all_true]
      exact hQ _ rfl
  clear hN N
  (dsimp only [DL.dRet, List.map, DL.Ent.view]; dsimp only [DL.dAnd, DL.dAndV, DL.dAny, DL.dAppend, DL.dAsg, DL.dB, DL.dBreak, DL.dC, DL.dCall, DL.dChain, DL.dCons, DL.dConsA, DL.dCont, DL.dDrop, DL.dEnumL, DL.dEnumT, DL.dFld, DL.dFldO, DL.dFldSet, DL.dFmt, DL.dFn, DL.dFor, DL.dFresh, DL.dGet1, DL.dGet2, DL.dIfE, DL.dIfS, DL.dInK, DL.dIsi, DL.dIsiO, DL.dJoin, DL.dKeys, DL.dLenSc, DL.dLenSet, DL.dLenSk, DL.dLock, DL.dLockS, DL.dMth, DL.dNeg, DL.dNever, DL.dNext, DL.dNil, DL.dNilA, DL.dNone, DL.dNot, DL.dNotV, DL.dOp, DL.dOr, DL.dOrV, DL.dPar, DL.dPut, DL.dRet, DL.dRetN, DL.dRng1, DL.dRng2, DL.dSeq, DL.dSet, DL.dSetO, DL.dSl, DL.dSome, DL.dTruth, DL.dTup, DL.dVar, DL.dView, DL.dViewT, DL.dYes, DL.dZip, DL.fDc, DL.fDictP, DL.fDictPT, DL.fDisp, DL.fLc, DL.fListT, DL.fLock, DL.fLst, DL.fMake, DL.fMakeK, DL.fMakeL, DL.fNew, DL.gAdd, DL.gBools, DL.gCmp, DL.gConsD, DL.gDin, DL.gEq, DL.gEqO, DL.gGe, DL.gGet, DL.gGt, DL.gI, DL.gIb, DL.gIc, DL.gIn, DL.gInO, DL.gInt, DL.gIsN, DL.gIx, DL.gLe, DL.gLen, DL.gLenO, DL.gLt, DL.gNameD, DL.gNe, DL.gNilD, DL.gNotN, DL.gRepr, DL.gSl, DL.gSorted, DL.gStrI, DL.gStrO, DL.gStrS, DL.gSum, DL.gTupD, DL.gTuple, DL.jCons, DL.jNil, DL.pCons, DL.pNil, startD, isiB, List.map_cons, List.map_nil, List.cons_append, List.nil_append, List.length_cons, List.length_nil, List.set_cons_zero, List.set_cons_succ, List.getElem?_cons_zero, List.getElem?_cons_succ, List.replicate])
  rw [ov.fh, ov.fe, ov.fs, ov.fb]
  have z0 := Nat.zero_le sizeLine
  refine ⟨rfl, rfl, z0, rfl, z0, rfl, z0, rfl, rfl, rfl, h, es, xs, bs, rfl, h0, h1, ok, fun fs ef a => ?_⟩
  rw [ef]
  exact q
end
end K05

set_option Elab.async false
set_option linter.all false
set_option maxRecDepth 100000
set_option maxHeartbeats 2000000
/-! A dict of a plan's parts; equal plans. -/
namespace LW
open PySem PySem.Spec PyProof.Rows L2
theorem Sz.kv {k n : Nat} : ∀ {kvs : List (PyData × PyData)}, (∀ p ∈ kvs, Sz k n p.1 ∧ Sz k n p.2) → PyData.showableKv kvs = true ∧ PyData.depthKv kvs ≤ k ∧ ((PyData.shownKv kvs).map (·.length)).sum ≤ (2 * n + 2) * kvs.length ∧ (PyData.shownKv kvs).length = kvs.length
  | [], _ => ⟨by simp [PyData.showableKv], by simp [PyData.depthKv], by simp [PyData.shownKv], by simp [PyData.shownKv]⟩
  | (a, b) :: kvs, h => by
    obtain ⟨⟨a1, a2, a3⟩, b1, b2, b3⟩ := h (a, b) List.mem_cons_self
    obtain ⟨c1, c2, c3, c4⟩ := Sz.kv (kvs := kvs) fun d hd => h d (List.mem_cons_of_mem _ hd)
    dsimp only at a1 a2 a3 b1 b2 b3
    have l2 : (Str.ofString ": ").length = 2 := by decide +kernel
    refine ⟨by simp only [PyData.showableKv, a1, b1, c1, Bool.and_self], by simp only [PyData.depthKv]; omega, ?_, by simp only [PyData.shownKv, List.length_cons, c4]⟩
    simp only [PyData.shownKv, List.map_cons, List.sum_cons, List.length_cons, Nat.mul_add, Nat.mul_one, Str.length_append]
    have e : (2 * n + 2) * kvs.length = 2 * n * kvs.length + 2 * kvs.length := Nat.add_mul _ _ _
    omega
theorem Sz.dct {k n : Nat} {kvs : List (PyData × PyData)} (h : ∀ p ∈ kvs, Sz k n p.1 ∧ Sz k n p.2) : Sz (k + 1) ((2 * n + 4) * kvs.length + 3) (.dict kvs) := by
  obtain ⟨b1, b2, b3, b4⟩ := Sz.kv h
  refine ⟨by simp only [PyData.showable, b1], by simp only [PyData.depth]; omega, ?_⟩
  have q := dictText_len_le (PyData.shownKv kvs)
  have e : (PyData.dict kvs).shown = dictText (PyData.shownKv kvs) := by simp only [PyData.shown]
  rw [e]
  have e2 : (2 * n + 4) * kvs.length = (2 * n + 2) * kvs.length + 2 * kvs.length := by rw [← Nat.add_mul]
  omega
end LW
namespace K05
open PySem PySem.Spec PyProof.Rows L2 LW RZ DL
/-- a part of a plan that is passed, in some order, or left out if it is empty -/
inductive PartOk {α : Type} (f : α → DL.D) (l : List α) : Option DL.D → Prop
  | out : l = [] → PartOk f l none
  | put {l' : List α} : l'.Perm l → PartOk f l (some (.tup (l'.map f)))
theorem PartOk.get {α : Type} {f : α → DL.D} {l : List α} {o : Option DL.D} (h : PartOk f l o) : ∃ l' : List α, l'.Perm l ∧ o.getD (.tup []) = .tup (l'.map f) := by
  cases h with
  | out e => exact ⟨[], by rw [e], rfl⟩
  | put p => exact ⟨_, p, rfl⟩
def kE : Str := Str.ofString "events"
def kS : Str := Str.ofString "steps"
def kB : Str := Str.ofString "bounds"
def kH : Str := Str.ofString "horizon"
def optP (key : Str) (o : Option DL.D) : List (DL.D × DL.D) := match o with
  | none => []
  | some d => [(.str key, d)]
def pairsP (h : Int) (oe os ob : Option DL.D) : List (DL.D × DL.D) := (DL.D.str kH, DL.D.int h) :: (optP kE oe ++ (optP kS os ++ optP kB ob))
def mkP (p : DL.D × DL.D) : DL.D := .tup [p.1, p.2]
theorem pairs_in {h : Int} {oe os ob : Option DL.D} {p : DL.D × DL.D} (m : p ∈ pairsP h oe os ob) : p = (.str kH, .int h) ∨ (∃ d, oe = some d ∧ p = (.str kE, d)) ∨ (∃ d, os = some d ∧ p = (.str kS, d)) ∨ ∃ d, ob = some d ∧ p = (.str kB, d) := by
  have o : ∀ {key : Str} {o : Option DL.D}, p ∈ optP key o → ∃ d, o = some d ∧ p = (.str key, d) := fun {key o} m => by
    cases o with
    | none => cases m
    | some d => exact ⟨d, rfl, List.mem_singleton.mp m⟩
  rcases List.mem_cons.mp m with m | m
  · exact .inl m
  · rcases List.mem_append.mp m with m | m
    · exact .inr (.inl (o m))
    · rcases List.mem_append.mp m with m | m
      · exact .inr (.inr (.inl (o m)))
      · exact .inr (.inr (.inr (o m)))
theorem pairs_keys (h : Int) (oe os ob : Option DL.D) : (pairsP h oe os ob).Pairwise fun p q => keyEq p.1 q.1 = false := by
  have n : ∀ a b : Str, (a == b) = false → keyEq (.str a) (.str b) = false := fun a b e => e
  unfold pairsP
  cases oe <;> cases os <;> cases ob <;> simp [optP, n, kH, kE, kS, kB] <;> decide +kernel
theorem key_comm (a b : DL.D) (ha : ∃ x, a = .str x) (hb : ∃ x, b = .str x) : keyEq a b = keyEq b a := by
  obtain ⟨x, rfl⟩ := ha
  obtain ⟨y, rfl⟩ := hb
  show (x == y) = (y == x)
  rw [Bool.beq_eq_decide_eq, Bool.beq_eq_decide_eq, decide_eq_decide]
  exact eq_comm
theorem pairs_str {h : Int} {oe os ob : Option DL.D} {p : DL.D × DL.D} (m : p ∈ pairsP h oe os ob) : ∃ k ∈ keys4, p.1 = .str k := by
  rcases pairs_in m with rfl | ⟨d, _, rfl⟩ | ⟨d, _, rfl⟩ | ⟨d, _, rfl⟩
  · exact ⟨kH, by simp [keys4, kH], rfl⟩
  · exact ⟨kE, by simp [keys4, kE], rfl⟩
  · exact ⟨kS, by simp [keys4, kS], rfl⟩
  · exact ⟨kB, by simp [keys4, kB], rfl⟩
/-- what a key tells in any order -/
theorem find_any {vs ps : List (DL.D × DL.D)} (pm : vs.Perm ps) (pw : vs.Pairwise fun p q => keyEq p.1 q.1 = false) (st : ∀ p ∈ ps, ∃ x, p.1 = .str x) {key : Str} {d : DL.D} (m : (DL.D.str key, d) ∈ ps) : findK vs (.str key) = some d := by
  have m' := pm.mem_iff.mpr m
  clear m
  induction vs generalizing ps with
  | nil => cases m'
  | cons v vs ih =>
    unfold findK
    rw [List.find?_cons]
    rcases List.mem_cons.mp m' with e | m'
    · rw [← e]
      rw [show keyEq (DL.D.str key, d).1 (.str key) = true from beq_self_eq_true key]
      rfl
    · have := (List.pairwise_cons.mp pw).1 _ m'
      rw [this]
      exact ih (ps := vs) (List.Perm.refl _) (List.pairwise_cons.mp pw).2 (fun p mp => st p (pm.mem_iff.mp (List.mem_cons_of_mem _ mp))) m'
theorem find_no {vs ps : List (DL.D × DL.D)} (pm : vs.Perm ps) {key : Str} (no : ∀ p ∈ ps, keyEq p.1 (.str key) = false) : findK vs (.str key) = none := by
  unfold findK
  rw [List.find?_eq_none.mpr fun p m => by rw [no p (pm.mem_iff.mp m)]; decide]
  rfl
theorem perm_keys {vs ps : List (DL.D × DL.D)} (pm : vs.Perm ps) (pw : ps.Pairwise fun p q => keyEq p.1 q.1 = false) (st : ∀ p ∈ ps, ∃ x, p.1 = .str x) : vs.Pairwise fun p q => keyEq p.1 q.1 = false := by
  have h : (ps.map fun p => p.1).Pairwise fun a b => keyEq a b = false := List.pairwise_map.mpr pw
  have n : (ps.map fun p => p.1).Nodup := by
    refine List.Pairwise.imp_of_mem (fun {a b} ma mb q e => ?_) h
    obtain ⟨p, mp, rfl⟩ := List.mem_map.mp ma
    obtain ⟨x, ex⟩ := st p mp
    rw [← e, ex] at q
    have : (x == x) = false := q
    rw [beq_self_eq_true] at this
    cases this
  have n' := (pm.map fun p => p.1).nodup_iff.mpr n
  refine (List.pairwise_map.mp n').imp_of_mem fun {p q} mp mq ne => ?_
  obtain ⟨x, ex⟩ := st p (pm.mem_iff.mp mp)
  obtain ⟨y, ey⟩ := st q (pm.mem_iff.mp mq)
  rw [ex, ey] at ne ⊢
  show (x == y) = false
  exact beq_eq_false_iff_ne.mpr fun e => ne (by rw [e])
theorem vals_ok {h : Int} {es : List Str} {xs : List Stp} {bs : List Bnd} {oe os ob : Option DL.D} (he : PartOk DL.D.str es oe) (hs : PartOk Stp.D xs os) (hb : PartOk Bnd.D bs ob) {vs : List (DL.D × DL.D)} (pm : vs.Perm (pairsP h oe os ob)) :
    ∃ es' xs' bs', es'.Perm es ∧ xs'.Perm xs ∧ bs'.Perm bs ∧ okVals vs h es' xs' bs' := by
  obtain ⟨es', pe, ee⟩ := he.get
  obtain ⟨xs', px, ex⟩ := hs.get
  obtain ⟨bs', pb, eb⟩ := hb.get
  have st : ∀ p ∈ pairsP h oe os ob, ∃ x, p.1 = .str x := fun p m => by
    obtain ⟨k, _, e⟩ := pairs_str m
    exact ⟨k, e⟩
  have pw := perm_keys pm (pairs_keys h oe os ob) st
  have n : ∀ a b : Str, (a == b) = false → keyEq (.str a) (.str b) = false := fun a b e => e
  have get : ∀ (key : Str) (o : Option DL.D), (∀ d, o = some d → (DL.D.str key, d) ∈ pairsP h oe os ob) → (o = none → ∀ p ∈ pairsP h oe os ob, keyEq p.1 (.str key) = false) → findK vs (.str key) = o := fun key o h1 h2 => by
    cases o with
    | none => exact find_no pm (h2 rfl)
    | some d => exact find_any pm pw st (h1 d rfl)
  have fe : findK vs (.str kE) = oe := get kE oe (fun d e => by subst e; simp [pairsP, optP]) (fun e p m => by
    subst e
    rcases pairs_in m with rfl | ⟨d, e, rfl⟩ | ⟨d, _, rfl⟩ | ⟨d, _, rfl⟩
    · exact n _ _ (by decide +kernel)
    · cases e
    · exact n _ _ (by decide +kernel)
    · exact n _ _ (by decide +kernel))
  have fs : findK vs (.str kS) = os := get kS os (fun d e => by subst e; simp [pairsP, optP]) (fun e p m => by
    subst e
    rcases pairs_in m with rfl | ⟨d, _, rfl⟩ | ⟨d, e, rfl⟩ | ⟨d, _, rfl⟩
    · exact n _ _ (by decide +kernel)
    · exact n _ _ (by decide +kernel)
    · cases e
    · exact n _ _ (by decide +kernel))
  have fb : findK vs (.str kB) = ob := get kB ob (fun d e => by subst e; simp [pairsP, optP]) (fun e p m => by
    subst e
    rcases pairs_in m with rfl | ⟨d, _, rfl⟩ | ⟨d, _, rfl⟩ | ⟨d, e, rfl⟩
    · exact n _ _ (by decide +kernel)
    · exact n _ _ (by decide +kernel)
    · exact n _ _ (by decide +kernel)
    · cases e)
  refine ⟨es', xs', bs', pe, px, pb, fun p m => pairs_str (pm.mem_iff.mp m), find_any pm pw st List.mem_cons_self, ?_, ?_, ?_⟩
  · rw [← ee, ← fe]; rfl
  · rw [← ex, ← fs]; rfl
  · rw [← eb, ← fb]; rfl
theorem vals_merge {h : Int} {oe os ob : Option DL.D} {vs : List (DL.D × DL.D)} (pm : vs.Perm (pairsP h oe os ob)) : mergeD [] vs = vs := by
  have st : ∀ p ∈ pairsP h oe os ob, ∃ x, p.1 = .str x := fun p m => by
    obtain ⟨k, _, e⟩ := pairs_str m
    exact ⟨k, e⟩
  rw [merge_nodup vs [] (fun p m => by cases m) (perm_keys pm (pairs_keys h oe os ob) st), List.nil_append]
theorem zip_maps {α β γ : Type} (f : α → β) (g : α → γ) : ∀ l : List α, (l.map f).zip (l.map g) = l.map fun p => (f p, g p)
  | [] => rfl
  | x :: l => by rw [List.map_cons, List.map_cons, List.map_cons, List.zip_cons_cons, zip_maps f g l]
theorem plain_strs : ∀ es : List Str, D.plainL (es.map DL.D.str) = true
  | [] => rfl
  | e :: es => by
    rw [List.map_cons, D.plainL, plain_strs es]
    rfl
theorem plain_steps : ∀ xs : List Stp, D.plainL (xs.map Stp.D) = true
  | [] => rfl
  | x :: xs => by
    rw [List.map_cons, D.plainL, plain_steps xs]
    obtain ⟨e, b, l, m, d⟩ := x
    cases d <;> rfl
theorem plain_bounds : ∀ xs : List Bnd, D.plainL (xs.map Bnd.D) = true
  | [] => rfl
  | x :: xs => by
    rw [List.map_cons, D.plainL, plain_bounds xs]
    rfl
theorem plainL_of : ∀ {ds : List DL.D}, (∀ d ∈ ds, d.plain = true) → D.plainL ds = true
  | [], _ => rfl
  | d :: ds, h => by
    rw [D.plainL, h d List.mem_cons_self, plainL_of fun e m => h e (List.mem_cons_of_mem _ m)]
    rfl
theorem len_opt (key : Str) (o : Option DL.D) : (optP key o).length ≤ 1 := by cases o <;> simp [optP]
theorem vals_small {h : Int} {es : List Str} {xs : List Stp} {bs : List Bnd} {oe os ob : Option DL.D} (k : okPlain h es xs bs) (he : PartOk DL.D.str es oe) (hs : PartOk Stp.D xs os) (hb : PartOk Bnd.D bs ob) :
    ∀ p ∈ pairsP h oe os ob, p.2.plain = true ∧ Sz 2 20000 p.1.py ∧ Sz 2 20000 p.2.py := fun p m => by
  have sk : ∀ s : Str, s ∈ keys4 → Sz 2 20000 (D.py (.str s)) := fun s ms => (Sz.str (m := 8) (by
    simp only [keys4, List.mem_cons, List.mem_nil_iff, or_false] at ms
    rcases ms with rfl | rfl | rfl | rfl <;> decide +kernel) (by
    simp only [keys4, List.mem_cons, List.mem_nil_iff, or_false] at ms
    rcases ms with rfl | rfl | rfl | rfl <;> decide +kernel)).mono (by decide) (by decide)
  have h0 := k.h0
  have h1 := k.h1
  rcases pairs_in m with rfl | ⟨d, e, rfl⟩ | ⟨d, e, rfl⟩ | ⟨d, e, rfl⟩
  · exact ⟨rfl, sk _ (by simp [keys4, kH]), (szI (by omega) (by omega)).mono (by decide) (by decide)⟩
  · cases he with
    | out z => cases e
    | put p =>
      cases e
      exact ⟨plain_strs _, sk _ (by simp [keys4, kE]), szEvs (k.ok.perm p (.refl _) (.refl _))⟩
  · cases hs with
    | out z => cases e
    | put p =>
      cases e
      exact ⟨plain_steps _, sk _ (by simp [keys4, kS]), szSteps (k.ok.perm (.refl _) p (.refl _))⟩
  · cases hb with
    | out z => cases e
    | put p =>
      cases e
      exact ⟨plain_bounds _, sk _ (by simp [keys4, kB]), szBnds (k.ok.perm (.refl _) (.refl _) p)⟩
theorem vals_repr {h : Int} {es : List Str} {xs : List Stp} {bs : List Bnd} {oe os ob : Option DL.D} (k : okPlain h es xs bs) (he : PartOk DL.D.str es oe) (hs : PartOk Stp.D xs os) (hb : PartOk Bnd.D bs ob) {vs : List (DL.D × DL.D)} (pm : vs.Perm (pairsP h oe os ob)) :
    D.plainL (vs.map (·.2)) = true ∧ Sz 60 sizeLine (dictPy vs) := by
  have sm := vals_small k he hs hb
  refine ⟨plainL_of fun d m => ?_, ?_⟩
  · obtain ⟨p, mp, rfl⟩ := List.mem_map.mp m
    exact (sm p (pm.mem_iff.mp mp)).1
  · unfold dictPy
    rw [zip_maps]
    have z := Sz.dct (k := 2) (n := 20000) (kvs := vs.map fun p => (p.1.py, p.2.py)) fun q m => by
      obtain ⟨p, mp, rfl⟩ := List.mem_map.mp m
      exact (sm p (pm.mem_iff.mp mp)).2
    have l : vs.length ≤ 4 := by
      have := pm.length_eq
      have := len_opt kE oe
      have := len_opt kS os
      have := len_opt kB ob
      rw [pm.length_eq, pairsP, List.length_cons, List.length_append, List.length_append]
      omega
    rw [List.length_map] at z
    refine z.mono (by decide) ?_
    rw [sizeLine_eq]
    have : (2 * 20000 + 4) * vs.length ≤ (2 * 20000 + 4) * 4 := Nat.mul_le_mul_left _ l
    omega
theorem eqPlan_same {h h' : Int} {es es' : List Str} {xs xs' : List Stp} {bs bs' : List Bnd} (k : okPlain h es xs bs) (k' : okPlain h' es' xs' bs') :
    eqPlan h es xs bs h' es' xs' bs' = eqD (.tup [.int h', .tup (es'.map DL.D.str), .tup (xs'.map Stp.D), .tup (bs'.map Bnd.D)]) (.tup [.int h, .tup (es.map DL.D.str), .tup (xs.map Stp.D), .tup (bs.map Bnd.D)]) := by
  unfold eqPlan
  rw [k.e, k.x, k.b, k'.e, k'.x, k'.b]
  have c : ∀ a b : DL.D, eqD a b = eqD b a := fun a b => PySem.W.eqv_comm _ _
  have r : eqD (.tup [.int h', .tup (es'.map DL.D.str), .tup (xs'.map Stp.D), .tup (bs'.map Bnd.D)]) (.tup [.int h, .tup (es.map DL.D.str), .tup (xs.map Stp.D), .tup (bs.map Bnd.D)]) =
      (eqD (.int h') (.int h) && (eqD (.tup (es'.map DL.D.str)) (.tup (es.map DL.D.str)) && (eqD (.tup (xs'.map Stp.D)) (.tup (xs.map Stp.D)) && (eqD (.tup (bs'.map Bnd.D)) (.tup (bs.map Bnd.D)) && true)))) := by
    show PyData.eqv _ _ = _
    simp only [D.py, D.pyL, PyData.eqv, PyData.eqvAll, eqD]
  rw [r, c (.int h') (.int h), c (.tup (es'.map DL.D.str)), c (.tup (xs'.map Stp.D)), c (.tup (bs'.map Bnd.D))]
  cases eqD (.int h) (.int h') <;> cases eqD (.tup (es.map DL.D.str)) (.tup (es'.map DL.D.str)) <;> cases eqD (.tup (xs.map Stp.D)) (.tup (xs'.map Stp.D)) <;> cases eqD (.tup (bs.map Bnd.D)) (.tup (bs'.map Bnd.D)) <;> rfl
theorem eqD_refl {d : DL.D} (h : d.cmp = true) : eqD d d = true := PySem.SeqAt.eqv_refl _ (SeqAt.canLay_of_shaped (Bool.and_eq_true_iff.mp h).2)
theorem eqPlan_refl {h : Int} {es : List Str} {xs : List Stp} {bs : List Bnd} (k : okPlain h es xs bs) : eqPlan h es xs bs h es xs bs = true := by
  rw [eqPlan_same k k]
  exact eqD_refl (plain_cmp k)
end K05

set_option Elab.async false
set_option linter.all false
set_option maxRecDepth 100000
set_option maxHeartbeats 2000000
namespace K05
open PySem PySem.Spec PyProof.Rows L2 LW RZ DL
theorem for_cons {g : DTG} {body : DTS} {Dd : DEnds} {d : DL.D} {ds : List DL.D} {ρ : Env'} (J : Env' → Prop) (h2 : ∀ ρ', J ρ' → forD g body Dd ds ρ') (h : ∀ N : Env' → Prop, (∀ ρ', J ρ' → N ρ') → g d ρ fun ρ1 => body { Dd with nx := N, bk := Dd.nx, ct := N } ρ1) : forD g body Dd (d :: ds) ρ := by
  show g d ρ fun ρ1 => body { Dd with nx := fun ρ => forD g body Dd ds ρ, bk := Dd.nx, ct := fun ρ => forD g body Dd ds ρ } ρ1
  exact h _ h2
theorem nil_of {α : Type} (f : α → DL.D) (l : List α) (h : (!eqD (.tup (l.map f)) (.tup [])) = false) : l = [] := by
  rw [eq_nil_tup, Bool.not_eq_false', decide_eq_true_eq] at h
  exact h
section
variable {P : Program} {w : World} {K : PySem.W.Frag} {mg : Str → Option Value} {base : Heap} {tk : Tok} {CP : Addr}
abbrev gEqual (CP : Addr) : SpD := fun ds Q _ => ∃ h es xs bs, ds = [.stm, plainD h es xs bs, planD CP h es xs bs] ∧ okPlain h es xs bs ∧ Q (.bl true)
theorem sc__law_equal_right : FnScope ["stream", "plain", "plan", "given", "key", "part", "values", "before", "other", "near", "value"] ["stream", "plain", "plan"] (defScope (top 45)) := ⟨rfl, rfl, rfl, by decide +kernel, rfl, by decide +kernel, by decide +kernel⟩
theorem ok_law_equal (T : Bl mg) (co : ClsOk K CP) (ne_none : PySem.W.findIn K (.ref CP) "__ne__" = some (some (.builtin "object.__ne__"))) (C__law_draw : Cal P w K mg base "_law_draw" 1 ["stream", "total"] gDraw) (C__law_mixed : Cal P w K mg base "_law_mixed" 2 ["stream", "items"] gMixed) (C__law_near : Cal P w K mg base "_law_near" 3 ["stream", "plain"] gNear) (C__law_built : Cal P w K mg base "_law_built" 10 ["stream", "plain"] (gBuilt CP)) (C__law_told_right : Cal P w K mg base "_law_told_right" 4 ["plain", "plan"] (gTold CP))
    (S_eq : Spc P w K mg base CP "__eq__" 3 ["self", "other"] (gEqP CP)) (L_str : Spc P w K mg base CP "__str__" 1 ["self"] (gStrP CP)) (N_Plan_of : Cmt P w K mg base "Plan" CP "of" 10 ["cls", "values"] (gOf CP)) (F : Dfn K mg "_law_equal_right" "_law_equal_right" (top 45) ["stream", "plain", "plan"]) :
    Cal P w K mg base "_law_equal_right" 12 ["stream", "plain", "plan"] (gEqual CP) := by
  refine okC F sc__law_equal_right (by decide) (by rintro ds Q De ⟨h, es, xs, bs, rfl, _⟩; rfl) fun f cdv A outer s H E De hgd hr => ⟨_, (dss_cons (ds_setO (i := 3) sc__law_equal_right.nd rfl (.inl rfl) (df_lst (da_cons (de_tup (da_cons de_str (da_cons (de_ix (dv 1) de_int (fun _ _ => rfl)) da_nil))) da_nil)))
      (dss_cons (ds_for (passes_of rfl) rfl (di_zip (by rfl) T.«zip» (de_tup (da_cons de_str (da_cons de_str (da_cons de_str da_nil)))) (de_sl (dv 1) (do_some de_int) do_none)) (dg_tup (n := 2) rfl (dgs_cons (dg_name (i := 4) sc__law_equal_right.nd rfl (.inl rfl)) (dgs_cons (dg_name (i := 5) sc__law_equal_right.nd rfl (.inl rfl)) dgs_nil)))
        (dss_one (ds_if (DW.dt (dw_or (dt_cmp (op_neA hr.units) l_ne (dv 5) (de_tup da_nil) (nomark _)) (dw_or1 (dt_cmp (op_eqA hr.units) l_eq (de_cal C__law_draw hgd hr (by decide) (by rfl) (passes_call (takes_of rfl rfl rfl rfl) fun _ _ _ _ h => h) (da_cons (dv 0) (da_cons de_int da_nil))) de_int (nomark _)))))
          (dss_one (ds_append 3 (de_tup (da_cons (dv 4) (da_cons (de_callTy (call_tupleA) l_tuple (by rfl) T.«tuple» (by decide +kernel) (da_cons (de_cal C__law_mixed hgd hr (by decide) (by rfl) (passes_call (takes_of rfl rfl rfl rfl) fun _ _ _ _ h => h) (da_cons (dv 0) (da_cons (dv 5) da_nil))) da_nil)) da_nil)))))
          dss_nil)))
      (dss_cons (ds_share (ds_set (i := 6) sc__law_equal_right.nd rfl (.inl rfl) (de_fresh (df_dictP (by rfl) (by rfl) T.«dict» (de_cal C__law_mixed hgd hr (by decide) (by rfl) (passes_call (takes_of rfl rfl rfl rfl) fun _ _ _ _ h => h) (da_cons (dv 0) (da_cons (dv 3) da_nil)))))))
      (dss_cons (ds_set (i := 7) sc__law_equal_right.nd rfl (.inl rfl) (de_callB (call_reprW hgd hr.units) l_reprW (by rfl) T.«repr» (by decide +kernel) (da_cons (dv 6) da_nil)))
      (dss_cons (ds_par (i := 8) (j := 9) rfl sc__law_equal_right.nd rfl rfl (by decide) rfl rfl (de_cmt N_Plan_of hgd hr (by decide) (by rfl) (passes_call (takes_of rfl rfl rfl rfl) fun _ _ _ _ h => h) (da_cons (dv 6) da_nil)) (de_cal C__law_near hgd hr (by decide) (by rfl) (passes_call (takes_of rfl rfl rfl rfl) fun _ _ _ _ h => h) (da_cons (dv 0) (da_cons (dv 1) da_nil))) (by rfl))
      (dss_cons (ds_if (DW.dt (dw_or (dt_not (dt_val (de_cal C__law_told_right hgd hr (by decide) (by rfl) (passes_call (takes_of rfl rfl rfl rfl) fun _ _ _ _ h => h) (da_cons (dv 1) (da_cons (dv 8) da_nil))))) (dw_or1 (dt_cmp op_ne l_neS (de_callB (call_reprW hgd hr.units) l_reprW (by rfl) T.«repr» (by decide +kernel) (da_cons (dv 6) da_nil)) (dv 7) (nomark _)))))
        (dss_one (ds_ret de_bl))
        dss_nil)
      (dss_cons (ds_if (DW.dt (dw_or (dt_not (dt_eqO S_eq hgd hr (by decide) (dv 2) (dv 8))) (dw_or (dt_neO S_eq co ne_none hgd hr (by decide) (dv 2) (dv 8)) (dw_or1 (dt_cmp (op_neA hr.units) l_ne (de_eqO S_eq hgd hr (by decide) (dv 2) (de_cal C__law_built hgd hr (by decide) (by rfl) (passes_call (takes_of rfl rfl rfl rfl) fun _ _ _ _ h => h) (da_cons (dv 0) (da_cons (dv 9) da_nil)))) (de_cmp (op_eqA hr.units) l_eq (dv 9) (dv 1) (nomark _)) (nomark _))))))
        (dss_one (ds_ret de_bl))
        dss_nil)
      (dss_one (ds_ret (de_cmp (op_eqA hr.units) l_eq (de_fresh (df_lc (own := [("value", 10)]) (by rfl) sc__law_equal_right.nd (di_any (de_tup (da_cons de_non (da_cons de_int (da_cons (de_strO L_str hgd hr (by decide) (by rfl) T.«str» (da_cons (dv 2) da_nil)) (da_cons (dv 1) (da_cons (de_tup da_nil) (da_cons (de_fresh df_newK) (da_cons (de_fresh (df_lst (da_cons (dv 2) da_nil))) (da_cons (dv 6) da_nil)))))))))) (blkOk_by (own := [("value", 10)]) (N := ["stream", "plain", "plan", "given", "key", "part", "values", "before", "other", "near", "value"]) (sc := defScope (top 45)) (by decide +kernel)) (fun _ _ _ _ _ => (dg_name (i := 10) sc__law_equal_right.nd rfl (.inl rfl))) (fun _ _ _ _ _ => (dts_one (dt_eqO S_eq hgd hr (by decide) (dv 2) (dv 10)))) (fun _ _ _ _ _ => (dv 10)) (by decide))) (de_fresh (df_lst da_nil)) (nomark _))))))))))), ?_⟩
  rintro ds Dq ⟨h, es, xs, bs, rfl, k, q⟩
  have sL : (16777216 : Nat) = sizeLine := sizeLine_eq.symm
  rw [show startD ["stream", "plain", "plan", "given", "key", "part", "values", "before", "other", "near", "value"] [.stm, plainD h es xs bs, planD CP h es xs bs] = [.dat .stm, .dat (.tup [.int h, .tup (es.map DL.D.str), .tup (xs.map Stp.D), .tup (bs.map Bnd.D)]), .dat (planD CP h es xs bs), .un, .un, .un, .un, .un, .un, .un, .un] from rfl]
  have el := k.ok.el
  have xl := k.ok.xl
  have bl := k.ok.bl
  have hec : D.cmp (.tup (es.map DL.D.str)) = true := strs_cmp fun e m => name_ok (k.ok.n e m)
  have hbc : D.cmp (.tup (bs.map Bnd.D)) = true := by have := k.ok.bc; rwa [k.b] at this
  have hsc : D.cmp (.tup (xs.map Stp.D)) = true := by have := k.ok.sc; rwa [k.x] at this
  have nc : D.cmp (.tup []) = true := by decide
  have z0 : (0 : Nat) ≤ sizeLine := by omega
  refine seq_i fun N hN => ?_
  dsimp only [DL.dAnd, DL.dAndV, DL.dAny, DL.dAppend, DL.dAsg, DL.dB, DL.dBreak, DL.dC, DL.dCall, DL.dChain, DL.dCons, DL.dConsA, DL.dCont, DL.dDrop, DL.dEnumL, DL.dEnumT, DL.dFld, DL.dFldO, DL.dFldSet, DL.dFmt, DL.dFn, DL.dFor, DL.dFresh, DL.dGet1, DL.dGet2, DL.dIfE, DL.dIfS, DL.dInK, DL.dIsi, DL.dIsiO, DL.dJoin, DL.dKeys, DL.dLenSc, DL.dLenSet, DL.dLenSk, DL.dLock, DL.dLockS, DL.dMth, DL.dNeg, DL.dNever, DL.dNext, DL.dNil, DL.dNilA, DL.dNone, DL.dNot, DL.dNotV, DL.dOp, DL.dOr, DL.dOrV, DL.dPar, DL.dPut, DL.dRet, DL.dRetN, DL.dRng1, DL.dRng2, DL.dSeq, DL.dSet, DL.dSetO, DL.dSl, DL.dSome, DL.dTruth, DL.dTup, DL.dVar, DL.dView, DL.dViewT, DL.dYes, DL.dZip, DL.fDc, DL.fDictP, DL.fDictPT, DL.fDisp, DL.fLc, DL.fListT, DL.fLock, DL.fLst, DL.fMake, DL.fMakeK, DL.fMakeL, DL.fNew, DL.gAdd, DL.gBools, DL.gCmp, DL.gConsD, DL.gDin, DL.gEq, DL.gEqO, DL.gGe, DL.gGet, DL.gGt, DL.gI, DL.gIb, DL.gIc, DL.gIn, DL.gInO, DL.gInt, DL.gIsN, DL.gIx, DL.gLe, DL.gLen, DL.gLenO, DL.gLt, DL.gNameD, DL.gNe, DL.gNilD, DL.gNotN, DL.gRepr, DL.gSl, DL.gSorted, DL.gStrI, DL.gStrO, DL.gStrS, DL.gSum, DL.gTupD, DL.gTuple, DL.jCons, DL.jNil, DL.pCons, DL.pNil, startD, isiB, List.map_cons, List.map_nil, List.cons_append, List.nil_append, List.length_cons, List.length_nil, List.set_cons_zero, List.set_cons_succ, List.getElem?_cons_zero, List.getElem?_cons_succ, List.replicate]
  refine ⟨by omega, by omega, hN _ ?_⟩
  clear hN N
  refine seq_cut (fun ρ' => ∃ (oe os ob : Option DL.D) (r4 r5 : Ent), PartOk DL.D.str es oe ∧ PartOk Stp.D xs os ∧ PartOk Bnd.D bs ob ∧ ρ' = [.dat .stm, .dat (.tup [.int h, .tup (es.map DL.D.str), .tup (xs.map Stp.D), .tup (bs.map Bnd.D)]), .dat (planD CP h es xs bs), .ol true ((pairsP h oe os ob).map mkP), r4, r5, .un, .un, .un, .un, .un]) ?rest fun N hN => ?_
  rotate_left
  · dsimp only [DL.dAnd, DL.dAndV, DL.dAny, DL.dAppend, DL.dAsg, DL.dB, DL.dBreak, DL.dC, DL.dCall, DL.dChain, DL.dCons, DL.dConsA, DL.dCont, DL.dDrop, DL.dEnumL, DL.dEnumT, DL.dFld, DL.dFldO, DL.dFldSet, DL.dFmt, DL.dFn, DL.dFor, DL.dFresh, DL.dGet1, DL.dGet2, DL.dIfE, DL.dIfS, DL.dInK, DL.dIsi, DL.dIsiO, DL.dJoin, DL.dKeys, DL.dLenSc, DL.dLenSet, DL.dLenSk, DL.dLock, DL.dLockS, DL.dMth, DL.dNeg, DL.dNever, DL.dNext, DL.dNil, DL.dNilA, DL.dNone, DL.dNot, DL.dNotV, DL.dOp, DL.dOr, DL.dOrV, DL.dPar, DL.dPut, DL.dRet, DL.dRetN, DL.dRng1, DL.dRng2, DL.dSeq, DL.dSet, DL.dSetO, DL.dSl, DL.dSome, DL.dTruth, DL.dTup, DL.dVar, DL.dView, DL.dViewT, DL.dYes, DL.dZip, DL.fDc, DL.fDictP, DL.fDictPT, DL.fDisp, DL.fLc, DL.fListT, DL.fLock, DL.fLst, DL.fMake, DL.fMakeK, DL.fMakeL, DL.fNew, DL.gAdd, DL.gBools, DL.gCmp, DL.gConsD, DL.gDin, DL.gEq, DL.gEqO, DL.gGe, DL.gGet, DL.gGt, DL.gI, DL.gIb, DL.gIc, DL.gIn, DL.gInO, DL.gInt, DL.gIsN, DL.gIx, DL.gLe, DL.gLen, DL.gLenO, DL.gLt, DL.gNameD, DL.gNe, DL.gNilD, DL.gNotN, DL.gRepr, DL.gSl, DL.gSorted, DL.gStrI, DL.gStrO, DL.gStrS, DL.gSum, DL.gTupD, DL.gTuple, DL.jCons, DL.jNil, DL.pCons, DL.pNil, startD, isiB, List.map_cons, List.map_nil, List.cons_append, List.nil_append, List.length_cons, List.length_nil, List.set_cons_zero, List.set_cons_succ, List.getElem?_cons_zero, List.getElem?_cons_succ, List.replicate]
    rw [show DL.cutD [DL.D.int h, .tup (es.map DL.D.str), .tup (xs.map Stp.D), .tup (bs.map Bnd.D)] (some 1) none = [.tup (es.map DL.D.str), .tup (xs.map Stp.D), .tup (bs.map Bnd.D)] from by unfold DL.cutD HT.sIx; simp]
    rw [show pairsD [DL.D.str (Str.ofString "events"), DL.D.str (Str.ofString "steps"), DL.D.str (Str.ofString "bounds")] [.tup (es.map DL.D.str), .tup (xs.map Stp.D), .tup (bs.map Bnd.D)] = [.tup [.str kE, .tup (es.map DL.D.str)], .tup [.str kS, .tup (xs.map Stp.D)], .tup [.str kB, .tup (bs.map Bnd.D)]] from rfl]
    refine ⟨by omega, ?_⟩
    refine for_cons (fun ρ' => ∃ (oe : Option DL.D) (r4 r5 : Ent), PartOk DL.D.str es oe ∧ ρ' = [.dat .stm, .dat (.tup [.int h, .tup (es.map DL.D.str), .tup (xs.map Stp.D), .tup (bs.map Bnd.D)]), .dat (planD CP h es xs bs), .ol true ((pairsP h oe none none).map mkP), r4, r5, .un, .un, .un, .un, .un]) (fun ρ1 h1 => ?_) fun N1 hN1 => ?_
    rotate_left
    · dsimp only [gTupD, gConsD, gNilD, gNameD, List.set]
      refine And.intro rfl (ifs_i (fun b => b = false → es = []) (fun Q hQ => ?_) (fun _ => ?_) (fun c => hN1 _ ⟨none, _, _, .out (c rfl), rfl⟩))
      · dsimp only [DL.dAnd, DL.dAndV, DL.dAny, DL.dAppend, DL.dAsg, DL.dB, DL.dBreak, DL.dC, DL.dCall, DL.dChain, DL.dCons, DL.dConsA, DL.dCont, DL.dDrop, DL.dEnumL, DL.dEnumT, DL.dFld, DL.dFldO, DL.dFldSet, DL.dFmt, DL.dFn, DL.dFor, DL.dFresh, DL.dGet1, DL.dGet2, DL.dIfE, DL.dIfS, DL.dInK, DL.dIsi, DL.dIsiO, DL.dJoin, DL.dKeys, DL.dLenSc, DL.dLenSet, DL.dLenSk, DL.dLock, DL.dLockS, DL.dMth, DL.dNeg, DL.dNever, DL.dNext, DL.dNil, DL.dNilA, DL.dNone, DL.dNot, DL.dNotV, DL.dOp, DL.dOr, DL.dOrV, DL.dPar, DL.dPut, DL.dRet, DL.dRetN, DL.dRng1, DL.dRng2, DL.dSeq, DL.dSet, DL.dSetO, DL.dSl, DL.dSome, DL.dTruth, DL.dTup, DL.dVar, DL.dView, DL.dViewT, DL.dYes, DL.dZip, DL.fDc, DL.fDictP, DL.fDictPT, DL.fDisp, DL.fLc, DL.fListT, DL.fLock, DL.fLst, DL.fMake, DL.fMakeK, DL.fMakeL, DL.fNew, DL.gAdd, DL.gBools, DL.gCmp, DL.gConsD, DL.gDin, DL.gEq, DL.gEqO, DL.gGe, DL.gGet, DL.gGt, DL.gI, DL.gIb, DL.gIc, DL.gIn, DL.gInO, DL.gInt, DL.gIsN, DL.gIx, DL.gLe, DL.gLen, DL.gLenO, DL.gLt, DL.gNameD, DL.gNe, DL.gNilD, DL.gNotN, DL.gRepr, DL.gSl, DL.gSorted, DL.gStrI, DL.gStrO, DL.gStrS, DL.gSum, DL.gTupD, DL.gTuple, DL.jCons, DL.jNil, DL.pCons, DL.pNil, startD, isiB, List.map_cons, List.map_nil, List.cons_append, List.nil_append, List.length_cons, List.length_nil, List.set_cons_zero, List.set_cons_succ, List.getElem?_cons_zero, List.getElem?_cons_succ, List.replicate]
        refine ⟨z0, hec, nc, if_c (fun _ => hQ _ nofun) fun c => ⟨2, rfl, by decide, by decide, fun v v0 v1 => ⟨int_cmp _, int_cmp _, hQ _ fun _ => nil_of _ _ (Bool.eq_false_iff.mpr c)⟩⟩⟩
      · dsimp only [DL.dAnd, DL.dAndV, DL.dAny, DL.dAppend, DL.dAsg, DL.dB, DL.dBreak, DL.dC, DL.dCall, DL.dChain, DL.dCons, DL.dConsA, DL.dCont, DL.dDrop, DL.dEnumL, DL.dEnumT, DL.dFld, DL.dFldO, DL.dFldSet, DL.dFmt, DL.dFn, DL.dFor, DL.dFresh, DL.dGet1, DL.dGet2, DL.dIfE, DL.dIfS, DL.dInK, DL.dIsi, DL.dIsiO, DL.dJoin, DL.dKeys, DL.dLenSc, DL.dLenSet, DL.dLenSk, DL.dLock, DL.dLockS, DL.dMth, DL.dNeg, DL.dNever, DL.dNext, DL.dNil, DL.dNilA, DL.dNone, DL.dNot, DL.dNotV, DL.dOp, DL.dOr, DL.dOrV, DL.dPar, DL.dPut, DL.dRet, DL.dRetN, DL.dRng1, DL.dRng2, DL.dSeq, DL.dSet, DL.dSetO, DL.dSl, DL.dSome, DL.dTruth, DL.dTup, DL.dVar, DL.dView, DL.dViewT, DL.dYes, DL.dZip, DL.fDc, DL.fDictP, DL.fDictPT, DL.fDisp, DL.fLc, DL.fListT, DL.fLock, DL.fLst, DL.fMake, DL.fMakeK, DL.fMakeL, DL.fNew, DL.gAdd, DL.gBools, DL.gCmp, DL.gConsD, DL.gDin, DL.gEq, DL.gEqO, DL.gGe, DL.gGet, DL.gGt, DL.gI, DL.gIb, DL.gIc, DL.gIn, DL.gInO, DL.gInt, DL.gIsN, DL.gIx, DL.gLe, DL.gLen, DL.gLenO, DL.gLt, DL.gNameD, DL.gNe, DL.gNilD, DL.gNotN, DL.gRepr, DL.gSl, DL.gSorted, DL.gStrI, DL.gStrO, DL.gStrS, DL.gSum, DL.gTupD, DL.gTuple, DL.jCons, DL.jNil, DL.pCons, DL.pNil, startD, isiB, List.map_cons, List.map_nil, List.cons_append, List.nil_append, List.length_cons, List.length_nil, List.set_cons_zero, List.set_cons_succ, List.getElem?_cons_zero, List.getElem?_cons_succ, List.replicate]
        refine ⟨es.map DL.D.str, .inl rfl, by rw [List.length_map]; omega, fun ys pm => ?_⟩
        obtain ⟨l', rfl, pl⟩ := strs_of pm
        refine ⟨by omega, ?_, hN1 _ ⟨some _, _, _, .put pl, rfl⟩⟩
        omega
    obtain ⟨oe, r4, r5, he, rfl⟩ := h1
    refine for_cons (fun ρ' => ∃ (oe os : Option DL.D) (r4 r5 : Ent), PartOk DL.D.str es oe ∧ PartOk Stp.D xs os ∧ ρ' = [.dat .stm, .dat (.tup [.int h, .tup (es.map DL.D.str), .tup (xs.map Stp.D), .tup (bs.map Bnd.D)]), .dat (planD CP h es xs bs), .ol true ((pairsP h oe os none).map mkP), r4, r5, .un, .un, .un, .un, .un]) (fun ρ1 h1 => ?_) fun N1 hN1 => ?_
    rotate_left
    · dsimp only [gTupD, gConsD, gNilD, gNameD, List.set]
      refine And.intro rfl (ifs_i (fun b => b = false → xs = []) (fun Q hQ => ?_) (fun _ => ?_) (fun c => hN1 _ ⟨oe, none, _, _, he, .out (c rfl), by cases oe <;> rfl⟩))
      · dsimp only [DL.dAnd, DL.dAndV, DL.dAny, DL.dAppend, DL.dAsg, DL.dB, DL.dBreak, DL.dC, DL.dCall, DL.dChain, DL.dCons, DL.dConsA, DL.dCont, DL.dDrop, DL.dEnumL, DL.dEnumT, DL.dFld, DL.dFldO, DL.dFldSet, DL.dFmt, DL.dFn, DL.dFor, DL.dFresh, DL.dGet1, DL.dGet2, DL.dIfE, DL.dIfS, DL.dInK, DL.dIsi, DL.dIsiO, DL.dJoin, DL.dKeys, DL.dLenSc, DL.dLenSet, DL.dLenSk, DL.dLock, DL.dLockS, DL.dMth, DL.dNeg, DL.dNever, DL.dNext, DL.dNil, DL.dNilA, DL.dNone, DL.dNot, DL.dNotV, DL.dOp, DL.dOr, DL.dOrV, DL.dPar, DL.dPut, DL.dRet, DL.dRetN, DL.dRng1, DL.dRng2, DL.dSeq, DL.dSet, DL.dSetO, DL.dSl, DL.dSome, DL.dTruth, DL.dTup, DL.dVar, DL.dView, DL.dViewT, DL.dYes, DL.dZip, DL.fDc, DL.fDictP, DL.fDictPT, DL.fDisp, DL.fLc, DL.fListT, DL.fLock, DL.fLst, DL.fMake, DL.fMakeK, DL.fMakeL, DL.fNew, DL.gAdd, DL.gBools, DL.gCmp, DL.gConsD, DL.gDin, DL.gEq, DL.gEqO, DL.gGe, DL.gGet, DL.gGt, DL.gI, DL.gIb, DL.gIc, DL.gIn, DL.gInO, DL.gInt, DL.gIsN, DL.gIx, DL.gLe, DL.gLen, DL.gLenO, DL.gLt, DL.gNameD, DL.gNe, DL.gNilD, DL.gNotN, DL.gRepr, DL.gSl, DL.gSorted, DL.gStrI, DL.gStrO, DL.gStrS, DL.gSum, DL.gTupD, DL.gTuple, DL.jCons, DL.jNil, DL.pCons, DL.pNil, startD, isiB, List.map_cons, List.map_nil, List.cons_append, List.nil_append, List.length_cons, List.length_nil, List.set_cons_zero, List.set_cons_succ, List.getElem?_cons_zero, List.getElem?_cons_succ, List.replicate]
        refine ⟨z0, hsc, nc, if_c (fun _ => hQ _ nofun) fun c => ⟨2, rfl, by decide, by decide, fun v v0 v1 => ⟨int_cmp _, int_cmp _, hQ _ fun _ => nil_of _ _ (Bool.eq_false_iff.mpr c)⟩⟩⟩
      · dsimp only [DL.dAnd, DL.dAndV, DL.dAny, DL.dAppend, DL.dAsg, DL.dB, DL.dBreak, DL.dC, DL.dCall, DL.dChain, DL.dCons, DL.dConsA, DL.dCont, DL.dDrop, DL.dEnumL, DL.dEnumT, DL.dFld, DL.dFldO, DL.dFldSet, DL.dFmt, DL.dFn, DL.dFor, DL.dFresh, DL.dGet1, DL.dGet2, DL.dIfE, DL.dIfS, DL.dInK, DL.dIsi, DL.dIsiO, DL.dJoin, DL.dKeys, DL.dLenSc, DL.dLenSet, DL.dLenSk, DL.dLock, DL.dLockS, DL.dMth, DL.dNeg, DL.dNever, DL.dNext, DL.dNil, DL.dNilA, DL.dNone, DL.dNot, DL.dNotV, DL.dOp, DL.dOr, DL.dOrV, DL.dPar, DL.dPut, DL.dRet, DL.dRetN, DL.dRng1, DL.dRng2, DL.dSeq, DL.dSet, DL.dSetO, DL.dSl, DL.dSome, DL.dTruth, DL.dTup, DL.dVar, DL.dView, DL.dViewT, DL.dYes, DL.dZip, DL.fDc, DL.fDictP, DL.fDictPT, DL.fDisp, DL.fLc, DL.fListT, DL.fLock, DL.fLst, DL.fMake, DL.fMakeK, DL.fMakeL, DL.fNew, DL.gAdd, DL.gBools, DL.gCmp, DL.gConsD, DL.gDin, DL.gEq, DL.gEqO, DL.gGe, DL.gGet, DL.gGt, DL.gI, DL.gIb, DL.gIc, DL.gIn, DL.gInO, DL.gInt, DL.gIsN, DL.gIx, DL.gLe, DL.gLen, DL.gLenO, DL.gLt, DL.gNameD, DL.gNe, DL.gNilD, DL.gNotN, DL.gRepr, DL.gSl, DL.gSorted, DL.gStrI, DL.gStrO, DL.gStrS, DL.gSum, DL.gTupD, DL.gTuple, DL.jCons, DL.jNil, DL.pCons, DL.pNil, startD, isiB, List.map_cons, List.map_nil, List.cons_append, List.nil_append, List.length_cons, List.length_nil, List.set_cons_zero, List.set_cons_succ, List.getElem?_cons_zero, List.getElem?_cons_succ, List.replicate]
        refine ⟨xs.map Stp.D, .inl rfl, by rw [List.length_map]; omega, fun ys pm => ?_⟩
        obtain ⟨l', rfl, pl⟩ := steps_of pm
        refine ⟨by omega, ?_, hN1 _ ⟨oe, some _, _, _, he, .put pl, by cases oe <;> rfl⟩⟩
        simp only [List.length_map, pairsP, List.length_cons, List.length_append]
        have := len_opt kE oe
        have := len_opt kS none
        have := len_opt kB none
        omega
    obtain ⟨oe, os, r4, r5, he, hs, rfl⟩ := h1
    refine for_cons (fun ρ' => ∃ (oe os ob : Option DL.D) (r4 r5 : Ent), PartOk DL.D.str es oe ∧ PartOk Stp.D xs os ∧ PartOk Bnd.D bs ob ∧ ρ' = [.dat .stm, .dat (.tup [.int h, .tup (es.map DL.D.str), .tup (xs.map Stp.D), .tup (bs.map Bnd.D)]), .dat (planD CP h es xs bs), .ol true ((pairsP h oe os ob).map mkP), r4, r5, .un, .un, .un, .un, .un]) (fun ρ1 h1 => ?_) fun N1 hN1 => ?_
    rotate_left
    · dsimp only [gTupD, gConsD, gNilD, gNameD, List.set]
      refine And.intro rfl (ifs_i (fun b => b = false → bs = []) (fun Q hQ => ?_) (fun _ => ?_) (fun c => hN1 _ ⟨oe, os, none, _, _, he, hs, .out (c rfl), by cases oe <;> cases os <;> rfl⟩))
      · dsimp only [DL.dAnd, DL.dAndV, DL.dAny, DL.dAppend, DL.dAsg, DL.dB, DL.dBreak, DL.dC, DL.dCall, DL.dChain, DL.dCons, DL.dConsA, DL.dCont, DL.dDrop, DL.dEnumL, DL.dEnumT, DL.dFld, DL.dFldO, DL.dFldSet, DL.dFmt, DL.dFn, DL.dFor, DL.dFresh, DL.dGet1, DL.dGet2, DL.dIfE, DL.dIfS, DL.dInK, DL.dIsi, DL.dIsiO, DL.dJoin, DL.dKeys, DL.dLenSc, DL.dLenSet, DL.dLenSk, DL.dLock, DL.dLockS, DL.dMth, DL.dNeg, DL.dNever, DL.dNext, DL.dNil, DL.dNilA, DL.dNone, DL.dNot, DL.dNotV, DL.dOp, DL.dOr, DL.dOrV, DL.dPar, DL.dPut, DL.dRet, DL.dRetN, DL.dRng1, DL.dRng2, DL.dSeq, DL.dSet, DL.dSetO, DL.dSl, DL.dSome, DL.dTruth, DL.dTup, DL.dVar, DL.dView, DL.dViewT, DL.dYes, DL.dZip, DL.fDc, DL.fDictP, DL.fDictPT, DL.fDisp, DL.fLc, DL.fListT, DL.fLock, DL.fLst, DL.fMake, DL.fMakeK, DL.fMakeL, DL.fNew, DL.gAdd, DL.gBools, DL.gCmp, DL.gConsD, DL.gDin, DL.gEq, DL.gEqO, DL.gGe, DL.gGet, DL.gGt, DL.gI, DL.gIb, DL.gIc, DL.gIn, DL.gInO, DL.gInt, DL.gIsN, DL.gIx, DL.gLe, DL.gLen, DL.gLenO, DL.gLt, DL.gNameD, DL.gNe, DL.gNilD, DL.gNotN, DL.gRepr, DL.gSl, DL.gSorted, DL.gStrI, DL.gStrO, DL.gStrS, DL.gSum, DL.gTupD, DL.gTuple, DL.jCons, DL.jNil, DL.pCons, DL.pNil, startD, isiB, List.map_cons, List.map_nil, List.cons_append, List.nil_append, List.length_cons, List.length_nil, List.set_cons_zero, List.set_cons_succ, List.getElem?_cons_zero, List.getElem?_cons_succ, List.replicate]
        refine ⟨z0, hbc, nc, if_c (fun _ => hQ _ nofun) fun c => ⟨2, rfl, by decide, by decide, fun v v0 v1 => ⟨int_cmp _, int_cmp _, hQ _ fun _ => nil_of _ _ (Bool.eq_false_iff.mpr c)⟩⟩⟩
      · dsimp only [DL.dAnd, DL.dAndV, DL.dAny, DL.dAppend, DL.dAsg, DL.dB, DL.dBreak, DL.dC, DL.dCall, DL.dChain, DL.dCons, DL.dConsA, DL.dCont, DL.dDrop, DL.dEnumL, DL.dEnumT, DL.dFld, DL.dFldO, DL.dFldSet, DL.dFmt, DL.dFn, DL.dFor, DL.dFresh, DL.dGet1, DL.dGet2, DL.dIfE, DL.dIfS, DL.dInK, DL.dIsi, DL.dIsiO, DL.dJoin, DL.dKeys, DL.dLenSc, DL.dLenSet, DL.dLenSk, DL.dLock, DL.dLockS, DL.dMth, DL.dNeg, DL.dNever, DL.dNext, DL.dNil, DL.dNilA, DL.dNone, DL.dNot, DL.dNotV, DL.dOp, DL.dOr, DL.dOrV, DL.dPar, DL.dPut, DL.dRet, DL.dRetN, DL.dRng1, DL.dRng2, DL.dSeq, DL.dSet, DL.dSetO, DL.dSl, DL.dSome, DL.dTruth, DL.dTup, DL.dVar, DL.dView, DL.dViewT, DL.dYes, DL.dZip, DL.fDc, DL.fDictP, DL.fDictPT, DL.fDisp, DL.fLc, DL.fListT, DL.fLock, DL.fLst, DL.fMake, DL.fMakeK, DL.fMakeL, DL.fNew, DL.gAdd, DL.gBools, DL.gCmp, DL.gConsD, DL.gDin, DL.gEq, DL.gEqO, DL.gGe, DL.gGet, DL.gGt, DL.gI, DL.gIb, DL.gIc, DL.gIn, DL.gInO, DL.gInt, DL.gIsN, DL.gIx, DL.gLe, DL.gLen, DL.gLenO, DL.gLt, DL.gNameD, DL.gNe, DL.gNilD, DL.gNotN, DL.gRepr, DL.gSl, DL.gSorted, DL.gStrI, DL.gStrO, DL.gStrS, DL.gSum, DL.gTupD, DL.gTuple, DL.jCons, DL.jNil, DL.pCons, DL.pNil, startD, isiB, List.map_cons, List.map_nil, List.cons_append, List.nil_append, List.length_cons, List.length_nil, List.set_cons_zero, List.set_cons_succ, List.getElem?_cons_zero, List.getElem?_cons_succ, List.replicate]
        refine ⟨bs.map Bnd.D, .inl rfl, by rw [List.length_map]; omega, fun ys pm => ?_⟩
        obtain ⟨l', rfl, pl⟩ := bounds_of pm
        refine ⟨by omega, ?_, hN1 _ ⟨oe, os, some _, _, _, he, hs, .put pl, by cases oe <;> cases os <;> rfl⟩⟩
        simp only [List.length_map, pairsP, List.length_cons, List.length_append]
        have := len_opt kE oe
        have := len_opt kS os
        have := len_opt kB none
        omega
    obtain ⟨oe, os, ob, r4, r5, he, hs, hb, rfl⟩ := h1
    exact hN _ ⟨oe, os, ob, r4, r5, he, hs, hb, rfl⟩
  rintro ρ' ⟨oe, os, ob, r4, r5, he, hs, hb, rfl⟩
  have gl : ((pairsP h oe os ob).map mkP).length ≤ 4 := by
    have := len_opt kE oe
    have := len_opt kS os
    have := len_opt kB ob
    simp only [List.length_map, pairsP, List.length_cons, List.length_append]
    omega
  refine seq_i fun N hN => ?_
  dsimp only [dShareS, List.map, Ent.view]
  dsimp only [DL.dAnd, DL.dAndV, DL.dAny, DL.dAppend, DL.dAsg, DL.dB, DL.dBreak, DL.dC, DL.dCall, DL.dChain, DL.dCons, DL.dConsA, DL.dCont, DL.dDrop, DL.dEnumL, DL.dEnumT, DL.dFld, DL.dFldO, DL.dFldSet, DL.dFmt, DL.dFn, DL.dFor, DL.dFresh, DL.dGet1, DL.dGet2, DL.dIfE, DL.dIfS, DL.dInK, DL.dIsi, DL.dIsiO, DL.dJoin, DL.dKeys, DL.dLenSc, DL.dLenSet, DL.dLenSk, DL.dLock, DL.dLockS, DL.dMth, DL.dNeg, DL.dNever, DL.dNext, DL.dNil, DL.dNilA, DL.dNone, DL.dNot, DL.dNotV, DL.dOp, DL.dOr, DL.dOrV, DL.dPar, DL.dPut, DL.dRet, DL.dRetN, DL.dRng1, DL.dRng2, DL.dSeq, DL.dSet, DL.dSetO, DL.dSl, DL.dSome, DL.dTruth, DL.dTup, DL.dVar, DL.dView, DL.dViewT, DL.dYes, DL.dZip, DL.fDc, DL.fDictP, DL.fDictPT, DL.fDisp, DL.fLc, DL.fListT, DL.fLock, DL.fLst, DL.fMake, DL.fMakeK, DL.fMakeL, DL.fNew, DL.gAdd, DL.gBools, DL.gCmp, DL.gConsD, DL.gDin, DL.gEq, DL.gEqO, DL.gGe, DL.gGet, DL.gGt, DL.gI, DL.gIb, DL.gIc, DL.gIn, DL.gInO, DL.gInt, DL.gIsN, DL.gIx, DL.gLe, DL.gLen, DL.gLenO, DL.gLt, DL.gNameD, DL.gNe, DL.gNilD, DL.gNotN, DL.gRepr, DL.gSl, DL.gSorted, DL.gStrI, DL.gStrO, DL.gStrS, DL.gSum, DL.gTupD, DL.gTuple, DL.jCons, DL.jNil, DL.pCons, DL.pNil, startD, isiB, List.map_cons, List.map_nil, List.cons_append, List.nil_append, List.length_cons, List.length_nil, List.set_cons_zero, List.set_cons_succ, List.getElem?_cons_zero, List.getElem?_cons_succ, List.replicate]
  refine ⟨_, .inr ⟨_, rfl⟩, by omega, fun ys pm => ?_⟩
  obtain ⟨vs, pv, rfl⟩ := perm_map pm rfl
  dsimp only
  refine ⟨vs, rfl, fun p m => ?_, hN _ ?_⟩
  · obtain ⟨z, _, ez⟩ := pairs_str (pv.mem_iff.mp m)
    rw [ez]
    rfl
  clear hN N
  rw [vals_merge pv]
  dsimp only [Ent.datum]
  generalize (Ent.view r4) = r4
  generalize (Ent.view r5) = r5
  obtain ⟨vp, vz⟩ := vals_repr k he hs hb pv
  obtain ⟨es', xs', bs', pe, px, pb, ov⟩ := vals_ok he hs hb pv
  have po := planF_one (h := h) k.ok pe px pb
  refine seq_i fun N hN => ?_
  dsimp only [DL.dAnd, DL.dAndV, DL.dAny, DL.dAppend, DL.dAsg, DL.dB, DL.dBreak, DL.dC, DL.dCall, DL.dChain, DL.dCons, DL.dConsA, DL.dCont, DL.dDrop, DL.dEnumL, DL.dEnumT, DL.dFld, DL.dFldO, DL.dFldSet, DL.dFmt, DL.dFn, DL.dFor, DL.dFresh, DL.dGet1, DL.dGet2, DL.dIfE, DL.dIfS, DL.dInK, DL.dIsi, DL.dIsiO, DL.dJoin, DL.dKeys, DL.dLenSc, DL.dLenSet, DL.dLenSk, DL.dLock, DL.dLockS, DL.dMth, DL.dNeg, DL.dNever, DL.dNext, DL.dNil, DL.dNilA, DL.dNone, DL.dNot, DL.dNotV, DL.dOp, DL.dOr, DL.dOrV, DL.dPar, DL.dPut, DL.dRet, DL.dRetN, DL.dRng1, DL.dRng2, DL.dSeq, DL.dSet, DL.dSetO, DL.dSl, DL.dSome, DL.dTruth, DL.dTup, DL.dVar, DL.dView, DL.dViewT, DL.dYes, DL.dZip, DL.fDc, DL.fDictP, DL.fDictPT, DL.fDisp, DL.fLc, DL.fListT, DL.fLock, DL.fLst, DL.fMake, DL.fMakeK, DL.fMakeL, DL.fNew, DL.gAdd, DL.gBools, DL.gCmp, DL.gConsD, DL.gDin, DL.gEq, DL.gEqO, DL.gGe, DL.gGet, DL.gGt, DL.gI, DL.gIb, DL.gIc, DL.gIn, DL.gInO, DL.gInt, DL.gIsN, DL.gIx, DL.gLe, DL.gLen, DL.gLenO, DL.gLt, DL.gNameD, DL.gNe, DL.gNilD, DL.gNotN, DL.gRepr, DL.gSl, DL.gSorted, DL.gStrI, DL.gStrO, DL.gStrS, DL.gSum, DL.gTupD, DL.gTuple, DL.jCons, DL.jNil, DL.pCons, DL.pNil, startD, isiB, List.map_cons, List.map_nil, List.cons_append, List.nil_append, List.length_cons, List.length_nil, List.set_cons_zero, List.set_cons_succ, List.getElem?_cons_zero, List.getElem?_cons_succ, List.replicate]
  refine ⟨vp, vz, hN _ ?_⟩
  clear hN N
  generalize hsh : (dictPy vs).shown = S
  refine seq_i fun N hN => ?_
  dsimp only [DL.dAnd, DL.dAndV, DL.dAny, DL.dAppend, DL.dAsg, DL.dB, DL.dBreak, DL.dC, DL.dCall, DL.dChain, DL.dCons, DL.dConsA, DL.dCont, DL.dDrop, DL.dEnumL, DL.dEnumT, DL.dFld, DL.dFldO, DL.dFldSet, DL.dFmt, DL.dFn, DL.dFor, DL.dFresh, DL.dGet1, DL.dGet2, DL.dIfE, DL.dIfS, DL.dInK, DL.dIsi, DL.dIsiO, DL.dJoin, DL.dKeys, DL.dLenSc, DL.dLenSet, DL.dLenSk, DL.dLock, DL.dLockS, DL.dMth, DL.dNeg, DL.dNever, DL.dNext, DL.dNil, DL.dNilA, DL.dNone, DL.dNot, DL.dNotV, DL.dOp, DL.dOr, DL.dOrV, DL.dPar, DL.dPut, DL.dRet, DL.dRetN, DL.dRng1, DL.dRng2, DL.dSeq, DL.dSet, DL.dSetO, DL.dSl, DL.dSome, DL.dTruth, DL.dTup, DL.dVar, DL.dView, DL.dViewT, DL.dYes, DL.dZip, DL.fDc, DL.fDictP, DL.fDictPT, DL.fDisp, DL.fLc, DL.fListT, DL.fLock, DL.fLst, DL.fMake, DL.fMakeK, DL.fMakeL, DL.fNew, DL.gAdd, DL.gBools, DL.gCmp, DL.gConsD, DL.gDin, DL.gEq, DL.gEqO, DL.gGe, DL.gGet, DL.gGt, DL.gI, DL.gIb, DL.gIc, DL.gIn, DL.gInO, DL.gInt, DL.gIsN, DL.gIx, DL.gLe, DL.gLen, DL.gLenO, DL.gLt, DL.gNameD, DL.gNe, DL.gNilD, DL.gNotN, DL.gRepr, DL.gSl, DL.gSorted, DL.gStrI, DL.gStrO, DL.gStrS, DL.gSum, DL.gTupD, DL.gTuple, DL.jCons, DL.jNil, DL.pCons, DL.pNil, startD, isiB, List.map_cons, List.map_nil, List.cons_append, List.nil_append, List.length_cons, List.length_nil, List.set_cons_zero, List.set_cons_succ, List.getElem?_cons_zero, List.getElem?_cons_succ, List.replicate]
  refine ⟨vs, h, es', xs', bs', rfl, ov, k.h0, k.h1, k.ok.perm pe px pb, h, es, xs, bs, rfl, k, fun h2 es2 xs2 bs2 k2 => hN _ ?_⟩
  clear hN N
  rw [show planD CP h es' xs' bs' = planD CP h es xs bs from congrArg (D.obj CP) po]
  refine seq_i fun N hN => ?_
  refine ifs_i (fun b => b = false) (fun Q hQ => ?_) (fun c => by cases c) fun _ => hN _ ?_
  · dsimp only [DL.dAnd, DL.dAndV, DL.dAny, DL.dAppend, DL.dAsg, DL.dB, DL.dBreak, DL.dC, DL.dCall, DL.dChain, DL.dCons, DL.dConsA, DL.dCont, DL.dDrop, DL.dEnumL, DL.dEnumT, DL.dFld, DL.dFldO, DL.dFldSet, DL.dFmt, DL.dFn, DL.dFor, DL.dFresh, DL.dGet1, DL.dGet2, DL.dIfE, DL.dIfS, DL.dInK, DL.dIsi, DL.dIsiO, DL.dJoin, DL.dKeys, DL.dLenSc, DL.dLenSet, DL.dLenSk, DL.dLock, DL.dLockS, DL.dMth, DL.dNeg, DL.dNever, DL.dNext, DL.dNil, DL.dNilA, DL.dNone, DL.dNot, DL.dNotV, DL.dOp, DL.dOr, DL.dOrV, DL.dPar, DL.dPut, DL.dRet, DL.dRetN, DL.dRng1, DL.dRng2, DL.dSeq, DL.dSet, DL.dSetO, DL.dSl, DL.dSome, DL.dTruth, DL.dTup, DL.dVar, DL.dView, DL.dViewT, DL.dYes, DL.dZip, DL.fDc, DL.fDictP, DL.fDictPT, DL.fDisp, DL.fLc, DL.fListT, DL.fLock, DL.fLst, DL.fMake, DL.fMakeK, DL.fMakeL, DL.fNew, DL.gAdd, DL.gBools, DL.gCmp, DL.gConsD, DL.gDin, DL.gEq, DL.gEqO, DL.gGe, DL.gGet, DL.gGt, DL.gI, DL.gIb, DL.gIc, DL.gIn, DL.gInO, DL.gInt, DL.gIsN, DL.gIx, DL.gLe, DL.gLen, DL.gLenO, DL.gLt, DL.gNameD, DL.gNe, DL.gNilD, DL.gNotN, DL.gRepr, DL.gSl, DL.gSorted, DL.gStrI, DL.gStrO, DL.gStrS, DL.gSum, DL.gTupD, DL.gTuple, DL.jCons, DL.jNil, DL.pCons, DL.pNil, startD, isiB, List.map_cons, List.map_nil, List.cons_append, List.nil_append, List.length_cons, List.length_nil, List.set_cons_zero, List.set_cons_succ, List.getElem?_cons_zero, List.getElem?_cons_succ, List.replicate]
    refine ⟨h, es, xs, bs, rfl, k, ?_⟩
    refine ifn (by decide) ⟨vp, vz, ?_⟩
    rw [hsh]
    exact eqS_same (hQ _ rfl)
  clear hN N
  have bc : ∀ b : Bool, D.cmp (.bl b) = true := by decide
  have pn : ∀ C fs, planD CP h es xs bs = .obj C fs → C = CP := fun C fs e => by injection e with e _; exact e.symm
  refine seq_i fun N hN => ?_
  refine ifs_i (fun b => b = false) (fun Q hQ => ?_) (fun c => by cases c) fun _ => hN _ ?_
  · dsimp only [DL.dAnd, DL.dAndV, DL.dAny, DL.dAppend, DL.dAsg, DL.dB, DL.dBreak, DL.dC, DL.dCall, DL.dChain, DL.dCons, DL.dConsA, DL.dCont, DL.dDrop, DL.dEnumL, DL.dEnumT, DL.dFld, DL.dFldO, DL.dFldSet, DL.dFmt, DL.dFn, DL.dFor, DL.dFresh, DL.dGet1, DL.dGet2, DL.dIfE, DL.dIfS, DL.dInK, DL.dIsi, DL.dIsiO, DL.dJoin, DL.dKeys, DL.dLenSc, DL.dLenSet, DL.dLenSk, DL.dLock, DL.dLockS, DL.dMth, DL.dNeg, DL.dNever, DL.dNext, DL.dNil, DL.dNilA, DL.dNone, DL.dNot, DL.dNotV, DL.dOp, DL.dOr, DL.dOrV, DL.dPar, DL.dPut, DL.dRet, DL.dRetN, DL.dRng1, DL.dRng2, DL.dSeq, DL.dSet, DL.dSetO, DL.dSl, DL.dSome, DL.dTruth, DL.dTup, DL.dVar, DL.dView, DL.dViewT, DL.dYes, DL.dZip, DL.fDc, DL.fDictP, DL.fDictPT, DL.fDisp, DL.fLc, DL.fListT, DL.fLock, DL.fLst, DL.fMake, DL.fMakeK, DL.fMakeL, DL.fNew, DL.gAdd, DL.gBools, DL.gCmp, DL.gConsD, DL.gDin, DL.gEq, DL.gEqO, DL.gGe, DL.gGet, DL.gGt, DL.gI, DL.gIb, DL.gIc, DL.gIn, DL.gInO, DL.gInt, DL.gIsN, DL.gIx, DL.gLe, DL.gLen, DL.gLenO, DL.gLt, DL.gNameD, DL.gNe, DL.gNilD, DL.gNotN, DL.gRepr, DL.gSl, DL.gSorted, DL.gStrI, DL.gStrO, DL.gStrS, DL.gSum, DL.gTupD, DL.gTuple, DL.jCons, DL.jNil, DL.pCons, DL.pNil, startD, isiB, List.map_cons, List.map_nil, List.cons_append, List.nil_append, List.length_cons, List.length_nil, List.set_cons_zero, List.set_cons_succ, List.getElem?_cons_zero, List.getElem?_cons_succ, List.replicate]
    have e1 := eqPlan_refl k
    have e2 := eqPlan_same k k2
    have pn2 : ∀ C fs, planD CP h2 es2 xs2 bs2 = .obj C fs → C = CP := fun C fs e => by injection e with e _; exact e.symm
    refine ⟨rfl, pn, h, es, xs, bs, _, rfl, .inl ⟨h, es, xs, bs, rfl, k.ok, k.ok, _, rfl, ?_⟩⟩
    rw [e1]
    refine ifn (by decide) ⟨rfl, pn, h, es, xs, bs, _, rfl, .inl ⟨h, es, xs, bs, rfl, k.ok, k.ok, _, rfl, ?_⟩⟩
    rw [e1]
    refine ifn (by decide) ⟨h2, es2, xs2, bs2, rfl, k2, rfl, pn2, h, es, xs, bs, _, rfl, .inl ⟨h2, es2, xs2, bs2, rfl, k.ok, k2.ok, _, rfl, plain_cmp k2, plain_cmp k, bc _, bc _, ?_⟩⟩
    rw [e2]
    have z : ∀ b : Bool, (!eqD (.bl (id b)) (.bl b)) = false := by decide
    exact hQ _ (z _)
  clear hN N
  (dsimp only [DL.dRet, List.map, DL.Ent.view]; dsimp only [DL.dAnd, DL.dAndV, DL.dAny, DL.dAppend, DL.dAsg, DL.dB, DL.dBreak, DL.dC, DL.dCall, DL.dChain, DL.dCons, DL.dConsA, DL.dCont, DL.dDrop, DL.dEnumL, DL.dEnumT, DL.dFld, DL.dFldO, DL.dFldSet, DL.dFmt, DL.dFn, DL.dFor, DL.dFresh, DL.dGet1, DL.dGet2, DL.dIfE, DL.dIfS, DL.dInK, DL.dIsi, DL.dIsiO, DL.dJoin, DL.dKeys, DL.dLenSc, DL.dLenSet, DL.dLenSk, DL.dLock, DL.dLockS, DL.dMth, DL.dNeg, DL.dNever, DL.dNext, DL.dNil, DL.dNilA, DL.dNone, DL.dNot, DL.dNotV, DL.dOp, DL.dOr, DL.dOrV, DL.dPar, DL.dPut, DL.dRet, DL.dRetN, DL.dRng1, DL.dRng2, DL.dSeq, DL.dSet, DL.dSetO, DL.dSl, DL.dSome, DL.dTruth, DL.dTup, DL.dVar, DL.dView, DL.dViewT, DL.dYes, DL.dZip, DL.fDc, DL.fDictP, DL.fDictPT, DL.fDisp, DL.fLc, DL.fListT, DL.fLock, DL.fLst, DL.fMake, DL.fMakeK, DL.fMakeL, DL.fNew, DL.gAdd, DL.gBools, DL.gCmp, DL.gConsD, DL.gDin, DL.gEq, DL.gEqO, DL.gGe, DL.gGet, DL.gGt, DL.gI, DL.gIb, DL.gIc, DL.gIn, DL.gInO, DL.gInt, DL.gIsN, DL.gIx, DL.gLe, DL.gLen, DL.gLenO, DL.gLt, DL.gNameD, DL.gNe, DL.gNilD, DL.gNotN, DL.gRepr, DL.gSl, DL.gSorted, DL.gStrI, DL.gStrO, DL.gStrS, DL.gSum, DL.gTupD, DL.gTuple, DL.jCons, DL.jNil, DL.pCons, DL.pNil, startD, isiB, List.map_cons, List.map_nil, List.cons_append, List.nil_append, List.length_cons, List.length_nil, List.set_cons_zero, List.set_cons_succ, List.getElem?_cons_zero, List.getElem?_cons_succ, List.replicate])
  have l1 : es.length < 100 := by omega
  have l2 : xs.length < 100 := by omega
  have l3 : bs.length < 100 := by omega
  refine ⟨rfl, h, es, xs, bs, rfl, l1, l2, l3, _, rfl, z0, by omega, by omega, lc_none _ [] (fun d m R hR => ?_) ⟨z0, by decide, by decide, q⟩⟩
  simp only [List.mem_cons, List.mem_nil_iff, or_false] at m
  have no : (∀ C fs, d ≠ .obj C fs) ∧ d ≠ .stm ∧ ∀ ns, d ≠ .scr ns := by
    rcases m with rfl | rfl | rfl | rfl | rfl | rfl | rfl | rfl <;> exact ⟨nofun, nofun, nofun⟩
  clear m
  dsimp only [wipeE]
  dsimp only [DL.dAnd, DL.dAndV, DL.dAny, DL.dAppend, DL.dAsg, DL.dB, DL.dBreak, DL.dC, DL.dCall, DL.dChain, DL.dCons, DL.dConsA, DL.dCont, DL.dDrop, DL.dEnumL, DL.dEnumT, DL.dFld, DL.dFldO, DL.dFldSet, DL.dFmt, DL.dFn, DL.dFor, DL.dFresh, DL.dGet1, DL.dGet2, DL.dIfE, DL.dIfS, DL.dInK, DL.dIsi, DL.dIsiO, DL.dJoin, DL.dKeys, DL.dLenSc, DL.dLenSet, DL.dLenSk, DL.dLock, DL.dLockS, DL.dMth, DL.dNeg, DL.dNever, DL.dNext, DL.dNil, DL.dNilA, DL.dNone, DL.dNot, DL.dNotV, DL.dOp, DL.dOr, DL.dOrV, DL.dPar, DL.dPut, DL.dRet, DL.dRetN, DL.dRng1, DL.dRng2, DL.dSeq, DL.dSet, DL.dSetO, DL.dSl, DL.dSome, DL.dTruth, DL.dTup, DL.dVar, DL.dView, DL.dViewT, DL.dYes, DL.dZip, DL.fDc, DL.fDictP, DL.fDictPT, DL.fDisp, DL.fLc, DL.fListT, DL.fLock, DL.fLst, DL.fMake, DL.fMakeK, DL.fMakeL, DL.fNew, DL.gAdd, DL.gBools, DL.gCmp, DL.gConsD, DL.gDin, DL.gEq, DL.gEqO, DL.gGe, DL.gGet, DL.gGt, DL.gI, DL.gIb, DL.gIc, DL.gIn, DL.gInO, DL.gInt, DL.gIsN, DL.gIx, DL.gLe, DL.gLen, DL.gLenO, DL.gLt, DL.gNameD, DL.gNe, DL.gNilD, DL.gNotN, DL.gRepr, DL.gSl, DL.gSorted, DL.gStrI, DL.gStrO, DL.gStrS, DL.gSum, DL.gTupD, DL.gTuple, DL.jCons, DL.jNil, DL.pCons, DL.pNil, startD, isiB, List.map_cons, List.map_nil, List.cons_append, List.nil_append, List.length_cons, List.length_nil, List.set_cons_zero, List.set_cons_succ, List.getElem?_cons_zero, List.getElem?_cons_succ, List.replicate]
  exact ⟨rfl, fun C fs e => absurd e (no.1 C fs), h, es, xs, bs, d, rfl, .inr ⟨no.1, no.2.1, no.2.2, _, rfl, hR _⟩⟩
end
end K05

set_option Elab.async false
set_option linter.all false
set_option maxRecDepth 100000
set_option maxHeartbeats 2000000
namespace K05
open PySem PySem.Spec PyProof.Rows L2 LW RZ DL
theorem okEmpty : okPlain 0 [] [] [] := by
  refine ⟨by decide, by decide, ⟨nofun, nofun, List.nodup_nil, nofun, List.nodup_nil, nofun, List.nodup_nil, by decide, by decide, by decide⟩, .nil, .nil, .nil⟩
def twoP : List (DL.D × DL.D) := [(.str (Str.ofString "horizon"), .int 0), (.str (Str.ofString "bounds"), .tup [])]
theorem twoOk : okVals twoP 0 [] [] [] := by
  obtain ⟨es', xs', bs', pe, px, pb, ov⟩ := vals_ok (h := 0) (es := []) (xs := []) (bs := []) (.out rfl) (.out rfl) (PartOk.put (l' := []) (.refl _)) (List.Perm.refl (pairsP 0 none none (some (.tup []))))
  rw [pe.eq_nil, px.eq_nil, pb.eq_nil] at ov
  exact ov
theorem twoMerge : mergeD [] twoP = twoP := vals_merge (h := 0) (oe := none) (os := none) (ob := some (.tup [])) (List.Perm.refl _)
theorem isPtStart : isPt (.str (Str.ofString "start")) (points (sortE []) (sortS [])) = true := by decide +kernel
section
variable {P : Program} {w : World} {K : PySem.W.Frag} {mg : Str → Option Value} {base : Heap} {tk tk1 tk2 : Tok} {CP : Addr} {BP : FuncData → Prop} {dvs : List V}
abbrev gStream : SpD := fun ds Q _ => ∃ (ns : List Int) (i : Nat), ds = [.scr ns, .int i] ∧ Q .stm
theorem sc_law : FnScope ["script", "at", "stream", "most", "count", "span", "high", "plain", "plan", "empty"] ["script"] (defScope (top 46)) := ⟨rfl, rfl, rfl, by decide +kernel, rfl, by decide +kernel, by decide +kernel⟩
theorem ok_law (T : Bl mg) (co : ClsOk K CP) (C__law_stream : Cal P w K mg base "_law_stream" 1 ["script", "at"] gStream) (C__law_pick : Cal P w K mg base "_law_pick" 2 ["stream", "items"] gPick) (C__law_plan : Cal P w K mg base "_law_plan" 4 ["stream", "most", "most_works", "span", "high"] gPlan) (C__law_built : Cal P w K mg base "_law_built" 10 ["stream", "plain"] (gBuilt CP)) (C__law_told_right : Cal P w K mg base "_law_told_right" 4 ["plain", "plan"] (gTold CP)) (C__law_equal_right : Cal P w K mg base "_law_equal_right" 12 ["stream", "plain", "plan"] (gEqual CP)) (C__law_holds_right : Cal P w K mg base "_law_holds_right" 7 ["stream", "plain", "plan"] (gHolds CP))
    (G_MAX_EVENTS : mg "MAX_EVENTS" = some (.int 10 tk)) (G_MAX_STEPS : mg "MAX_STEPS" = some (.int 5 tk1)) (G_MAX_HORIZON : mg "MAX_HORIZON" = some (.int 99 tk2)) (S_eq : Spc P w K mg base CP "__eq__" 3 ["self", "other"] (gEqP CP)) (S_in : Spc P w K mg base CP "__contains__" 5 ["self", "value"] (gCont CP)) (L_len : Spc P w K mg base CP "__len__" 1 ["self"] (gLen CP)) (N_Plan_of : Cmt P w K mg base "Plan" CP "of" 10 ["cls", "values"] (gOf CP))
    (I_Plan : Ini P w K mg base "Plan" CP 8 psInit BP gIniP) (B_Plan : ∀ fd, BP fd → ∃ ds, Vals dvs ds ∧ Binds K fd psInit ds) (R_Plan : ∀ W, RepL K W dvs [.tup [], .tup [], .tup []]) {f : Addr} {fd : FuncData} (F : Fun K "law" "law" (top 46) f fd) :
    FnD P w K mg base 14 f fd ["script"] gLaw := by
  refine okD F sc_law (by decide) (by rintro ds Q De ⟨ns, rfl, _⟩; rfl) fun cdv A outer s H E De hgd hr => ⟨_, (dss_cons (ds_for (passes_of rfl) rfl (di_range1 (by rfl) T.«range» (de_callB (call_max2 rfl) l_max (by rfl) T.«max» (by decide +kernel) (da_cons de_int (da_cons (de_callB (call_min2 rfl) l_min (by rfl) T.«min» (by decide +kernel) (da_cons de_int (da_cons (de_callB (call_lenA) l_len (by rfl) T.«len» (by decide +kernel) (da_cons (dv 0) da_nil)) da_nil))) da_nil)))) (dg_name (i := 1) sc_law.nd rfl (.inl rfl))
        (dss_cons (ds_set (i := 2) sc_law.nd rfl (.inl rfl) (de_cal C__law_stream hgd hr (by decide) (by rfl) (passes_call (takes_of rfl rfl rfl rfl) fun _ _ _ _ h => h) (da_cons (dv 0) (da_cons (dv 1) da_nil))))
        (dss_cons (ds_asg (de_cal C__law_pick hgd hr (by decide) (by rfl) (passes_call (takes_of rfl rfl rfl rfl) fun _ _ _ _ h => h) (da_cons (dv 2) (da_cons (de_fresh (df_lst (da_cons (de_tup (da_cons de_int (da_cons de_int (da_cons de_int (da_cons de_int da_nil))))) (da_cons (de_tup (da_cons de_int (da_cons de_int (da_cons de_int (da_cons de_int da_nil))))) (da_cons (de_tup (da_cons de_int (da_cons de_int (da_cons de_int (da_cons de_int da_nil))))) da_nil))))) da_nil))) (dg_tup (n := 4) rfl (dgs_cons (dg_name (i := 3) sc_law.nd rfl (.inl rfl)) (dgs_cons (dg_name (i := 4) sc_law.nd rfl (.inl rfl)) (dgs_cons (dg_name (i := 5) sc_law.nd rfl (.inl rfl)) (dgs_cons (dg_name (i := 6) sc_law.nd rfl (.inl rfl)) dgs_nil))))))
        (dss_cons (ds_set (i := 7) sc_law.nd rfl (.inl rfl) (de_cal C__law_plan hgd hr (by decide) (by rfl) (passes_call (takes_of rfl rfl rfl rfl) fun _ _ _ _ h => h) (da_cons (dv 2) (da_cons (dv 3) (da_cons (dv 4) (da_cons (dv 5) (da_cons (dv 6) da_nil)))))))
        (dss_cons (ds_set (i := 8) sc_law.nd rfl (.inl rfl) (de_cal C__law_built hgd hr (by decide) (by rfl) (passes_call (takes_of rfl rfl rfl rfl) fun _ _ _ _ h => h) (da_cons (dv 2) (da_cons (dv 7) da_nil))))
        (dss_cons (ds_if (DW.dt (dw_or (dt_not (dt_val (de_cal C__law_told_right hgd hr (by decide) (by rfl) (passes_call (takes_of rfl rfl rfl rfl) fun _ _ _ _ h => h) (da_cons (dv 7) (da_cons (dv 8) da_nil))))) (dw_or1 (dt_not (dt_val (de_cal C__law_equal_right hgd hr (by decide) (by rfl) (passes_call (takes_of rfl rfl rfl rfl) fun _ _ _ _ h => h) (da_cons (dv 2) (da_cons (dv 7) (da_cons (dv 8) da_nil)))))))))
          (dss_one (ds_ret de_bl))
          dss_nil)
        (dss_one (ds_if (dt_not (dt_val (de_cal C__law_holds_right hgd hr (by decide) (by rfl) (passes_call (takes_of rfl rfl rfl rfl) fun _ _ _ _ h => h) (da_cons (dv 2) (da_cons (dv 7) (da_cons (dv 8) da_nil))))))
          (dss_one (ds_ret de_bl))
          dss_nil))))))))
      (dss_cons (ds_set (i := 9) sc_law.nd rfl (.inl rfl) (de_fresh (df_make I_Plan B_Plan R_Plan hgd hr (by decide) (by rfl) (passes_call (takes_of rfl rfl rfl rfl) fun _ _ _ _ h => h) (da_cons de_int da_nil))))
      (dss_cons (ds_if (DW.dt (dw_or (dt_not (dt_val (de_cal C__law_told_right hgd hr (by decide) (by rfl) (passes_call (takes_of rfl rfl rfl rfl) fun _ _ _ _ h => h) (da_cons (de_tup (da_cons de_int (da_cons (de_tup da_nil) (da_cons (de_tup da_nil) (da_cons (de_tup da_nil) da_nil))))) (da_cons (dv 9) da_nil))))) (dw_or1 (dt_cmp (op_neA hr.units) l_ne (de_tup (da_cons (de_globI (by rfl) G_MAX_EVENTS) (da_cons (de_globI (by rfl) G_MAX_STEPS) (da_cons (de_globI (by rfl) G_MAX_HORIZON) da_nil)))) (de_tup (da_cons de_int (da_cons de_int (da_cons de_int da_nil)))) (nomark _)))))
        (dss_one (ds_ret de_bl))
        dss_nil)
      (dss_one (ds_ret (de_and (de_eqO S_eq hgd hr (by decide) (dv 9) (de_cmt N_Plan_of hgd hr (by decide) (by rfl) (passes_call (takes_of rfl rfl rfl rfl) fun _ _ _ _ h => h) (da_cons (de_fresh (df_disp (dp_cons de_str de_int (dp_cons de_str (de_tup da_nil) dp_nil)))) da_nil))) (de_and (de_inO S_in hgd hr (by decide) de_str (dv 9)) (de_one (de_cmp (op_eqA hr.units) l_eq (de_lenO L_len hgd hr (by decide) (by rfl) T.«len» (da_cons (dv 9) da_nil)) de_int (nomark _)))))))))), ?_⟩
  rintro ds Dq ⟨ns, rfl, few, q⟩
  have sL : (16777216 : Nat) = sizeLine := sizeLine_eq.symm
  rw [show startD ["script", "at", "stream", "most", "count", "span", "high", "plain", "plan", "empty"] [.scr ns] = [.dat (.scr ns), .un, .un, .un, .un, .un, .un, .un, .un, .un] from rfl]
  refine seq_cut (fun ρ' => ∃ r1 r2 r3 r4 r5 r6 r7 r8 r9 : Ent, ρ' = [.dat (.scr ns), r1, r2, r3, r4, r5, r6, r7, r8, r9]) ?rest fun N hN => ?_
  rotate_left
  · dsimp only [DL.dAnd, DL.dAndV, DL.dAny, DL.dAppend, DL.dAsg, DL.dB, DL.dBreak, DL.dC, DL.dCall, DL.dChain, DL.dCons, DL.dConsA, DL.dCont, DL.dDrop, DL.dEnumL, DL.dEnumT, DL.dFld, DL.dFldO, DL.dFldSet, DL.dFmt, DL.dFn, DL.dFor, DL.dFresh, DL.dGet1, DL.dGet2, DL.dIfE, DL.dIfS, DL.dInK, DL.dIsi, DL.dIsiO, DL.dJoin, DL.dKeys, DL.dLenSc, DL.dLenSet, DL.dLenSk, DL.dLock, DL.dLockS, DL.dMth, DL.dNeg, DL.dNever, DL.dNext, DL.dNil, DL.dNilA, DL.dNone, DL.dNot, DL.dNotV, DL.dOp, DL.dOr, DL.dOrV, DL.dPar, DL.dPut, DL.dRet, DL.dRetN, DL.dRng1, DL.dRng2, DL.dSeq, DL.dSet, DL.dSetO, DL.dSl, DL.dSome, DL.dTruth, DL.dTup, DL.dVar, DL.dView, DL.dViewT, DL.dYes, DL.dZip, DL.fDc, DL.fDictP, DL.fDictPT, DL.fDisp, DL.fLc, DL.fListT, DL.fLock, DL.fLst, DL.fMake, DL.fMakeK, DL.fMakeL, DL.fNew, DL.gAdd, DL.gBools, DL.gCmp, DL.gConsD, DL.gDin, DL.gEq, DL.gEqO, DL.gGe, DL.gGet, DL.gGt, DL.gI, DL.gIb, DL.gIc, DL.gIn, DL.gInO, DL.gInt, DL.gIsN, DL.gIx, DL.gLe, DL.gLen, DL.gLenO, DL.gLt, DL.gNameD, DL.gNe, DL.gNilD, DL.gNotN, DL.gRepr, DL.gSl, DL.gSorted, DL.gStrI, DL.gStrO, DL.gStrS, DL.gSum, DL.gTupD, DL.gTuple, DL.jCons, DL.jNil, DL.pCons, DL.pNil, startD, isiB, List.map_cons, List.map_nil, List.cons_append, List.nil_append, List.length_cons, List.length_nil, List.set_cons_zero, List.set_cons_succ, List.getElem?_cons_zero, List.getElem?_cons_succ, List.replicate]
    dsimp only [g2I]
    refine ⟨by unfold maxI minI; split <;> split <;> omega, by unfold maxI minI; split <;> split <;> omega, ?_⟩
    refine for_inv (fun ρ => ∃ r1 r2 r3 r4 r5 r6 r7 r8 r9 : Ent, ρ = [.dat (.scr ns), r1, r2, r3, r4, r5, r6, r7, r8, r9]) _ ?s1 ⟨_, _, _, _, _, _, _, _, _, rfl⟩ fun ρ h => hN ρ h
    rintro d md ρ ⟨r1, r2, r3, r4, r5, r6, r7, r8, r9, rfl⟩ N1 hN1
    unfold rangeD at md
    obtain ⟨i, _, rfl⟩ := List.mem_map.mp md
    dsimp only [gNameD, List.set]
    rw [Int.zero_add]
    refine seq_i fun N2 hN => ?_
    dsimp only [DL.dAnd, DL.dAndV, DL.dAny, DL.dAppend, DL.dAsg, DL.dB, DL.dBreak, DL.dC, DL.dCall, DL.dChain, DL.dCons, DL.dConsA, DL.dCont, DL.dDrop, DL.dEnumL, DL.dEnumT, DL.dFld, DL.dFldO, DL.dFldSet, DL.dFmt, DL.dFn, DL.dFor, DL.dFresh, DL.dGet1, DL.dGet2, DL.dIfE, DL.dIfS, DL.dInK, DL.dIsi, DL.dIsiO, DL.dJoin, DL.dKeys, DL.dLenSc, DL.dLenSet, DL.dLenSk, DL.dLock, DL.dLockS, DL.dMth, DL.dNeg, DL.dNever, DL.dNext, DL.dNil, DL.dNilA, DL.dNone, DL.dNot, DL.dNotV, DL.dOp, DL.dOr, DL.dOrV, DL.dPar, DL.dPut, DL.dRet, DL.dRetN, DL.dRng1, DL.dRng2, DL.dSeq, DL.dSet, DL.dSetO, DL.dSl, DL.dSome, DL.dTruth, DL.dTup, DL.dVar, DL.dView, DL.dViewT, DL.dYes, DL.dZip, DL.fDc, DL.fDictP, DL.fDictPT, DL.fDisp, DL.fLc, DL.fListT, DL.fLock, DL.fLst, DL.fMake, DL.fMakeK, DL.fMakeL, DL.fNew, DL.gAdd, DL.gBools, DL.gCmp, DL.gConsD, DL.gDin, DL.gEq, DL.gEqO, DL.gGe, DL.gGet, DL.gGt, DL.gI, DL.gIb, DL.gIc, DL.gIn, DL.gInO, DL.gInt, DL.gIsN, DL.gIx, DL.gLe, DL.gLen, DL.gLenO, DL.gLt, DL.gNameD, DL.gNe, DL.gNilD, DL.gNotN, DL.gRepr, DL.gSl, DL.gSorted, DL.gStrI, DL.gStrO, DL.gStrS, DL.gSum, DL.gTupD, DL.gTuple, DL.jCons, DL.jNil, DL.pCons, DL.pNil, startD, isiB, List.map_cons, List.map_nil, List.cons_append, List.nil_append, List.length_cons, List.length_nil, List.set_cons_zero, List.set_cons_succ, List.getElem?_cons_zero, List.getElem?_cons_succ, List.replicate]
    refine ⟨ns, i, rfl, hN _ ?_⟩
    clear hN N2
    refine seq_i fun N2 hN => ?_
    dsimp only [DL.dAnd, DL.dAndV, DL.dAny, DL.dAppend, DL.dAsg, DL.dB, DL.dBreak, DL.dC, DL.dCall, DL.dChain, DL.dCons, DL.dConsA, DL.dCont, DL.dDrop, DL.dEnumL, DL.dEnumT, DL.dFld, DL.dFldO, DL.dFldSet, DL.dFmt, DL.dFn, DL.dFor, DL.dFresh, DL.dGet1, DL.dGet2, DL.dIfE, DL.dIfS, DL.dInK, DL.dIsi, DL.dIsiO, DL.dJoin, DL.dKeys, DL.dLenSc, DL.dLenSet, DL.dLenSk, DL.dLock, DL.dLockS, DL.dMth, DL.dNeg, DL.dNever, DL.dNext, DL.dNil, DL.dNilA, DL.dNone, DL.dNot, DL.dNotV, DL.dOp, DL.dOr, DL.dOrV, DL.dPar, DL.dPut, DL.dRet, DL.dRetN, DL.dRng1, DL.dRng2, DL.dSeq, DL.dSet, DL.dSetO, DL.dSl, DL.dSome, DL.dTruth, DL.dTup, DL.dVar, DL.dView, DL.dViewT, DL.dYes, DL.dZip, DL.fDc, DL.fDictP, DL.fDictPT, DL.fDisp, DL.fLc, DL.fListT, DL.fLock, DL.fLst, DL.fMake, DL.fMakeK, DL.fMakeL, DL.fNew, DL.gAdd, DL.gBools, DL.gCmp, DL.gConsD, DL.gDin, DL.gEq, DL.gEqO, DL.gGe, DL.gGet, DL.gGt, DL.gI, DL.gIb, DL.gIc, DL.gIn, DL.gInO, DL.gInt, DL.gIsN, DL.gIx, DL.gLe, DL.gLen, DL.gLenO, DL.gLt, DL.gNameD, DL.gNe, DL.gNilD, DL.gNotN, DL.gRepr, DL.gSl, DL.gSorted, DL.gStrI, DL.gStrO, DL.gStrS, DL.gSum, DL.gTupD, DL.gTuple, DL.jCons, DL.jNil, DL.pCons, DL.pNil, startD, isiB, List.map_cons, List.map_nil, List.cons_append, List.nil_append, List.length_cons, List.length_nil, List.set_cons_zero, List.set_cons_succ, List.getElem?_cons_zero, List.getElem?_cons_succ, List.replicate]
    have z4 : 4 ≤ sizeLine := by omega
    refine ⟨z4, z4, z4, by omega, _, .inr ⟨_, rfl⟩, by simp, by simp, fun x mx => ?_⟩
    have hx : ∃ mo mw sp hi : Int, x = .tup [.int mo, .int mw, .int sp, .int hi] ∧ 1 ≤ mo ∧ mo ≤ 10 ∧ 1 ≤ mw ∧ mw ≤ 5 ∧ 1 ≤ sp ∧ sp ≤ 40 ∧ 0 ≤ hi ∧ hi ≤ 99 := by
      simp only [List.mem_cons, List.mem_nil_iff, or_false] at mx
      rcases mx with rfl | rfl | rfl
      · exact ⟨_, _, _, _, rfl, by decide, by decide, by decide, by decide, by decide, by decide, by decide, by decide⟩
      · exact ⟨_, _, _, _, rfl, by decide, by decide, by decide, by decide, by decide, by decide, by decide, by decide⟩
      · exact ⟨_, _, _, _, rfl, by decide, by decide, by decide, by decide, by decide, by decide, by decide, by decide⟩
    obtain ⟨mo, mw, sp, hi, rfl, a1, a2, a3, a4, a5, a6, a7, a8⟩ := hx
    clear mx
    refine ⟨rfl, hN _ ?_⟩
    clear hN N2
    refine seq_i fun N2 hN => ?_
    dsimp only [DL.dAnd, DL.dAndV, DL.dAny, DL.dAppend, DL.dAsg, DL.dB, DL.dBreak, DL.dC, DL.dCall, DL.dChain, DL.dCons, DL.dConsA, DL.dCont, DL.dDrop, DL.dEnumL, DL.dEnumT, DL.dFld, DL.dFldO, DL.dFldSet, DL.dFmt, DL.dFn, DL.dFor, DL.dFresh, DL.dGet1, DL.dGet2, DL.dIfE, DL.dIfS, DL.dInK, DL.dIsi, DL.dIsiO, DL.dJoin, DL.dKeys, DL.dLenSc, DL.dLenSet, DL.dLenSk, DL.dLock, DL.dLockS, DL.dMth, DL.dNeg, DL.dNever, DL.dNext, DL.dNil, DL.dNilA, DL.dNone, DL.dNot, DL.dNotV, DL.dOp, DL.dOr, DL.dOrV, DL.dPar, DL.dPut, DL.dRet, DL.dRetN, DL.dRng1, DL.dRng2, DL.dSeq, DL.dSet, DL.dSetO, DL.dSl, DL.dSome, DL.dTruth, DL.dTup, DL.dVar, DL.dView, DL.dViewT, DL.dYes, DL.dZip, DL.fDc, DL.fDictP, DL.fDictPT, DL.fDisp, DL.fLc, DL.fListT, DL.fLock, DL.fLst, DL.fMake, DL.fMakeK, DL.fMakeL, DL.fNew, DL.gAdd, DL.gBools, DL.gCmp, DL.gConsD, DL.gDin, DL.gEq, DL.gEqO, DL.gGe, DL.gGet, DL.gGt, DL.gI, DL.gIb, DL.gIc, DL.gIn, DL.gInO, DL.gInt, DL.gIsN, DL.gIx, DL.gLe, DL.gLen, DL.gLenO, DL.gLt, DL.gNameD, DL.gNe, DL.gNilD, DL.gNotN, DL.gRepr, DL.gSl, DL.gSorted, DL.gStrI, DL.gStrO, DL.gStrS, DL.gSum, DL.gTupD, DL.gTuple, DL.jCons, DL.jNil, DL.pCons, DL.pNil, startD, isiB, List.map_cons, List.map_nil, List.cons_append, List.nil_append, List.length_cons, List.length_nil, List.set_cons_zero, List.set_cons_succ, List.getElem?_cons_zero, List.getElem?_cons_succ, List.replicate]
    refine ⟨mo, mw, sp, hi, rfl, a1, a2, a3, a4, a5, a6, a7, a8, fun h es xs bs k => hN _ ?_⟩
    clear hN N2
    refine seq_i fun N2 hN => ?_
    dsimp only [DL.dAnd, DL.dAndV, DL.dAny, DL.dAppend, DL.dAsg, DL.dB, DL.dBreak, DL.dC, DL.dCall, DL.dChain, DL.dCons, DL.dConsA, DL.dCont, DL.dDrop, DL.dEnumL, DL.dEnumT, DL.dFld, DL.dFldO, DL.dFldSet, DL.dFmt, DL.dFn, DL.dFor, DL.dFresh, DL.dGet1, DL.dGet2, DL.dIfE, DL.dIfS, DL.dInK, DL.dIsi, DL.dIsiO, DL.dJoin, DL.dKeys, DL.dLenSc, DL.dLenSet, DL.dLenSk, DL.dLock, DL.dLockS, DL.dMth, DL.dNeg, DL.dNever, DL.dNext, DL.dNil, DL.dNilA, DL.dNone, DL.dNot, DL.dNotV, DL.dOp, DL.dOr, DL.dOrV, DL.dPar, DL.dPut, DL.dRet, DL.dRetN, DL.dRng1, DL.dRng2, DL.dSeq, DL.dSet, DL.dSetO, DL.dSl, DL.dSome, DL.dTruth, DL.dTup, DL.dVar, DL.dView, DL.dViewT, DL.dYes, DL.dZip, DL.fDc, DL.fDictP, DL.fDictPT, DL.fDisp, DL.fLc, DL.fListT, DL.fLock, DL.fLst, DL.fMake, DL.fMakeK, DL.fMakeL, DL.fNew, DL.gAdd, DL.gBools, DL.gCmp, DL.gConsD, DL.gDin, DL.gEq, DL.gEqO, DL.gGe, DL.gGet, DL.gGt, DL.gI, DL.gIb, DL.gIc, DL.gIn, DL.gInO, DL.gInt, DL.gIsN, DL.gIx, DL.gLe, DL.gLen, DL.gLenO, DL.gLt, DL.gNameD, DL.gNe, DL.gNilD, DL.gNotN, DL.gRepr, DL.gSl, DL.gSorted, DL.gStrI, DL.gStrO, DL.gStrS, DL.gSum, DL.gTupD, DL.gTuple, DL.jCons, DL.jNil, DL.pCons, DL.pNil, startD, isiB, List.map_cons, List.map_nil, List.cons_append, List.nil_append, List.length_cons, List.length_nil, List.set_cons_zero, List.set_cons_succ, List.getElem?_cons_zero, List.getElem?_cons_succ, List.replicate]
    refine ⟨h, es, xs, bs, rfl, k, hN _ ?_⟩
    clear hN N2
    refine seq_i fun N2 hN => ?_
    refine ifs_i (fun b => b = false) (fun Q hQ => ?_) (fun c => by cases c) fun _ => hN _ ?_
    · dsimp only [DL.dAnd, DL.dAndV, DL.dAny, DL.dAppend, DL.dAsg, DL.dB, DL.dBreak, DL.dC, DL.dCall, DL.dChain, DL.dCons, DL.dConsA, DL.dCont, DL.dDrop, DL.dEnumL, DL.dEnumT, DL.dFld, DL.dFldO, DL.dFldSet, DL.dFmt, DL.dFn, DL.dFor, DL.dFresh, DL.dGet1, DL.dGet2, DL.dIfE, DL.dIfS, DL.dInK, DL.dIsi, DL.dIsiO, DL.dJoin, DL.dKeys, DL.dLenSc, DL.dLenSet, DL.dLenSk, DL.dLock, DL.dLockS, DL.dMth, DL.dNeg, DL.dNever, DL.dNext, DL.dNil, DL.dNilA, DL.dNone, DL.dNot, DL.dNotV, DL.dOp, DL.dOr, DL.dOrV, DL.dPar, DL.dPut, DL.dRet, DL.dRetN, DL.dRng1, DL.dRng2, DL.dSeq, DL.dSet, DL.dSetO, DL.dSl, DL.dSome, DL.dTruth, DL.dTup, DL.dVar, DL.dView, DL.dViewT, DL.dYes, DL.dZip, DL.fDc, DL.fDictP, DL.fDictPT, DL.fDisp, DL.fLc, DL.fListT, DL.fLock, DL.fLst, DL.fMake, DL.fMakeK, DL.fMakeL, DL.fNew, DL.gAdd, DL.gBools, DL.gCmp, DL.gConsD, DL.gDin, DL.gEq, DL.gEqO, DL.gGe, DL.gGet, DL.gGt, DL.gI, DL.gIb, DL.gIc, DL.gIn, DL.gInO, DL.gInt, DL.gIsN, DL.gIx, DL.gLe, DL.gLen, DL.gLenO, DL.gLt, DL.gNameD, DL.gNe, DL.gNilD, DL.gNotN, DL.gRepr, DL.gSl, DL.gSorted, DL.gStrI, DL.gStrO, DL.gStrS, DL.gSum, DL.gTupD, DL.gTuple, DL.jCons, DL.jNil, DL.pCons, DL.pNil, startD, isiB, List.map_cons, List.map_nil, List.cons_append, List.nil_append, List.length_cons, List.length_nil, List.set_cons_zero, List.set_cons_succ, List.getElem?_cons_zero, List.getElem?_cons_succ, List.replicate]
      exact ⟨h, es, xs, bs, rfl, k, ifn (by decide) ⟨h, es, xs, bs, rfl, k, hQ _ rfl⟩⟩
    clear hN N2
    refine ifs_i (fun b => b = false) (fun Q hQ => ?_) (fun c => by cases c) fun _ => hN1 _ ⟨_, _, _, _, _, _, _, _, _, rfl⟩
    dsimp only [DL.dAnd, DL.dAndV, DL.dAny, DL.dAppend, DL.dAsg, DL.dB, DL.dBreak, DL.dC, DL.dCall, DL.dChain, DL.dCons, DL.dConsA, DL.dCont, DL.dDrop, DL.dEnumL, DL.dEnumT, DL.dFld, DL.dFldO, DL.dFldSet, DL.dFmt, DL.dFn, DL.dFor, DL.dFresh, DL.dGet1, DL.dGet2, DL.dIfE, DL.dIfS, DL.dInK, DL.dIsi, DL.dIsiO, DL.dJoin, DL.dKeys, DL.dLenSc, DL.dLenSet, DL.dLenSk, DL.dLock, DL.dLockS, DL.dMth, DL.dNeg, DL.dNever, DL.dNext, DL.dNil, DL.dNilA, DL.dNone, DL.dNot, DL.dNotV, DL.dOp, DL.dOr, DL.dOrV, DL.dPar, DL.dPut, DL.dRet, DL.dRetN, DL.dRng1, DL.dRng2, DL.dSeq, DL.dSet, DL.dSetO, DL.dSl, DL.dSome, DL.dTruth, DL.dTup, DL.dVar, DL.dView, DL.dViewT, DL.dYes, DL.dZip, DL.fDc, DL.fDictP, DL.fDictPT, DL.fDisp, DL.fLc, DL.fListT, DL.fLock, DL.fLst, DL.fMake, DL.fMakeK, DL.fMakeL, DL.fNew, DL.gAdd, DL.gBools, DL.gCmp, DL.gConsD, DL.gDin, DL.gEq, DL.gEqO, DL.gGe, DL.gGet, DL.gGt, DL.gI, DL.gIb, DL.gIc, DL.gIn, DL.gInO, DL.gInt, DL.gIsN, DL.gIx, DL.gLe, DL.gLen, DL.gLenO, DL.gLt, DL.gNameD, DL.gNe, DL.gNilD, DL.gNotN, DL.gRepr, DL.gSl, DL.gSorted, DL.gStrI, DL.gStrO, DL.gStrS, DL.gSum, DL.gTupD, DL.gTuple, DL.jCons, DL.jNil, DL.pCons, DL.pNil, startD, isiB, List.map_cons, List.map_nil, List.cons_append, List.nil_append, List.length_cons, List.length_nil, List.set_cons_zero, List.set_cons_succ, List.getElem?_cons_zero, List.getElem?_cons_succ, List.replicate]
    exact ⟨h, es, xs, bs, rfl, k, hQ _ rfl⟩
  rintro ρ' ⟨r1, r2, r3, r4, r5, r6, r7, r8, r9, rfl⟩
  have z0 := Nat.zero_le sizeLine
  have z3 : 3 ≤ sizeLine := by omega
  refine seq_i fun N hN => ?_
  dsimp only [DL.dAnd, DL.dAndV, DL.dAny, DL.dAppend, DL.dAsg, DL.dB, DL.dBreak, DL.dC, DL.dCall, DL.dChain, DL.dCons, DL.dConsA, DL.dCont, DL.dDrop, DL.dEnumL, DL.dEnumT, DL.dFld, DL.dFldO, DL.dFldSet, DL.dFmt, DL.dFn, DL.dFor, DL.dFresh, DL.dGet1, DL.dGet2, DL.dIfE, DL.dIfS, DL.dInK, DL.dIsi, DL.dIsiO, DL.dJoin, DL.dKeys, DL.dLenSc, DL.dLenSet, DL.dLenSk, DL.dLock, DL.dLockS, DL.dMth, DL.dNeg, DL.dNever, DL.dNext, DL.dNil, DL.dNilA, DL.dNone, DL.dNot, DL.dNotV, DL.dOp, DL.dOr, DL.dOrV, DL.dPar, DL.dPut, DL.dRet, DL.dRetN, DL.dRng1, DL.dRng2, DL.dSeq, DL.dSet, DL.dSetO, DL.dSl, DL.dSome, DL.dTruth, DL.dTup, DL.dVar, DL.dView, DL.dViewT, DL.dYes, DL.dZip, DL.fDc, DL.fDictP, DL.fDictPT, DL.fDisp, DL.fLc, DL.fListT, DL.fLock, DL.fLst, DL.fMake, DL.fMakeK, DL.fMakeL, DL.fNew, DL.gAdd, DL.gBools, DL.gCmp, DL.gConsD, DL.gDin, DL.gEq, DL.gEqO, DL.gGe, DL.gGet, DL.gGt, DL.gI, DL.gIb, DL.gIc, DL.gIn, DL.gInO, DL.gInt, DL.gIsN, DL.gIx, DL.gLe, DL.gLen, DL.gLenO, DL.gLt, DL.gNameD, DL.gNe, DL.gNilD, DL.gNotN, DL.gRepr, DL.gSl, DL.gSorted, DL.gStrI, DL.gStrO, DL.gStrS, DL.gSum, DL.gTupD, DL.gTuple, DL.jCons, DL.jNil, DL.pCons, DL.pNil, startD, isiB, List.map_cons, List.map_nil, List.cons_append, List.nil_append, List.length_cons, List.length_nil, List.set_cons_zero, List.set_cons_succ, List.getElem?_cons_zero, List.getElem?_cons_succ, List.replicate]
  refine ⟨0, [], [], [], rfl, by decide, by decide, okEmpty.ok, fun fs ef a => hN _ ?_⟩
  clear hN N
  subst ef
  refine seq_i fun N hN => ?_
  refine ifs_i (fun b => b = false) (fun Q hQ => ?_) (fun c => by cases c) fun _ => hN _ ?_
  · dsimp only [DL.dAnd, DL.dAndV, DL.dAny, DL.dAppend, DL.dAsg, DL.dB, DL.dBreak, DL.dC, DL.dCall, DL.dChain, DL.dCons, DL.dConsA, DL.dCont, DL.dDrop, DL.dEnumL, DL.dEnumT, DL.dFld, DL.dFldO, DL.dFldSet, DL.dFmt, DL.dFn, DL.dFor, DL.dFresh, DL.dGet1, DL.dGet2, DL.dIfE, DL.dIfS, DL.dInK, DL.dIsi, DL.dIsiO, DL.dJoin, DL.dKeys, DL.dLenSc, DL.dLenSet, DL.dLenSk, DL.dLock, DL.dLockS, DL.dMth, DL.dNeg, DL.dNever, DL.dNext, DL.dNil, DL.dNilA, DL.dNone, DL.dNot, DL.dNotV, DL.dOp, DL.dOr, DL.dOrV, DL.dPar, DL.dPut, DL.dRet, DL.dRetN, DL.dRng1, DL.dRng2, DL.dSeq, DL.dSet, DL.dSetO, DL.dSl, DL.dSome, DL.dTruth, DL.dTup, DL.dVar, DL.dView, DL.dViewT, DL.dYes, DL.dZip, DL.fDc, DL.fDictP, DL.fDictPT, DL.fDisp, DL.fLc, DL.fListT, DL.fLock, DL.fLst, DL.fMake, DL.fMakeK, DL.fMakeL, DL.fNew, DL.gAdd, DL.gBools, DL.gCmp, DL.gConsD, DL.gDin, DL.gEq, DL.gEqO, DL.gGe, DL.gGet, DL.gGt, DL.gI, DL.gIb, DL.gIc, DL.gIn, DL.gInO, DL.gInt, DL.gIsN, DL.gIx, DL.gLe, DL.gLen, DL.gLenO, DL.gLt, DL.gNameD, DL.gNe, DL.gNilD, DL.gNotN, DL.gRepr, DL.gSl, DL.gSorted, DL.gStrI, DL.gStrO, DL.gStrS, DL.gSum, DL.gTupD, DL.gTuple, DL.jCons, DL.jNil, DL.pCons, DL.pNil, startD, isiB, List.map_cons, List.map_nil, List.cons_append, List.nil_append, List.length_cons, List.length_nil, List.set_cons_zero, List.set_cons_succ, List.getElem?_cons_zero, List.getElem?_cons_succ, List.replicate]
    refine ⟨z0, z0, z0, by omega, 0, [], [], [], rfl, okEmpty, ifn (by decide) ?_⟩
    have zc : D.cmp (.tup [.int 10, .int 5, .int 99]) = true := by decide +kernel
    refine ⟨z3, z3, zc, zc, hQ _ ?_⟩
    rw [eqD_refl zc]
    rfl
  clear hN N
  (dsimp only [DL.dRet, List.map, DL.Ent.view]; dsimp only [DL.dAnd, DL.dAndV, DL.dAny, DL.dAppend, DL.dAsg, DL.dB, DL.dBreak, DL.dC, DL.dCall, DL.dChain, DL.dCons, DL.dConsA, DL.dCont, DL.dDrop, DL.dEnumL, DL.dEnumT, DL.dFld, DL.dFldO, DL.dFldSet, DL.dFmt, DL.dFn, DL.dFor, DL.dFresh, DL.dGet1, DL.dGet2, DL.dIfE, DL.dIfS, DL.dInK, DL.dIsi, DL.dIsiO, DL.dJoin, DL.dKeys, DL.dLenSc, DL.dLenSet, DL.dLenSk, DL.dLock, DL.dLockS, DL.dMth, DL.dNeg, DL.dNever, DL.dNext, DL.dNil, DL.dNilA, DL.dNone, DL.dNot, DL.dNotV, DL.dOp, DL.dOr, DL.dOrV, DL.dPar, DL.dPut, DL.dRet, DL.dRetN, DL.dRng1, DL.dRng2, DL.dSeq, DL.dSet, DL.dSetO, DL.dSl, DL.dSome, DL.dTruth, DL.dTup, DL.dVar, DL.dView, DL.dViewT, DL.dYes, DL.dZip, DL.fDc, DL.fDictP, DL.fDictPT, DL.fDisp, DL.fLc, DL.fListT, DL.fLock, DL.fLst, DL.fMake, DL.fMakeK, DL.fMakeL, DL.fNew, DL.gAdd, DL.gBools, DL.gCmp, DL.gConsD, DL.gDin, DL.gEq, DL.gEqO, DL.gGe, DL.gGet, DL.gGt, DL.gI, DL.gIb, DL.gIc, DL.gIn, DL.gInO, DL.gInt, DL.gIsN, DL.gIx, DL.gLe, DL.gLen, DL.gLenO, DL.gLt, DL.gNameD, DL.gNe, DL.gNilD, DL.gNotN, DL.gRepr, DL.gSl, DL.gSorted, DL.gStrI, DL.gStrO, DL.gStrS, DL.gSum, DL.gTupD, DL.gTuple, DL.jCons, DL.jNil, DL.pCons, DL.pNil, startD, isiB, List.map_cons, List.map_nil, List.cons_append, List.nil_append, List.length_cons, List.length_nil, List.set_cons_zero, List.set_cons_succ, List.getElem?_cons_zero, List.getElem?_cons_succ, List.replicate])
  rw [show mergeD [] [(DL.D.str (Str.ofString "horizon"), DL.D.int 0), (DL.D.str (Str.ofString "bounds"), DL.D.tup [])] = twoP from twoMerge]
  have e1 := eqPlan_refl okEmpty
  refine ⟨z0, fun p m => ?_, by decide, twoP, 0, [], [], [], rfl, twoOk, by decide, by decide, okEmpty.ok, ?_⟩
  · simp only [List.mem_cons, List.mem_nil_iff, or_false] at m
    rcases m with rfl | rfl <;> rfl
  refine ⟨rfl, fun C fs e => by injection e with e _; exact e.symm, 0, [], [], [], _, rfl, .inl ⟨0, [], [], [], rfl, okEmpty.ok, okEmpty.ok, _, rfl, ?_⟩⟩
  rw [e1]
  refine ifp (by decide) ⟨rfl, 0, [], [], [], _, rfl, .inl (str_cmp (by decide +kernel)), okEmpty.ok.pts, _, rfl, ?_⟩
  rw [isPtStart]
  refine ifp (by decide) ⟨rfl, 0, [], [], [], rfl, _, rfl, by decide, by decide, int_cmp _, int_cmp _, ?_⟩
  rw [eq_int]
  exact q
end
end K05

set_option Elab.async false
set_option linter.all false
set_option maxRecDepth 100000
set_option maxHeartbeats 4000000
namespace K05
open PySem PySem.Spec PyProof.Rows L2 LW RZ DL
open PySem.W (Frag)
def kitB (K : Frag) (C : Addr) : Bool := (["int", "bool", "str", "tuple", "dict", "list"].all fun n => decide (PySem.W.kitOne K (.ref C) (.type n) = some false)) &&
  ((["NoneType", "int", "bool", "str", "tuple", "dict", "list"].all fun n => decide (PySem.W.kitOne K (.type n) (.ref C) = some false)) && decide (PySem.W.kitOne K (.ref C) (.ref C) = some true))
theorem empty_of {K : Frag} {T : Addr} {od : Option Addr} {sl : Array (Option Value)} {n : Nat} (l : K.lookup T = some ⟨.type "tuple", od, .seq #[] n, sl⟩) (W : Wd) : Rep K W (.ref T) (.tup []) :=
  .tup (xs := []) (Nat.zero_le _) (.inr ⟨rfl, .inr ⟨_, #[], n, l, rfl, rfl, Nat.zero_le _, .nil⟩⟩) .nil
theorem kv4 {a b c d : Str} {p q r s : Tok} : Vals (List.map V.str [a, b, c, d]) #[Value.str a p, .str b q, .str c r, .str d s].toList := .cons ⟨_, rfl⟩ (.cons ⟨_, rfl⟩ (.cons ⟨_, rfl⟩ (.cons ⟨_, rfl⟩ .nil)))
def addV : List V → List V → List V := fun us ws => us ++ ws
theorem all_mk {P : Program} {w : World} {K : Frag} {h : Heap} {mg : Str → Option Value} {fa : Addr} (X : K.In h) (G : h.Ns mainGlobals mg) (hfa : mg "law" = some (.ref fa))
    {CP tK po DI T1 T2 T3 : Addr} {f2 : Addr} {od2 an2 : Option Addr} {sl2 : Array (Option Value)} {oc2 kv2 dc2 pm2 cd2 ct2 : Value} {f3 : Addr} {od3 an3 : Option Addr} {sl3 : Array (Option Value)} {oc3 kv3 dc3 pm3 cd3 ct3 : Value} {f12 : Addr} {od12 an12 : Option Addr} {sl12 : Array (Option Value)} {oc12 kv12 dc12 pm12 cd12 ct12 : Value} {f17 : Addr} {od17 an17 : Option Addr} {sl17 : Array (Option Value)} {oc17 kv17 dc17 pm17 cd17 ct17 : Value} {f18 : Addr} {od18 an18 : Option Addr} {sl18 : Array (Option Value)} {oc18 kv18 dc18 pm18 cd18 ct18 : Value} {f19 : Addr} {od19 an19 : Option Addr} {sl19 : Array (Option Value)} {oc19 kv19 dc19 pm19 cd19 ct19 : Value} {f20 : Addr} {od20 an20 : Option Addr} {sl20 : Array (Option Value)} {oc20 kv20 dc20 pm20 cd20 ct20 : Value} {f21 : Addr} {od21 an21 : Option Addr} {sl21 : Array (Option Value)} {oc21 kv21 dc21 pm21 cd21 ct21 : Value} {f22 : Addr} {od22 an22 : Option Addr} {sl22 : Array (Option Value)} {oc22 kv22 dc22 pm22 cd22 ct22 : Value} {f30 : Addr} {od30 an30 : Option Addr} {sl30 : Array (Option Value)} {oc30 kv30 dc30 pm30 cd30 ct30 : Value} {f32 : Addr} {od32 an32 : Option Addr} {sl32 : Array (Option Value)} {oc32 kv32 dc32 pm32 cd32 ct32 : Value} {f33 : Addr} {od33 an33 : Option Addr} {sl33 : Array (Option Value)} {oc33 kv33 dc33 pm33 cd33 ct33 : Value} {f34 : Addr} {od34 an34 : Option Addr} {sl34 : Array (Option Value)} {oc34 kv34 dc34 pm34 cd34 ct34 : Value} {f35 : Addr} {od35 an35 : Option Addr} {sl35 : Array (Option Value)} {oc35 kv35 dc35 pm35 cd35 ct35 : Value} {f36 : Addr} {od36 an36 : Option Addr} {sl36 : Array (Option Value)} {oc36 kv36 dc36 pm36 cd36 ct36 : Value} {f37 : Addr} {od37 an37 : Option Addr} {sl37 : Array (Option Value)} {oc37 kv37 dc37 pm37 cd37 ct37 : Value} {f38 : Addr} {od38 an38 : Option Addr} {sl38 : Array (Option Value)} {oc38 kv38 dc38 pm38 cd38 ct38 : Value} {f39 : Addr} {od39 an39 : Option Addr} {sl39 : Array (Option Value)} {oc39 kv39 dc39 pm39 cd39 ct39 : Value} {f40 : Addr} {od40 an40 : Option Addr} {sl40 : Array (Option Value)} {oc40 kv40 dc40 pm40 cd40 ct40 : Value} {f41 : Addr} {od41 an41 : Option Addr} {sl41 : Array (Option Value)} {oc41 kv41 dc41 pm41 cd41 ct41 : Value} {f42 : Addr} {od42 an42 : Option Addr} {sl42 : Array (Option Value)} {oc42 kv42 dc42 pm42 cd42 ct42 : Value} {f43 : Addr} {od43 an43 : Option Addr} {sl43 : Array (Option Value)} {oc43 kv43 dc43 pm43 cd43 ct43 : Value} {f44 : Addr} {od44 an44 : Option Addr} {sl44 : Array (Option Value)} {oc44 kv44 dc44 pm44 cd44 ct44 : Value} {f45 : Addr} {od45 an45 : Option Addr} {sl45 : Array (Option Value)} {oc45 kv45 dc45 pm45 cd45 ct45 : Value} {f46 : Addr} {od46 an46 : Option Addr} {sl46 : Array (Option Value)} {oc46 kv46 dc46 pm46 cd46 ct46 : Value} {tk0 : Tok} {tk1 : Tok} {tk2 : Tok} {tk3 : Tok} {tk4 : Tok} {tk5 : Tok} {odK : Option Addr} {slK : Array (Option Value)} {nK : Nat} {tq1 tq2 tq3 tq4 : Tok} {fm8 : Addr} {odm8 anm8 : Option Addr} {slm8 : Array (Option Value)} {ocm8 kvm8 dcm8 pmm8 cdm8 ctm8 : Value} {fm9 : Addr} {odm9 anm9 : Option Addr} {slm9 : Array (Option Value)} {ocm9 kvm9 dcm9 pmm9 cdm9 ctm9 : Value} {fm24 : Addr} {odm24 anm24 : Option Addr} {slm24 : Array (Option Value)} {ocm24 kvm24 dcm24 pmm24 cdm24 ctm24 : Value} {fm25 : Addr} {odm25 anm25 : Option Addr} {slm25 : Array (Option Value)} {ocm25 kvm25 dcm25 pmm25 cdm25 ctm25 : Value} {fm26 : Addr} {odm26 anm26 : Option Addr} {slm26 : Array (Option Value)} {ocm26 kvm26 dcm26 pmm26 cdm26 ctm26 : Value} {fm27 : Addr} {odm27 anm27 : Option Addr} {slm27 : Array (Option Value)} {ocm27 kvm27 dcm27 pmm27 cdm27 ctm27 : Value} {fm28 : Addr} {odm28 anm28 : Option Addr} {slm28 : Array (Option Value)} {ocm28 kvm28 dcm28 pmm28 cdm28 ctm28 : Value} {pp2 fp2 : Addr} {rr2 : List Value} {odp2 anp2 : Option Addr} {slp2 : Array (Option Value)} {ocp2 kvp2 dcp2 pmp2 cdp2 ctp2 : Value} {pp3 fp3 : Addr} {rr3 : List Value} {odp3 anp3 : Option Addr} {slp3 : Array (Option Value)} {ocp3 kvp3 dcp3 pmp3 cdp3 ctp3 : Value} {pp4 fp4 : Addr} {rr4 : List Value} {odp4 anp4 : Option Addr} {slp4 : Array (Option Value)} {ocp4 kvp4 dcp4 pmp4 cdp4 ctp4 : Value} {pp5 fp5 : Addr} {rr5 : List Value} {odp5 anp5 : Option Addr} {slp5 : Array (Option Value)} {ocp5 kvp5 dcp5 pmp5 cdp5 ctp5 : Value} {pp6 fp6 : Addr} {rr6 : List Value} {odp6 anp6 : Option Addr} {slp6 : Array (Option Value)} {ocp6 kvp6 dcp6 pmp6 cdp6 ctp6 : Value} {pp7 fp7 : Addr} {rr7 : List Value} {odp7 anp7 : Option Addr} {slp7 : Array (Option Value)} {ocp7 kvp7 dcp7 pmp7 cdp7 ctp7 : Value} {fi0 : Addr} {odi0 ani0 : Option Addr} {sli0 : Array (Option Value)} {oci0 dci0 pmi0 cdi0 cti0 : Value} {odE0 : Option Addr} {slE0 : Array (Option Value)} {nE0 : Nat} {odE1 : Option Addr} {slE1 : Array (Option Value)} {nE1 : Nat} {odE2 : Option Addr} {slE2 : Array (Option Value)} {nE2 : Nat} {fo1 : Addr} {rro : List Value} {odo1 ano1 : Option Addr} {slo1 : Array (Option Value)} {oco1 kvo1 dco1 pmo1 cdo1 cto1 : Value}
    (a2 : PySem.W.nsIn K mainGlobals "is_integer" = some (some (.ref f2)))
    (l2 : K.lookup f2 = some ⟨oc2, od2, .func (PySem.W.fnOf "is_integer" "is_integer" (defArgs (top 2)) (defBody (top 2)) (defScope (top 2)) .none kv2 dc2 pm2 an2 cd2 ct2), sl2⟩)
    (c2 : PySem.W.codeIn K cd2 "is_integer" = true)
    (k2 : PySem.W.keepIn K (.ref f2) = true)
    (a3 : PySem.W.nsIn K mainGlobals "is_between" = some (some (.ref f3)))
    (l3 : K.lookup f3 = some ⟨oc3, od3, .func (PySem.W.fnOf "is_between" "is_between" (defArgs (top 3)) (defBody (top 3)) (defScope (top 3)) .none kv3 dc3 pm3 an3 cd3 ct3), sl3⟩)
    (c3 : PySem.W.codeIn K cd3 "is_between" = true)
    (k3 : PySem.W.keepIn K (.ref f3) = true)
    (a12 : PySem.W.nsIn K mainGlobals "is_name" = some (some (.ref f12)))
    (l12 : K.lookup f12 = some ⟨oc12, od12, .func (PySem.W.fnOf "is_name" "is_name" (defArgs (top 12)) (defBody (top 12)) (defScope (top 12)) .none kv12 dc12 pm12 an12 cd12 ct12), sl12⟩)
    (c12 : PySem.W.codeIn K cd12 "is_name" = true)
    (k12 : PySem.W.keepIn K (.ref f12) = true)
    (a17 : PySem.W.nsIn K mainGlobals "are_events" = some (some (.ref f17)))
    (l17 : K.lookup f17 = some ⟨oc17, od17, .func (PySem.W.fnOf "are_events" "are_events" (defArgs (top 17)) (defBody (top 17)) (defScope (top 17)) .none kv17 dc17 pm17 an17 cd17 ct17), sl17⟩)
    (c17 : PySem.W.codeIn K cd17 "are_events" = true)
    (k17 : PySem.W.keepIn K (.ref f17) = true)
    (a18 : PySem.W.nsIn K mainGlobals "are_steps" = some (some (.ref f18)))
    (l18 : K.lookup f18 = some ⟨oc18, od18, .func (PySem.W.fnOf "are_steps" "are_steps" (defArgs (top 18)) (defBody (top 18)) (defScope (top 18)) .none kv18 dc18 pm18 an18 cd18 ct18), sl18⟩)
    (c18 : PySem.W.codeIn K cd18 "are_steps" = true)
    (k18 : PySem.W.keepIn K (.ref f18) = true)
    (a19 : PySem.W.nsIn K mainGlobals "are_bounds" = some (some (.ref f19)))
    (l19 : K.lookup f19 = some ⟨oc19, od19, .func (PySem.W.fnOf "are_bounds" "are_bounds" (defArgs (top 19)) (defBody (top 19)) (defScope (top 19)) .none kv19 dc19 pm19 an19 cd19 ct19), sl19⟩)
    (c19 : PySem.W.codeIn K cd19 "are_bounds" = true)
    (k19 : PySem.W.keepIn K (.ref f19) = true)
    (a20 : PySem.W.nsIn K mainGlobals "is_delay" = some (some (.ref f20)))
    (l20 : K.lookup f20 = some ⟨oc20, od20, .func (PySem.W.fnOf "is_delay" "is_delay" (defArgs (top 20)) (defBody (top 20)) (defScope (top 20)) .none kv20 dc20 pm20 an20 cd20 ct20), sl20⟩)
    (c20 : PySem.W.codeIn K cd20 "is_delay" = true)
    (k20 : PySem.W.keepIn K (.ref f20) = true)
    (a21 : PySem.W.nsIn K mainGlobals "_is_step" = some (some (.ref f21)))
    (l21 : K.lookup f21 = some ⟨oc21, od21, .func (PySem.W.fnOf "_is_step" "_is_step" (defArgs (top 21)) (defBody (top 21)) (defScope (top 21)) .none kv21 dc21 pm21 an21 cd21 ct21), sl21⟩)
    (c21 : PySem.W.codeIn K cd21 "_is_step" = true)
    (k21 : PySem.W.keepIn K (.ref f21) = true)
    (a22 : PySem.W.nsIn K mainGlobals "_is_bound" = some (some (.ref f22)))
    (l22 : K.lookup f22 = some ⟨oc22, od22, .func (PySem.W.fnOf "_is_bound" "_is_bound" (defArgs (top 22)) (defBody (top 22)) (defScope (top 22)) .none kv22 dc22 pm22 an22 cd22 ct22), sl22⟩)
    (c22 : PySem.W.codeIn K cd22 "_is_bound" = true)
    (k22 : PySem.W.keepIn K (.ref f22) = true)
    (a30 : PySem.W.nsIn K mainGlobals "_check_parts" = some (some (.ref f30)))
    (l30 : K.lookup f30 = some ⟨oc30, od30, .func (PySem.W.fnOf "_check_parts" "_check_parts" (defArgs (top 30)) (defBody (top 30)) (defScope (top 30)) .none kv30 dc30 pm30 an30 cd30 ct30), sl30⟩)
    (c30 : PySem.W.codeIn K cd30 "_check_parts" = true)
    (k30 : PySem.W.keepIn K (.ref f30) = true)
    (a32 : PySem.W.nsIn K mainGlobals "_law_stream" = some (some (.ref f32)))
    (l32 : K.lookup f32 = some ⟨oc32, od32, .func (PySem.W.fnOf "_law_stream" "_law_stream" (defArgs (top 32)) (defBody (top 32)) (defScope (top 32)) .none kv32 dc32 pm32 an32 cd32 ct32), sl32⟩)
    (c32 : PySem.W.codeIn K cd32 "_law_stream" = true)
    (k32 : PySem.W.keepIn K (.ref f32) = true)
    (a33 : PySem.W.nsIn K mainGlobals "_law_draw" = some (some (.ref f33)))
    (l33 : K.lookup f33 = some ⟨oc33, od33, .func (PySem.W.fnOf "_law_draw" "_law_draw" (defArgs (top 33)) (defBody (top 33)) (defScope (top 33)) .none kv33 dc33 pm33 an33 cd33 ct33), sl33⟩)
    (c33 : PySem.W.codeIn K cd33 "_law_draw" = true)
    (k33 : PySem.W.keepIn K (.ref f33) = true)
    (a34 : PySem.W.nsIn K mainGlobals "_law_pick" = some (some (.ref f34)))
    (l34 : K.lookup f34 = some ⟨oc34, od34, .func (PySem.W.fnOf "_law_pick" "_law_pick" (defArgs (top 34)) (defBody (top 34)) (defScope (top 34)) .none kv34 dc34 pm34 an34 cd34 ct34), sl34⟩)
    (c34 : PySem.W.codeIn K cd34 "_law_pick" = true)
    (k34 : PySem.W.keepIn K (.ref f34) = true)
    (a35 : PySem.W.nsIn K mainGlobals "_law_mixed" = some (some (.ref f35)))
    (l35 : K.lookup f35 = some ⟨oc35, od35, .func (PySem.W.fnOf "_law_mixed" "_law_mixed" (defArgs (top 35)) (defBody (top 35)) (defScope (top 35)) .none kv35 dc35 pm35 an35 cd35 ct35), sl35⟩)
    (c35 : PySem.W.codeIn K cd35 "_law_mixed" = true)
    (k35 : PySem.W.keepIn K (.ref f35) = true)
    (a36 : PySem.W.nsIn K mainGlobals "_law_names" = some (some (.ref f36)))
    (l36 : K.lookup f36 = some ⟨oc36, od36, .func (PySem.W.fnOf "_law_names" "_law_names" (defArgs (top 36)) (defBody (top 36)) (defScope (top 36)) .none kv36 dc36 pm36 an36 cd36 ct36), sl36⟩)
    (c36 : PySem.W.codeIn K cd36 "_law_names" = true)
    (k36 : PySem.W.keepIn K (.ref f36) = true)
    (a37 : PySem.W.nsIn K mainGlobals "_law_step" = some (some (.ref f37)))
    (l37 : K.lookup f37 = some ⟨oc37, od37, .func (PySem.W.fnOf "_law_step" "_law_step" (defArgs (top 37)) (defBody (top 37)) (defScope (top 37)) .none kv37 dc37 pm37 an37 cd37 ct37), sl37⟩)
    (c37 : PySem.W.codeIn K cd37 "_law_step" = true)
    (k37 : PySem.W.keepIn K (.ref f37) = true)
    (a38 : PySem.W.nsIn K mainGlobals "_law_bounds" = some (some (.ref f38)))
    (l38 : K.lookup f38 = some ⟨oc38, od38, .func (PySem.W.fnOf "_law_bounds" "_law_bounds" (defArgs (top 38)) (defBody (top 38)) (defScope (top 38)) .none kv38 dc38 pm38 an38 cd38 ct38), sl38⟩)
    (c38 : PySem.W.codeIn K cd38 "_law_bounds" = true)
    (k38 : PySem.W.keepIn K (.ref f38) = true)
    (a39 : PySem.W.nsIn K mainGlobals "_law_plan" = some (some (.ref f39)))
    (l39 : K.lookup f39 = some ⟨oc39, od39, .func (PySem.W.fnOf "_law_plan" "_law_plan" (defArgs (top 39)) (defBody (top 39)) (defScope (top 39)) .none kv39 dc39 pm39 an39 cd39 ct39), sl39⟩)
    (c39 : PySem.W.codeIn K cd39 "_law_plan" = true)
    (k39 : PySem.W.keepIn K (.ref f39) = true)
    (a40 : PySem.W.nsIn K mainGlobals "_law_built" = some (some (.ref f40)))
    (l40 : K.lookup f40 = some ⟨oc40, od40, .func (PySem.W.fnOf "_law_built" "_law_built" (defArgs (top 40)) (defBody (top 40)) (defScope (top 40)) .none kv40 dc40 pm40 an40 cd40 ct40), sl40⟩)
    (c40 : PySem.W.codeIn K cd40 "_law_built" = true)
    (k40 : PySem.W.keepIn K (.ref f40) = true)
    (a41 : PySem.W.nsIn K mainGlobals "_law_points" = some (some (.ref f41)))
    (l41 : K.lookup f41 = some ⟨oc41, od41, .func (PySem.W.fnOf "_law_points" "_law_points" (defArgs (top 41)) (defBody (top 41)) (defScope (top 41)) .none kv41 dc41 pm41 an41 cd41 ct41), sl41⟩)
    (c41 : PySem.W.codeIn K cd41 "_law_points" = true)
    (k41 : PySem.W.keepIn K (.ref f41) = true)
    (a42 : PySem.W.nsIn K mainGlobals "_law_near" = some (some (.ref f42)))
    (l42 : K.lookup f42 = some ⟨oc42, od42, .func (PySem.W.fnOf "_law_near" "_law_near" (defArgs (top 42)) (defBody (top 42)) (defScope (top 42)) .none kv42 dc42 pm42 an42 cd42 ct42), sl42⟩)
    (c42 : PySem.W.codeIn K cd42 "_law_near" = true)
    (k42 : PySem.W.keepIn K (.ref f42) = true)
    (a43 : PySem.W.nsIn K mainGlobals "_law_told_right" = some (some (.ref f43)))
    (l43 : K.lookup f43 = some ⟨oc43, od43, .func (PySem.W.fnOf "_law_told_right" "_law_told_right" (defArgs (top 43)) (defBody (top 43)) (defScope (top 43)) .none kv43 dc43 pm43 an43 cd43 ct43), sl43⟩)
    (c43 : PySem.W.codeIn K cd43 "_law_told_right" = true)
    (k43 : PySem.W.keepIn K (.ref f43) = true)
    (a44 : PySem.W.nsIn K mainGlobals "_law_holds_right" = some (some (.ref f44)))
    (l44 : K.lookup f44 = some ⟨oc44, od44, .func (PySem.W.fnOf "_law_holds_right" "_law_holds_right" (defArgs (top 44)) (defBody (top 44)) (defScope (top 44)) .none kv44 dc44 pm44 an44 cd44 ct44), sl44⟩)
    (c44 : PySem.W.codeIn K cd44 "_law_holds_right" = true)
    (k44 : PySem.W.keepIn K (.ref f44) = true)
    (a45 : PySem.W.nsIn K mainGlobals "_law_equal_right" = some (some (.ref f45)))
    (l45 : K.lookup f45 = some ⟨oc45, od45, .func (PySem.W.fnOf "_law_equal_right" "_law_equal_right" (defArgs (top 45)) (defBody (top 45)) (defScope (top 45)) .none kv45 dc45 pm45 an45 cd45 ct45), sl45⟩)
    (c45 : PySem.W.codeIn K cd45 "_law_equal_right" = true)
    (k45 : PySem.W.keepIn K (.ref f45) = true)
    (a46 : PySem.W.nsIn K mainGlobals "law" = some (some (.ref f46)))
    (l46 : K.lookup f46 = some ⟨oc46, od46, .func (PySem.W.fnOf "law" "law" (defArgs (top 46)) (defBody (top 46)) (defScope (top 46)) .none kv46 dc46 pm46 an46 cd46 ct46), sl46⟩)
    (c46 : PySem.W.codeIn K cd46 "law" = true)
    (k46 : PySem.W.keepIn K (.ref f46) = true)
    (g0 : PySem.W.nsIn K mainGlobals "MAX_DURATION" = some (some (.int 99 tk0)))
    (g1 : PySem.W.nsIn K mainGlobals "MAX_DELAY" = some (some (.int 99 tk1)))
    (g2 : PySem.W.nsIn K mainGlobals "MAX_BOUND" = some (some (.int 999 tk2)))
    (g3 : PySem.W.nsIn K mainGlobals "MAX_EVENTS" = some (some (.int 10 tk3)))
    (g4 : PySem.W.nsIn K mainGlobals "MAX_STEPS" = some (some (.int 5 tk4)))
    (g5 : PySem.W.nsIn K mainGlobals "MAX_HORIZON" = some (some (.int 99 tk5)))
    (z0 : PySem.W.nsIn K mainGlobals "isinstance" = some none)
    (z1 : PySem.W.nsIn K mainGlobals "int" = some none)
    (z2 : PySem.W.nsIn K mainGlobals "bool" = some none)
    (z3 : PySem.W.nsIn K mainGlobals "str" = some none)
    (z4 : PySem.W.nsIn K mainGlobals "tuple" = some none)
    (z5 : PySem.W.nsIn K mainGlobals "list" = some none)
    (z6 : PySem.W.nsIn K mainGlobals "dict" = some none)
    (z7 : PySem.W.nsIn K mainGlobals "set" = some none)
    (z8 : PySem.W.nsIn K mainGlobals "len" = some none)
    (z9 : PySem.W.nsIn K mainGlobals "range" = some none)
    (z10 : PySem.W.nsIn K mainGlobals "enumerate" = some none)
    (z11 : PySem.W.nsIn K mainGlobals "zip" = some none)
    (z12 : PySem.W.nsIn K mainGlobals "all" = some none)
    (z13 : PySem.W.nsIn K mainGlobals "any" = some none)
    (z14 : PySem.W.nsIn K mainGlobals "sum" = some none)
    (z15 : PySem.W.nsIn K mainGlobals "abs" = some none)
    (z16 : PySem.W.nsIn K mainGlobals "max" = some none)
    (z17 : PySem.W.nsIn K mainGlobals "min" = some none)
    (z18 : PySem.W.nsIn K mainGlobals "sorted" = some none)
    (z19 : PySem.W.nsIn K mainGlobals "repr" = some none)
    (aP : PySem.W.nsIn K mainGlobals "Plan" = some (some (.ref CP)))
    (aK : PySem.W.nsIn K mainGlobals "_KEYS" = some (some (.ref tK)))
    (lK : K.lookup tK = some ⟨.type "tuple", odK, .seq #[.str "horizon" tq1, .str "events" tq2, .str "steps" tq3, .str "bounds" tq4] nK, slK⟩)
    (im8 : PySem.W.findIn K (.ref CP) "step" = some (some (.ref fm8)))
    (lm8 : K.lookup fm8 = some ⟨ocm8, odm8, .func (PySem.W.fnOf "step" "Plan.step" (defArgs (mtop 28 8)) (defBody (mtop 28 8)) (defScope (mtop 28 8)) .none kvm8 dcm8 pmm8 anm8 cdm8 ctm8), slm8⟩)
    (cm8 : PySem.W.codeIn K cdm8 "Plan.step" = true)
    (km8 : PySem.W.keepIn K (.ref fm8) = true)
    (tm8 : PySem.W.isFn K (.ref fm8) = true)
    (im9 : PySem.W.findIn K (.ref CP) "bound" = some (some (.ref fm9)))
    (lm9 : K.lookup fm9 = some ⟨ocm9, odm9, .func (PySem.W.fnOf "bound" "Plan.bound" (defArgs (mtop 28 9)) (defBody (mtop 28 9)) (defScope (mtop 28 9)) .none kvm9 dcm9 pmm9 anm9 cdm9 ctm9), slm9⟩)
    (cm9 : PySem.W.codeIn K cdm9 "Plan.bound" = true)
    (km9 : PySem.W.keepIn K (.ref fm9) = true)
    (tm9 : PySem.W.isFn K (.ref fm9) = true)
    (im24 : PySem.W.findIn K (.ref CP) "__contains__" = some (some (.ref fm24)))
    (lm24 : K.lookup fm24 = some ⟨ocm24, odm24, .func (PySem.W.fnOf "__contains__" "Plan.__contains__" (defArgs (mtop 28 24)) (defBody (mtop 28 24)) (defScope (mtop 28 24)) .none kvm24 dcm24 pmm24 anm24 cdm24 ctm24), slm24⟩)
    (cm24 : PySem.W.codeIn K cdm24 "Plan.__contains__" = true)
    (km24 : PySem.W.keepIn K (.ref fm24) = true)
    (tm24 : PySem.W.isFn K (.ref fm24) = true)
    (im25 : PySem.W.findIn K (.ref CP) "__len__" = some (some (.ref fm25)))
    (lm25 : K.lookup fm25 = some ⟨ocm25, odm25, .func (PySem.W.fnOf "__len__" "Plan.__len__" (defArgs (mtop 28 25)) (defBody (mtop 28 25)) (defScope (mtop 28 25)) .none kvm25 dcm25 pmm25 anm25 cdm25 ctm25), slm25⟩)
    (cm25 : PySem.W.codeIn K cdm25 "Plan.__len__" = true)
    (km25 : PySem.W.keepIn K (.ref fm25) = true)
    (tm25 : PySem.W.isFn K (.ref fm25) = true)
    (im26 : PySem.W.findIn K (.ref CP) "__eq__" = some (some (.ref fm26)))
    (lm26 : K.lookup fm26 = some ⟨ocm26, odm26, .func (PySem.W.fnOf "__eq__" "Plan.__eq__" (defArgs (mtop 28 26)) (defBody (mtop 28 26)) (defScope (mtop 28 26)) .none kvm26 dcm26 pmm26 anm26 cdm26 ctm26), slm26⟩)
    (cm26 : PySem.W.codeIn K cdm26 "Plan.__eq__" = true)
    (km26 : PySem.W.keepIn K (.ref fm26) = true)
    (tm26 : PySem.W.isFn K (.ref fm26) = true)
    (im27 : PySem.W.findIn K (.ref CP) "__str__" = some (some (.ref fm27)))
    (lm27 : K.lookup fm27 = some ⟨ocm27, odm27, .func (PySem.W.fnOf "__str__" "Plan.__str__" (defArgs (mtop 28 27)) (defBody (mtop 28 27)) (defScope (mtop 28 27)) .none kvm27 dcm27 pmm27 anm27 cdm27 ctm27), slm27⟩)
    (cm27 : PySem.W.codeIn K cdm27 "Plan.__str__" = true)
    (km27 : PySem.W.keepIn K (.ref fm27) = true)
    (tm27 : PySem.W.isFn K (.ref fm27) = true)
    (im28 : PySem.W.findIn K (.ref CP) "_check_points" = some (some (.ref fm28)))
    (lm28 : K.lookup fm28 = some ⟨ocm28, odm28, .func (PySem.W.fnOf "_check_points" "Plan._check_points" (defArgs (mtop 28 28)) (defBody (mtop 28 28)) (defScope (mtop 28 28)) .none kvm28 dcm28 pmm28 anm28 cdm28 ctm28), slm28⟩)
    (cm28 : PySem.W.codeIn K cdm28 "Plan._check_points" = true)
    (km28 : PySem.W.keepIn K (.ref fm28) = true)
    (tm28 : PySem.W.isFn K (.ref fm28) = true)
    (ip2 : PySem.W.findIn K (.ref CP) "horizon" = some (some (.ref pp2)))
    (gp2 : PySem.W.specialIn K (.ref pp2) "__get__" = some (some (.builtin "property.__get__")))
    (tp2 : PySem.W.takesIn K (.ref pp2) = some true)
    (rp2 : PySem.W.recIn K pp2 "property" = some (.ref fp2 :: rr2))
    (lp2 : K.lookup fp2 = some ⟨ocp2, odp2, .func (PySem.W.fnOf "horizon" "Plan.horizon" (defArgs (mtop 28 2)) (defBody (mtop 28 2)) (defScope (mtop 28 2)) .none kvp2 dcp2 pmp2 anp2 cdp2 ctp2), slp2⟩)
    (cp2 : PySem.W.codeIn K cdp2 "Plan.horizon" = true)
    (kp2 : PySem.W.keepIn K (.ref fp2) = true)
    (ip3 : PySem.W.findIn K (.ref CP) "events" = some (some (.ref pp3)))
    (gp3 : PySem.W.specialIn K (.ref pp3) "__get__" = some (some (.builtin "property.__get__")))
    (tp3 : PySem.W.takesIn K (.ref pp3) = some true)
    (rp3 : PySem.W.recIn K pp3 "property" = some (.ref fp3 :: rr3))
    (lp3 : K.lookup fp3 = some ⟨ocp3, odp3, .func (PySem.W.fnOf "events" "Plan.events" (defArgs (mtop 28 3)) (defBody (mtop 28 3)) (defScope (mtop 28 3)) .none kvp3 dcp3 pmp3 anp3 cdp3 ctp3), slp3⟩)
    (cp3 : PySem.W.codeIn K cdp3 "Plan.events" = true)
    (kp3 : PySem.W.keepIn K (.ref fp3) = true)
    (ip4 : PySem.W.findIn K (.ref CP) "steps" = some (some (.ref pp4)))
    (gp4 : PySem.W.specialIn K (.ref pp4) "__get__" = some (some (.builtin "property.__get__")))
    (tp4 : PySem.W.takesIn K (.ref pp4) = some true)
    (rp4 : PySem.W.recIn K pp4 "property" = some (.ref fp4 :: rr4))
    (lp4 : K.lookup fp4 = some ⟨ocp4, odp4, .func (PySem.W.fnOf "steps" "Plan.steps" (defArgs (mtop 28 4)) (defBody (mtop 28 4)) (defScope (mtop 28 4)) .none kvp4 dcp4 pmp4 anp4 cdp4 ctp4), slp4⟩)
    (cp4 : PySem.W.codeIn K cdp4 "Plan.steps" = true)
    (kp4 : PySem.W.keepIn K (.ref fp4) = true)
    (ip5 : PySem.W.findIn K (.ref CP) "bounds" = some (some (.ref pp5)))
    (gp5 : PySem.W.specialIn K (.ref pp5) "__get__" = some (some (.builtin "property.__get__")))
    (tp5 : PySem.W.takesIn K (.ref pp5) = some true)
    (rp5 : PySem.W.recIn K pp5 "property" = some (.ref fp5 :: rr5))
    (lp5 : K.lookup fp5 = some ⟨ocp5, odp5, .func (PySem.W.fnOf "bounds" "Plan.bounds" (defArgs (mtop 28 5)) (defBody (mtop 28 5)) (defScope (mtop 28 5)) .none kvp5 dcp5 pmp5 anp5 cdp5 ctp5), slp5⟩)
    (cp5 : PySem.W.codeIn K cdp5 "Plan.bounds" = true)
    (kp5 : PySem.W.keepIn K (.ref fp5) = true)
    (ip6 : PySem.W.findIn K (.ref CP) "ends" = some (some (.ref pp6)))
    (gp6 : PySem.W.specialIn K (.ref pp6) "__get__" = some (some (.builtin "property.__get__")))
    (tp6 : PySem.W.takesIn K (.ref pp6) = some true)
    (rp6 : PySem.W.recIn K pp6 "property" = some (.ref fp6 :: rr6))
    (lp6 : K.lookup fp6 = some ⟨ocp6, odp6, .func (PySem.W.fnOf "ends" "Plan.ends" (defArgs (mtop 28 6)) (defBody (mtop 28 6)) (defScope (mtop 28 6)) .none kvp6 dcp6 pmp6 anp6 cdp6 ctp6), slp6⟩)
    (cp6 : PySem.W.codeIn K cdp6 "Plan.ends" = true)
    (kp6 : PySem.W.keepIn K (.ref fp6) = true)
    (ip7 : PySem.W.findIn K (.ref CP) "points" = some (some (.ref pp7)))
    (gp7 : PySem.W.specialIn K (.ref pp7) "__get__" = some (some (.builtin "property.__get__")))
    (tp7 : PySem.W.takesIn K (.ref pp7) = some true)
    (rp7 : PySem.W.recIn K pp7 "property" = some (.ref fp7 :: rr7))
    (lp7 : K.lookup fp7 = some ⟨ocp7, odp7, .func (PySem.W.fnOf "points" "Plan.points" (defArgs (mtop 28 7)) (defBody (mtop 28 7)) (defScope (mtop 28 7)) .none kvp7 dcp7 pmp7 anp7 cdp7 ctp7), slp7⟩)
    (cp7 : PySem.W.codeIn K cdp7 "Plan.points" = true)
    (kp7 : PySem.W.keepIn K (.ref fp7) = true)
    (n0 : NoAttr K CP "_horizon")
    (n1 : NoAttr K CP "_events")
    (n2 : NoAttr K CP "_steps")
    (n3 : NoAttr K CP "_bounds")
    (n4 : NoAttr K CP "_ends")
    (n5 : NoAttr K CP "_points")
    (n6 : NoAttr K CP "_step_by_end")
    (n7 : NoAttr K CP "_most_by_pair")
    (ii0 : PySem.W.findIn K (.ref CP) "__init__" = some (some (.ref fi0)))
    (li0 : K.lookup fi0 = some ⟨oci0, odi0, .func (PySem.W.fnOf "__init__" "Plan.__init__" (defArgs (mtop 28 0)) (defBody (mtop 28 0)) (defScope (mtop 28 0)) .none (.ref DI) dci0 pmi0 ani0 cdi0 cti0), sli0⟩)
    (ci0 : PySem.W.codeIn K cdi0 "Plan.__init__" = true)
    (ki0 : PySem.W.keepIn K (.ref fi0) = true)
    (ti0 : PySem.W.isFn K (.ref fi0) = true)
    (e1 : PySem.W.nsIn K DI "events" = some (some (.ref T1)))
    (le1 : K.lookup T1 = some ⟨.type "tuple", odE0, .seq #[] nE0, slE0⟩)
    (e2 : PySem.W.nsIn K DI "steps" = some (some (.ref T2)))
    (le2 : K.lookup T2 = some ⟨.type "tuple", odE1, .seq #[] nE1, slE1⟩)
    (e3 : PySem.W.nsIn K DI "bounds" = some (some (.ref T3)))
    (le3 : K.lookup T3 = some ⟨.type "tuple", odE2, .seq #[] nE2, slE2⟩)
    (mk : PySem.W.makesIn K CP = true)
    (kC : PySem.W.keepIn K (.ref CP) = true)
    (ofc : PySem.W.findCls K (.ref CP) (.type "type") "of" = some (.get (.builtin "classmethod.__get__") (.ref po) .none (.ref CP)))
    (ofr : PySem.W.recIn K po "classmethod" = some (.ref fo1 :: rro))
    (off : PySem.W.fnIn K fo1 = true)
    (lo1 : K.lookup fo1 = some ⟨oco1, odo1, .func (PySem.W.fnOf "of" "Plan.of" (defArgs (mtop 28 1)) (defBody (mtop 28 1)) (defScope (mtop 28 1)) .none kvo1 dco1 pmo1 ano1 cdo1 cto1), slo1⟩)
    (co1 : PySem.W.codeIn K cdo1 "Plan.of" = true)
    (ko1 : PySem.W.keepIn K (.ref fo1) = true)
    (rd : PySem.W.readsIn K CP (.type "type") = true)
    (rg : PySem.W.specialIn K (.ref CP) "__getattribute__" = some (some (.builtin "type.__getattribute__")))
    (cpg : PySem.W.plainGet K CP Str.empty = true)
    (chd : PySem.W.hasDictIn K CP = true)
    (cpo : PySem.W.plainOver K CP = true)
    (csa : PySem.W.findIn K (.ref CP) "__setattr__" = some (some (.builtin "object.__setattr__")))
    (cha : PySem.W.findIn K (Value.ref CP) "__class__" = some (some (Value.builtin "object.__class__")))
    (chn : PySem.W.specialIn K (Value.builtin "object.__class__") "__get__" = some (some (Value.builtin "getset_descriptor.__get__")))
    (cht : PySem.W.takesIn K (Value.builtin "object.__class__") = some true)
    (chm : PySem.W.mroIn K CP (Value.type "object") = some true)
    (nsC : PySem.W.subIn K (.ref CP) (.type "str") = some false)
    (neN : PySem.W.findIn K (.ref CP) "__ne__" = some (some (.builtin "object.__ne__")))
    (kit : kitB K CP = true)
    : ∃ fd : FuncData, (∀ (s : Shared) (v : Value), BindsTo s fd ⟨[v], []⟩ [("script", v)]) ∧ ∀ base : Heap, K.In base → base.Ns mainGlobals mg → FnD P w K mg base 14 fa fd ["script"] gLaw := by
  have e := hfa.symm.trans (PySem.W.mg_of X G a46)
  cases e
  have F2 := fun_mk (st := top 2) l2 c2 k2
  have b2 := F2.binds (ps := ["value"]) fun _ _ _ _ _ _ us hl => match us, hl with | [_], _ => rfl
  have D2 : Dfn K mg "is_integer" "is_integer" (top 2) ["value"] := ⟨_, _, F2, PySem.W.mg_of X G a2, b2⟩
  have F3 := fun_mk (st := top 3) l3 c3 k3
  have b3 := F3.binds (ps := ["value", "least", "most"]) fun _ _ _ _ _ _ us hl => match us, hl with | [_, _, _], _ => rfl
  have D3 : Dfn K mg "is_between" "is_between" (top 3) ["value", "least", "most"] := ⟨_, _, F3, PySem.W.mg_of X G a3, b3⟩
  have F12 := fun_mk (st := top 12) l12 c12 k12
  have b12 := F12.binds (ps := ["value"]) fun _ _ _ _ _ _ us hl => match us, hl with | [_], _ => rfl
  have D12 : Dfn K mg "is_name" "is_name" (top 12) ["value"] := ⟨_, _, F12, PySem.W.mg_of X G a12, b12⟩
  have F17 := fun_mk (st := top 17) l17 c17 k17
  have b17 := F17.binds (ps := ["value"]) fun _ _ _ _ _ _ us hl => match us, hl with | [_], _ => rfl
  have D17 : Dfn K mg "are_events" "are_events" (top 17) ["value"] := ⟨_, _, F17, PySem.W.mg_of X G a17, b17⟩
  have F18 := fun_mk (st := top 18) l18 c18 k18
  have b18 := F18.binds (ps := ["value", "events"]) fun _ _ _ _ _ _ us hl => match us, hl with | [_, _], _ => rfl
  have D18 : Dfn K mg "are_steps" "are_steps" (top 18) ["value", "events"] := ⟨_, _, F18, PySem.W.mg_of X G a18, b18⟩
  have F19 := fun_mk (st := top 19) l19 c19 k19
  have b19 := F19.binds (ps := ["value", "points"]) fun _ _ _ _ _ _ us hl => match us, hl with | [_, _], _ => rfl
  have D19 : Dfn K mg "are_bounds" "are_bounds" (top 19) ["value", "points"] := ⟨_, _, F19, PySem.W.mg_of X G a19, b19⟩
  have F20 := fun_mk (st := top 20) l20 c20 k20
  have b20 := F20.binds (ps := ["value"]) fun _ _ _ _ _ _ us hl => match us, hl with | [_], _ => rfl
  have D20 : Dfn K mg "is_delay" "is_delay" (top 20) ["value"] := ⟨_, _, F20, PySem.W.mg_of X G a20, b20⟩
  have F21 := fun_mk (st := top 21) l21 c21 k21
  have b21 := F21.binds (ps := ["value", "events"]) fun _ _ _ _ _ _ us hl => match us, hl with | [_, _], _ => rfl
  have D21 : Dfn K mg "_is_step" "_is_step" (top 21) ["value", "events"] := ⟨_, _, F21, PySem.W.mg_of X G a21, b21⟩
  have F22 := fun_mk (st := top 22) l22 c22 k22
  have b22 := F22.binds (ps := ["value", "points"]) fun _ _ _ _ _ _ us hl => match us, hl with | [_, _], _ => rfl
  have D22 : Dfn K mg "_is_bound" "_is_bound" (top 22) ["value", "points"] := ⟨_, _, F22, PySem.W.mg_of X G a22, b22⟩
  have F30 := fun_mk (st := top 30) l30 c30 k30
  have b30 := F30.binds (ps := ["events", "steps", "bounds"]) fun _ _ _ _ _ _ us hl => match us, hl with | [_, _, _], _ => rfl
  have D30 : Dfn K mg "_check_parts" "_check_parts" (top 30) ["events", "steps", "bounds"] := ⟨_, _, F30, PySem.W.mg_of X G a30, b30⟩
  have F32 := fun_mk (st := top 32) l32 c32 k32
  have b32 := F32.binds (ps := ["script", "at"]) fun _ _ _ _ _ _ us hl => match us, hl with | [_, _], _ => rfl
  have D32 : Dfn K mg "_law_stream" "_law_stream" (top 32) ["script", "at"] := ⟨_, _, F32, PySem.W.mg_of X G a32, b32⟩
  have F33 := fun_mk (st := top 33) l33 c33 k33
  have b33 := F33.binds (ps := ["stream", "total"]) fun _ _ _ _ _ _ us hl => match us, hl with | [_, _], _ => rfl
  have D33 : Dfn K mg "_law_draw" "_law_draw" (top 33) ["stream", "total"] := ⟨_, _, F33, PySem.W.mg_of X G a33, b33⟩
  have F34 := fun_mk (st := top 34) l34 c34 k34
  have b34 := F34.binds (ps := ["stream", "items"]) fun _ _ _ _ _ _ us hl => match us, hl with | [_, _], _ => rfl
  have D34 : Dfn K mg "_law_pick" "_law_pick" (top 34) ["stream", "items"] := ⟨_, _, F34, PySem.W.mg_of X G a34, b34⟩
  have F35 := fun_mk (st := top 35) l35 c35 k35
  have b35 := F35.binds (ps := ["stream", "items"]) fun _ _ _ _ _ _ us hl => match us, hl with | [_, _], _ => rfl
  have D35 : Dfn K mg "_law_mixed" "_law_mixed" (top 35) ["stream", "items"] := ⟨_, _, F35, PySem.W.mg_of X G a35, b35⟩
  have F36 := fun_mk (st := top 36) l36 c36 k36
  have b36 := F36.binds (ps := ["stream", "total"]) fun _ _ _ _ _ _ us hl => match us, hl with | [_, _], _ => rfl
  have D36 : Dfn K mg "_law_names" "_law_names" (top 36) ["stream", "total"] := ⟨_, _, F36, PySem.W.mg_of X G a36, b36⟩
  have F37 := fun_mk (st := top 37) l37 c37 k37
  have b37 := F37.binds (ps := ["stream", "end", "doing", "span"]) fun _ _ _ _ _ _ us hl => match us, hl with | [_, _, _, _], _ => rfl
  have D37 : Dfn K mg "_law_step" "_law_step" (top 37) ["stream", "end", "doing", "span"] := ⟨_, _, F37, PySem.W.mg_of X G a37, b37⟩
  have F38 := fun_mk (st := top 38) l38 c38 k38
  have b38 := F38.binds (ps := ["stream", "points", "span"]) fun _ _ _ _ _ _ us hl => match us, hl with | [_, _, _], _ => rfl
  have D38 : Dfn K mg "_law_bounds" "_law_bounds" (top 38) ["stream", "points", "span"] := ⟨_, _, F38, PySem.W.mg_of X G a38, b38⟩
  have F39 := fun_mk (st := top 39) l39 c39 k39
  have b39 := F39.binds (ps := ["stream", "most", "most_works", "span", "high"]) fun _ _ _ _ _ _ us hl => match us, hl with | [_, _, _, _, _], _ => rfl
  have D39 : Dfn K mg "_law_plan" "_law_plan" (top 39) ["stream", "most", "most_works", "span", "high"] := ⟨_, _, F39, PySem.W.mg_of X G a39, b39⟩
  have F40 := fun_mk (st := top 40) l40 c40 k40
  have b40 := F40.binds (ps := ["stream", "plain"]) fun _ _ _ _ _ _ us hl => match us, hl with | [_, _], _ => rfl
  have D40 : Dfn K mg "_law_built" "_law_built" (top 40) ["stream", "plain"] := ⟨_, _, F40, PySem.W.mg_of X G a40, b40⟩
  have F41 := fun_mk (st := top 41) l41 c41 k41
  have b41 := F41.binds (ps := ["plain"]) fun _ _ _ _ _ _ us hl => match us, hl with | [_], _ => rfl
  have D41 : Dfn K mg "_law_points" "_law_points" (top 41) ["plain"] := ⟨_, _, F41, PySem.W.mg_of X G a41, b41⟩
  have F42 := fun_mk (st := top 42) l42 c42 k42
  have b42 := F42.binds (ps := ["stream", "plain"]) fun _ _ _ _ _ _ us hl => match us, hl with | [_, _], _ => rfl
  have D42 : Dfn K mg "_law_near" "_law_near" (top 42) ["stream", "plain"] := ⟨_, _, F42, PySem.W.mg_of X G a42, b42⟩
  have F43 := fun_mk (st := top 43) l43 c43 k43
  have b43 := F43.binds (ps := ["plain", "plan"]) fun _ _ _ _ _ _ us hl => match us, hl with | [_, _], _ => rfl
  have D43 : Dfn K mg "_law_told_right" "_law_told_right" (top 43) ["plain", "plan"] := ⟨_, _, F43, PySem.W.mg_of X G a43, b43⟩
  have F44 := fun_mk (st := top 44) l44 c44 k44
  have b44 := F44.binds (ps := ["stream", "plain", "plan"]) fun _ _ _ _ _ _ us hl => match us, hl with | [_, _, _], _ => rfl
  have D44 : Dfn K mg "_law_holds_right" "_law_holds_right" (top 44) ["stream", "plain", "plan"] := ⟨_, _, F44, PySem.W.mg_of X G a44, b44⟩
  have F45 := fun_mk (st := top 45) l45 c45 k45
  have b45 := F45.binds (ps := ["stream", "plain", "plan"]) fun _ _ _ _ _ _ us hl => match us, hl with | [_, _, _], _ => rfl
  have D45 : Dfn K mg "_law_equal_right" "_law_equal_right" (top 45) ["stream", "plain", "plan"] := ⟨_, _, F45, PySem.W.mg_of X G a45, b45⟩
  have F46 := fun_mk (st := top 46) l46 c46 k46
  have Fm8 := fun_mk (st := mtop 28 8) lm8 cm8 km8
  have bm8 := Fm8.binds (ps := ["self", "end"]) fun _ _ _ _ _ _ us hl => match us, hl with | [_, _], _ => rfl
  have Fm9 := fun_mk (st := mtop 28 9) lm9 cm9 km9
  have bm9 := Fm9.binds (ps := ["self", "first", "second"]) fun _ _ _ _ _ _ us hl => match us, hl with | [_, _, _], _ => rfl
  have Fm24 := fun_mk (st := mtop 28 24) lm24 cm24 km24
  have bm24 := Fm24.binds (ps := ["self", "value"]) fun _ _ _ _ _ _ us hl => match us, hl with | [_, _], _ => rfl
  have Fm25 := fun_mk (st := mtop 28 25) lm25 cm25 km25
  have bm25 := Fm25.binds (ps := ["self"]) fun _ _ _ _ _ _ us hl => match us, hl with | [_], _ => rfl
  have Fm26 := fun_mk (st := mtop 28 26) lm26 cm26 km26
  have bm26 := Fm26.binds (ps := ["self", "other"]) fun _ _ _ _ _ _ us hl => match us, hl with | [_, _], _ => rfl
  have Fm27 := fun_mk (st := mtop 28 27) lm27 cm27 km27
  have bm27 := Fm27.binds (ps := ["self"]) fun _ _ _ _ _ _ us hl => match us, hl with | [_], _ => rfl
  have Fm28 := fun_mk (st := mtop 28 28) lm28 cm28 km28
  have bm28 := Fm28.binds (ps := ["self", "points"]) fun _ _ _ _ _ _ us hl => match us, hl with | [_, _], _ => rfl
  have Fp2 := fun_mk (st := mtop 28 2) lp2 cp2 kp2
  have bp2 := Fp2.binds (ps := ["self"]) fun _ _ _ _ _ _ us hl => match us, hl with | [_], _ => rfl
  have Fp3 := fun_mk (st := mtop 28 3) lp3 cp3 kp3
  have bp3 := Fp3.binds (ps := ["self"]) fun _ _ _ _ _ _ us hl => match us, hl with | [_], _ => rfl
  have Fp4 := fun_mk (st := mtop 28 4) lp4 cp4 kp4
  have bp4 := Fp4.binds (ps := ["self"]) fun _ _ _ _ _ _ us hl => match us, hl with | [_], _ => rfl
  have Fp5 := fun_mk (st := mtop 28 5) lp5 cp5 kp5
  have bp5 := Fp5.binds (ps := ["self"]) fun _ _ _ _ _ _ us hl => match us, hl with | [_], _ => rfl
  have Fp6 := fun_mk (st := mtop 28 6) lp6 cp6 kp6
  have bp6 := Fp6.binds (ps := ["self"]) fun _ _ _ _ _ _ us hl => match us, hl with | [_], _ => rfl
  have Fp7 := fun_mk (st := mtop 28 7) lp7 cp7 kp7
  have bp7 := Fp7.binds (ps := ["self"]) fun _ _ _ _ _ _ us hl => match us, hl with | [_], _ => rfl
  have cl : Cls K CP := ⟨cpg, chd, cpo, csa⟩
  have co : ClsOk K CP := by
    obtain ⟨k1, k2⟩ := Bool.and_eq_true_iff.mp kit
    obtain ⟨k2, k3⟩ := Bool.and_eq_true_iff.mp k2
    exact ⟨cl, cha, chn, cht, chm, fun n hn => of_decide_eq_true (List.all_eq_true.mp k1 n hn), fun n hn => of_decide_eq_true (List.all_eq_true.mp k2 n hn), of_decide_eq_true k3⟩
  have gP := PySem.W.mg_of X G aP
  have FI : FunD K "__init__" "Plan.__init__" (defArgs (mtop 28 0)) (defBody (mtop 28 0)) (defScope (mtop 28 0)) [] [("events", .ref T1), ("steps", .ref T2), ("bounds", .ref T3)] fi0 (PySem.W.fnOf "__init__" "Plan.__init__" (defArgs (mtop 28 0)) (defBody (mtop 28 0)) (defScope (mtop 28 0)) .none (.ref DI) dci0 pmi0 ani0 cdi0 cti0) := ⟨⟨_, _, _, _, _, _, _, _, _, _, rfl, li0, ci0, .inl ⟨rfl, rfl⟩, .inr ⟨DI, rfl, fun q hq => by
      rcases List.mem_cons.mp hq with rfl | hq
      · exact ⟨_, e1, rfl⟩
      rcases List.mem_cons.mp hq with rfl | hq
      · exact ⟨_, e2, rfl⟩
      rcases List.mem_cons.mp hq with rfl | hq
      · exact ⟨_, e3, rfl⟩
      cases hq⟩⟩, ki0⟩
  have FO : FunD K "of" "Plan.of" (defArgs (mtop 28 1)) (defBody (mtop 28 1)) (defScope (mtop 28 1)) [] [] fo1 (PySem.W.fnOf "of" "Plan.of" (defArgs (mtop 28 1)) (defBody (mtop 28 1)) (defScope (mtop 28 1)) .none kvo1 dco1 pmo1 ano1 cdo1 cto1) := ⟨⟨_, _, _, _, _, _, _, _, _, _, rfl, lo1, co1, .inl ⟨rfl, rfl⟩, .inl rfl⟩, ko1⟩
  have bO : Binds K (PySem.W.fnOf "of" "Plan.of" (defArgs (mtop 28 1)) (defBody (mtop 28 1)) (defScope (mtop 28 1)) .none kvo1 dco1 pmo1 ano1 cdo1 cto1) ["cls", "values"] [] := FO.bindsN fun _ _ _ _ _ _ us hl => match us, hl with | [_, _], _ => rfl
  have bI : ∃ ds, Vals [V.ref T1, .ref T2, .ref T3] ds ∧ Binds K (PySem.W.fnOf "__init__" "Plan.__init__" (defArgs (mtop 28 0)) (defBody (mtop 28 0)) (defScope (mtop 28 0)) .none (.ref DI) dci0 pmi0 ani0 cdi0 cti0) psInit ds := FI.binds0 2 (by intro e; cases e) rfl fun D doc pm an cdv ct us ks h1 h2 => by
    match us, ks, h1, h2 with
    | [a, b], [x, y, z], _, _ => exact ⟨_, _, _, _, _, _, rfl, rfl, _, _, _, _, _, _, rfl, rfl, _, _, _, _, _, _, rfl, rfl, rfl⟩
  have bK : ∃ g', KBn K (PySem.W.fnOf "__init__" "Plan.__init__" (defArgs (mtop 28 0)) (defBody (mtop 28 0)) (defScope (mtop 28 0)) .none (.ref DI) dci0 pmi0 ani0 cdi0 cti0) psInit (1 + 1) ["events", "steps", "bounds"] g' addV := by
    obtain ⟨mv, q⟩ := FI.kbinds0 (ps := psInit) 2 ["events", "steps", "bounds"] [] (fun us _ ws => us ++ ws) (by intro e; cases e) (by intro q hq; cases hq) (fun r1 _ r3 => r1.append r3) fun D doc pm an cdv ct us mv ws h1 h2 h3 => by
      match us, mv, ws, h1, h2, h3 with
      | [a, b], [], [x, y, z], _, _, _ => rfl
    exact ⟨_, q⟩
  refine ⟨PySem.W.fnOf "law" "law" (defArgs (top 46)) (defBody (top 46)) (defScope (top 46)) .none kv46 dc46 pm46 an46 cd46 ct46, fun s v => .of_eq rfl, fun base _ _ => ?_⟩
  have T : Bl mg := ⟨PySem.W.mg_none_of X G z0, PySem.W.mg_none_of X G z1, PySem.W.mg_none_of X G z2, PySem.W.mg_none_of X G z3, PySem.W.mg_none_of X G z4, PySem.W.mg_none_of X G z5, PySem.W.mg_none_of X G z6, PySem.W.mg_none_of X G z7, PySem.W.mg_none_of X G z8, PySem.W.mg_none_of X G z9, PySem.W.mg_none_of X G z10, PySem.W.mg_none_of X G z11, PySem.W.mg_none_of X G z12, PySem.W.mg_none_of X G z13, PySem.W.mg_none_of X G z14, PySem.W.mg_none_of X G z15, PySem.W.mg_none_of X G z16, PySem.W.mg_none_of X G z17, PySem.W.mg_none_of X G z18, PySem.W.mg_none_of X G z19⟩
  have TB : TxtB mg := ⟨PySem.W.mg_none_of X G z8, PySem.W.mg_none_of X G z1, PySem.W.mg_none_of X G z15, PySem.W.mg_none_of X G z16⟩
  have TM : TxtM K mg f33 (PySem.W.fnOf "_law_draw" "_law_draw" (defArgs (top 33)) (defBody (top 33)) (defScope (top 33)) .none kv33 dc33 pm33 an33 cd33 ct33) := ⟨PySem.W.mg_of X G a33, k33, b33, PySem.W.mg_none_of X G z5, PySem.W.mg_none_of X G z8, PySem.W.mg_none_of X G z9, PySem.W.mg_none_of X G z4⟩
  have G_MAX_DURATION := PySem.W.mg_of X G g0
  have G_MAX_DELAY := PySem.W.mg_of X G g1
  have G_MAX_BOUND := PySem.W.mg_of X G g2
  have G_MAX_EVENTS := PySem.W.mg_of X G g3
  have G_MAX_STEPS := PySem.W.mg_of X G g4
  have G_MAX_HORIZON := PySem.W.mg_of X G g5
  have C1 := ok_is_integer (P := P) (w := w) (base := base) T D2
  have C2 := ok_is_between T C1 D3
  have C3 := ok_is_name (P := P) (w := w) (base := base) T D12
  have C4 := ok_are_events T C3 D17
  have C5 := ok_is_delay T C2 G_MAX_DELAY D20
  have C6 := ok_is_step T C3 C2 C5 G_MAX_DURATION D21
  have C7 := ok_are_steps T C6 D18
  have C8 := ok_is_bound T C2 G_MAX_BOUND D22
  have C9 := ok_are_bounds T C8 D19
  have C10 := ok_check_parts T C9 C4 C7 G_MAX_EVENTS G_MAX_STEPS D30
  have I0 := ok_init T C10 C2 G_MAX_HORIZON n3 n4 n1 n0 n7 n5 n6 n2 FI
  have IP : Ini P w K mg base "Plan" CP 8 psInit (fun fd => fd = PySem.W.fnOf "__init__" "Plan.__init__" (defArgs (mtop 28 0)) (defBody (mtop 28 0)) (defScope (mtop 28 0)) .none (.ref DI) dci0 pmi0 ani0 cdi0 cti0) gIniP := ⟨_, _, I0, ⟨mk, ii0, ti0, kC⟩, co, gP, rfl⟩
  have BP3 : Kw3 K (fun fd => fd = PySem.W.fnOf "__init__" "Plan.__init__" (defArgs (mtop 28 0)) (defBody (mtop 28 0)) (defScope (mtop 28 0)) .none (.ref DI) dci0 pmi0 ani0 cdi0 cti0) addV := by
    rintro fd rfl
    exact bK
  have BPR : KwR K addV := fun W a vs zs ds es r1 r2 => ⟨vs ++ zs, rfl, r1.app r2⟩
  have BP : ∀ fd, fd = PySem.W.fnOf "__init__" "Plan.__init__" (defArgs (mtop 28 0)) (defBody (mtop 28 0)) (defScope (mtop 28 0)) .none (.ref DI) dci0 pmi0 ani0 cdi0 cti0 → ∃ ds, Vals [V.ref T1, .ref T2, .ref T3] ds ∧ Binds K fd psInit ds := by
    rintro fd rfl
    exact bI
  have RP : ∀ W : Wd, RepL K W [V.ref T1, .ref T2, .ref T3] [.tup [], .tup [], .tup []] := fun W => .cons (empty_of le1 W) (.cons (empty_of le2 W) (.cons (empty_of le3 W) .nil))
  have P_horizon : Prt P w K mg base CP "horizon" "_horizon" := ⟨cl, pp2, fp2, _, ⟨ip2, gp2, tp2, ⟨_, rp2⟩⟩, fn_getter (N := ["self"]) lp2 cp2 ⟨rfl, rfl, rfl, by decide +kernel, rfl, by decide +kernel, by decide +kernel⟩ rfl rfl cl n0, bp2⟩
  have P_events : Prt P w K mg base CP "events" "_events" := ⟨cl, pp3, fp3, _, ⟨ip3, gp3, tp3, ⟨_, rp3⟩⟩, fn_getter (N := ["self"]) lp3 cp3 ⟨rfl, rfl, rfl, by decide +kernel, rfl, by decide +kernel, by decide +kernel⟩ rfl rfl cl n1, bp3⟩
  have P_steps : Prt P w K mg base CP "steps" "_steps" := ⟨cl, pp4, fp4, _, ⟨ip4, gp4, tp4, ⟨_, rp4⟩⟩, fn_getter (N := ["self"]) lp4 cp4 ⟨rfl, rfl, rfl, by decide +kernel, rfl, by decide +kernel, by decide +kernel⟩ rfl rfl cl n2, bp4⟩
  have P_bounds : Prt P w K mg base CP "bounds" "_bounds" := ⟨cl, pp5, fp5, _, ⟨ip5, gp5, tp5, ⟨_, rp5⟩⟩, fn_getter (N := ["self"]) lp5 cp5 ⟨rfl, rfl, rfl, by decide +kernel, rfl, by decide +kernel, by decide +kernel⟩ rfl rfl cl n3, bp5⟩
  have P_ends : Prt P w K mg base CP "ends" "_ends" := ⟨cl, pp6, fp6, _, ⟨ip6, gp6, tp6, ⟨_, rp6⟩⟩, fn_getter (N := ["self"]) lp6 cp6 ⟨rfl, rfl, rfl, by decide +kernel, rfl, by decide +kernel, by decide +kernel⟩ rfl rfl cl n4, bp6⟩
  have P_points : Prt P w K mg base CP "points" "_points" := ⟨cl, pp7, fp7, _, ⟨ip7, gp7, tp7, ⟨_, rp7⟩⟩, fn_getter (N := ["self"]) lp7 cp7 ⟨rfl, rfl, rfl, by decide +kernel, rfl, by decide +kernel, by decide +kernel⟩ rfl rfl cl n5, bp7⟩
  have L_len : Spc P w K mg base CP "__len__" 1 ["self"] (gLen CP) := ⟨cl, fm25, _, im25, tm25, ok_len T n5 Fm25, bm25⟩
  have L_str : Spc P w K mg base CP "__str__" 1 ["self"] (gStrP CP) := ⟨cl, fm27, _, im27, tm27, ok_str T n1 n2 n3 Fm27, bm27⟩
  have S_eq : Spc P w K mg base CP "__eq__" 3 ["self", "other"] (gEqP CP) := ⟨cl, fm26, _, im26, tm26, ok_eq T co gP n3 n1 n0 n2 P_bounds P_events P_horizon P_steps Fm26, bm26⟩
  have S_in : Spc P w K mg base CP "__contains__" 5 ["self", "value"] (gCont CP) := ⟨cl, fm24, _, im24, tm24, ok_contains2 T n5 nsC S_eq Fm24, bm24⟩
  have M_cp : Mth P w K mg base CP "_check_points" 1 ["self", "points"] (gChkPts CP) := ⟨cl, fm28, _, ⟨im28, tm28, km28⟩, ok_check_points T n5 Fm28, bm28⟩
  have M_step : Mth P w K mg base CP "step" 1 ["self", "end"] (gStepP CP) := ⟨cl, fm8, _, ⟨im8, tm8, km8⟩, ok_step T n4 n6 Fm8, bm8⟩
  have M_bound : Mth P w K mg base CP "bound" 2 ["self", "first", "second"] (gBoundP CP) := ⟨cl, fm9, _, ⟨im9, tm9, km9⟩, ok_bound T n7 M_cp Fm9, bm9⟩
  have KT : KTup K mg "_KEYS" ["horizon", "events", "steps", "bounds"] := ⟨tK, PySem.W.mg_of X G aK, .inr ⟨_, _, nK, lK, rfl, rfl, by rw [sizeLine_eq]; exact (show (4 : Nat) ≤ 16777216 by decide), kv4⟩⟩
  have N_of : Cmt P w K mg base "Plan" CP "of" 10 ["cls", "values"] (gOf CP) := ⟨gP, .type "type", po, fo1, _, ⟨rd, rg⟩, ⟨ofc, ⟨_, ofr⟩, off⟩, ok_of T KT IP BP3 BPR FO, bO⟩
  have S1 := cal_stream (P := P) (w := w) (base := base) TB F32 (PySem.W.mg_of X G a32) b32
  have S2 := cal_draw (P := P) (w := w) (base := base) TB F33 (PySem.W.mg_of X G a33) b33
  have S3 := cal_mixed (P := P) (w := w) (base := base) TM TB F33 F35 (PySem.W.mg_of X G a35) b35
  have S4 := ok_law_pick T S2 D34
  have S5 := ok_law_names T S3 D36
  have S6 := ok_law_step T S2 S4 D37
  have S7 := ok_law_bounds T S2 S3 D38
  have S8 := ok_law_plan T S2 S4 S5 S6 S7 D39
  have S9 := ok_law_built T S3 IP BP3 BPR D40
  have S10 := ok_law_points (P := P) (w := w) (base := base) T D41
  have S11 := ok_law_near T S2 S4 D42
  have S12 := ok_law_told T S10 P_bounds P_events P_horizon P_steps P_ends P_points L_len L_str M_step M_bound D43
  have S13 := ok_law_holds T nsC S10 S4 S_in S_eq D44
  have S14 := ok_law_equal T co neN S2 S3 S11 S9 S12 S_eq L_str N_of D45
  exact ok_law T co S1 S4 S8 S9 S12 S14 S13 G_MAX_EVENTS G_MAX_STEPS G_MAX_HORIZON S_eq S_in L_len N_of IP BP RP F46
end K05

set_option Elab.async false
open PySem PySem.W PyProof.Rows in
set_option maxRecDepth 100000 in
set_option maxHeartbeats 0 in
theorem PySem.Challenge.cw_heardlate_k05_plans_made_holds : PySem.Challenge.rw_heardlate_k05_plans_made.Holds := by
  w_on; o_law; k_head; (case hw => w_witness2)
  k_fill
  refine DL.walk_ofD (l := PySem.Challenge.rw_heardlate_k05_plans_made) (n := 63) (k := 14) (x := "script") rfl (by decide) rfl ⟨rfl, by decide, by decide⟩ (fun w h Y => PySem.W.kIn_of Y) ?F
  case F =>
    intro w mg fa h KX G hmg
    refine' K05.all_mk KX G hmg ?q_a2 ?q_l2 ?q_c2 ?q_k2 ?q_a3 ?q_l3 ?q_c3 ?q_k3 ?q_a12 ?q_l12 ?q_c12 ?q_k12 ?q_a17 ?q_l17 ?q_c17 ?q_k17 ?q_a18 ?q_l18 ?q_c18 ?q_k18 ?q_a19 ?q_l19 ?q_c19 ?q_k19 ?q_a20 ?q_l20 ?q_c20 ?q_k20 ?q_a21 ?q_l21 ?q_c21 ?q_k21 ?q_a22 ?q_l22 ?q_c22 ?q_k22 ?q_a30 ?q_l30 ?q_c30 ?q_k30 ?q_a32 ?q_l32 ?q_c32 ?q_k32 ?q_a33 ?q_l33 ?q_c33 ?q_k33 ?q_a34 ?q_l34 ?q_c34 ?q_k34 ?q_a35 ?q_l35 ?q_c35 ?q_k35 ?q_a36 ?q_l36 ?q_c36 ?q_k36 ?q_a37 ?q_l37 ?q_c37 ?q_k37 ?q_a38 ?q_l38 ?q_c38 ?q_k38 ?q_a39 ?q_l39 ?q_c39 ?q_k39 ?q_a40 ?q_l40 ?q_c40 ?q_k40 ?q_a41 ?q_l41 ?q_c41 ?q_k41 ?q_a42 ?q_l42 ?q_c42 ?q_k42 ?q_a43 ?q_l43 ?q_c43 ?q_k43 ?q_a44 ?q_l44 ?q_c44 ?q_k44 ?q_a45 ?q_l45 ?q_c45 ?q_k45 ?q_a46 ?q_l46 ?q_c46 ?q_k46 ?q_g0 ?q_g1 ?q_g2 ?q_g3 ?q_g4 ?q_g5 ?q_z0 ?q_z1 ?q_z2 ?q_z3 ?q_z4 ?q_z5 ?q_z6 ?q_z7 ?q_z8 ?q_z9 ?q_z10 ?q_z11 ?q_z12 ?q_z13 ?q_z14 ?q_z15 ?q_z16 ?q_z17 ?q_z18 ?q_z19 ?q_aP ?q_aK ?q_lK ?q_im8 ?q_lm8 ?q_cm8 ?q_km8 ?q_tm8 ?q_im9 ?q_lm9 ?q_cm9 ?q_km9 ?q_tm9 ?q_im24 ?q_lm24 ?q_cm24 ?q_km24 ?q_tm24 ?q_im25 ?q_lm25 ?q_cm25 ?q_km25 ?q_tm25 ?q_im26 ?q_lm26 ?q_cm26 ?q_km26 ?q_tm26 ?q_im27 ?q_lm27 ?q_cm27 ?q_km27 ?q_tm27 ?q_im28 ?q_lm28 ?q_cm28 ?q_km28 ?q_tm28 ?q_ip2 ?q_gp2 ?q_tp2 ?q_rp2 ?q_lp2 ?q_cp2 ?q_kp2 ?q_ip3 ?q_gp3 ?q_tp3 ?q_rp3 ?q_lp3 ?q_cp3 ?q_kp3 ?q_ip4 ?q_gp4 ?q_tp4 ?q_rp4 ?q_lp4 ?q_cp4 ?q_kp4 ?q_ip5 ?q_gp5 ?q_tp5 ?q_rp5 ?q_lp5 ?q_cp5 ?q_kp5 ?q_ip6 ?q_gp6 ?q_tp6 ?q_rp6 ?q_lp6 ?q_cp6 ?q_kp6 ?q_ip7 ?q_gp7 ?q_tp7 ?q_rp7 ?q_lp7 ?q_cp7 ?q_kp7 ?q_n0 ?q_n1 ?q_n2 ?q_n3 ?q_n4 ?q_n5 ?q_n6 ?q_n7 ?q_ii0 ?q_li0 ?q_ci0 ?q_ki0 ?q_ti0 ?q_e1 ?q_le1 ?q_e2 ?q_le2 ?q_e3 ?q_le3 ?q_mk ?q_kC ?q_ofc ?q_ofr ?q_off ?q_lo1 ?q_co1 ?q_ko1 ?q_rd ?q_rg ?q_cpg ?q_chd ?q_cpo ?q_csa ?q_cha ?q_chn ?q_cht ?q_chm ?q_nsC ?q_neN ?q_kit
    (case q_a2 => k_is)
    (case q_l2 => k_is)
    (case q_c2 => k_is)
    (case q_k2 => k_is)
    (case q_a3 => k_is)
    (case q_l3 => k_is)
    (case q_c3 => k_is)
    (case q_k3 => k_is)
    (case q_a12 => k_is)
    (case q_l12 => k_is)
    (case q_c12 => k_is)
    (case q_k12 => k_is)
    (case q_a17 => k_is)
    (case q_l17 => k_is)
    (case q_c17 => k_is)
    (case q_k17 => k_is)
    (case q_a18 => k_is)
    (case q_l18 => k_is)
    (case q_c18 => k_is)
    (case q_k18 => k_is)
    (case q_a19 => k_is)
    (case q_l19 => k_is)
    (case q_c19 => k_is)
    (case q_k19 => k_is)
    (case q_a20 => k_is)
    (case q_l20 => k_is)
    (case q_c20 => k_is)
    (case q_k20 => k_is)
    (case q_a21 => k_is)
    (case q_l21 => k_is)
    (case q_c21 => k_is)
    (case q_k21 => k_is)
    (case q_a22 => k_is)
    (case q_l22 => k_is)
    (case q_c22 => k_is)
    (case q_k22 => k_is)
    (case q_a30 => k_is)
    (case q_l30 => k_is)
    (case q_c30 => k_is)
    (case q_k30 => k_is)
    (case q_a32 => k_is)
    (case q_l32 => k_is)
    (case q_c32 => k_is)
    (case q_k32 => k_is)
    (case q_a33 => k_is)
    (case q_l33 => k_is)
    (case q_c33 => k_is)
    (case q_k33 => k_is)
    (case q_a34 => k_is)
    (case q_l34 => k_is)
    (case q_c34 => k_is)
    (case q_k34 => k_is)
    (case q_a35 => k_is)
    (case q_l35 => k_is)
    (case q_c35 => k_is)
    (case q_k35 => k_is)
    (case q_a36 => k_is)
    (case q_l36 => k_is)
    (case q_c36 => k_is)
    (case q_k36 => k_is)
    (case q_a37 => k_is)
    (case q_l37 => k_is)
    (case q_c37 => k_is)
    (case q_k37 => k_is)
    (case q_a38 => k_is)
    (case q_l38 => k_is)
    (case q_c38 => k_is)
    (case q_k38 => k_is)
    (case q_a39 => k_is)
    (case q_l39 => k_is)
    (case q_c39 => k_is)
    (case q_k39 => k_is)
    (case q_a40 => k_is)
    (case q_l40 => k_is)
    (case q_c40 => k_is)
    (case q_k40 => k_is)
    (case q_a41 => k_is)
    (case q_l41 => k_is)
    (case q_c41 => k_is)
    (case q_k41 => k_is)
    (case q_a42 => k_is)
    (case q_l42 => k_is)
    (case q_c42 => k_is)
    (case q_k42 => k_is)
    (case q_a43 => k_is)
    (case q_l43 => k_is)
    (case q_c43 => k_is)
    (case q_k43 => k_is)
    (case q_a44 => k_is)
    (case q_l44 => k_is)
    (case q_c44 => k_is)
    (case q_k44 => k_is)
    (case q_a45 => k_is)
    (case q_l45 => k_is)
    (case q_c45 => k_is)
    (case q_k45 => k_is)
    (case q_a46 => k_is)
    (case q_l46 => k_is)
    (case q_c46 => k_is)
    (case q_k46 => k_is)
    (case q_g0 => k_is)
    (case q_g1 => k_is)
    (case q_g2 => k_is)
    (case q_g3 => k_is)
    (case q_g4 => k_is)
    (case q_g5 => k_is)
    (case q_z0 => k_is)
    (case q_z1 => k_is)
    (case q_z2 => k_is)
    (case q_z3 => k_is)
    (case q_z4 => k_is)
    (case q_z5 => k_is)
    (case q_z6 => k_is)
    (case q_z7 => k_is)
    (case q_z8 => k_is)
    (case q_z9 => k_is)
    (case q_z10 => k_is)
    (case q_z11 => k_is)
    (case q_z12 => k_is)
    (case q_z13 => k_is)
    (case q_z14 => k_is)
    (case q_z15 => k_is)
    (case q_z16 => k_is)
    (case q_z17 => k_is)
    (case q_z18 => k_is)
    (case q_z19 => k_is)
    (case q_aP => k_is)
    (case q_aK => k_is)
    (case q_lK => k_is)
    (case q_im8 => k_is)
    (case q_lm8 => k_is)
    (case q_cm8 => k_is)
    (case q_km8 => k_is)
    (case q_tm8 => k_is)
    (case q_im9 => k_is)
    (case q_lm9 => k_is)
    (case q_cm9 => k_is)
    (case q_km9 => k_is)
    (case q_tm9 => k_is)
    (case q_im24 => k_is)
    (case q_lm24 => k_is)
    (case q_cm24 => k_is)
    (case q_km24 => k_is)
    (case q_tm24 => k_is)
    (case q_im25 => k_is)
    (case q_lm25 => k_is)
    (case q_cm25 => k_is)
    (case q_km25 => k_is)
    (case q_tm25 => k_is)
    (case q_im26 => k_is)
    (case q_lm26 => k_is)
    (case q_cm26 => k_is)
    (case q_km26 => k_is)
    (case q_tm26 => k_is)
    (case q_im27 => k_is)
    (case q_lm27 => k_is)
    (case q_cm27 => k_is)
    (case q_km27 => k_is)
    (case q_tm27 => k_is)
    (case q_im28 => k_is)
    (case q_lm28 => k_is)
    (case q_cm28 => k_is)
    (case q_km28 => k_is)
    (case q_tm28 => k_is)
    (case q_ip2 => k_is)
    (case q_gp2 => k_is)
    (case q_tp2 => k_is)
    (case q_rp2 => k_is)
    (case q_lp2 => k_is)
    (case q_cp2 => k_is)
    (case q_kp2 => k_is)
    (case q_ip3 => k_is)
    (case q_gp3 => k_is)
    (case q_tp3 => k_is)
    (case q_rp3 => k_is)
    (case q_lp3 => k_is)
    (case q_cp3 => k_is)
    (case q_kp3 => k_is)
    (case q_ip4 => k_is)
    (case q_gp4 => k_is)
    (case q_tp4 => k_is)
    (case q_rp4 => k_is)
    (case q_lp4 => k_is)
    (case q_cp4 => k_is)
    (case q_kp4 => k_is)
    (case q_ip5 => k_is)
    (case q_gp5 => k_is)
    (case q_tp5 => k_is)
    (case q_rp5 => k_is)
    (case q_lp5 => k_is)
    (case q_cp5 => k_is)
    (case q_kp5 => k_is)
    (case q_ip6 => k_is)
    (case q_gp6 => k_is)
    (case q_tp6 => k_is)
    (case q_rp6 => k_is)
    (case q_lp6 => k_is)
    (case q_cp6 => k_is)
    (case q_kp6 => k_is)
    (case q_ip7 => k_is)
    (case q_gp7 => k_is)
    (case q_tp7 => k_is)
    (case q_rp7 => k_is)
    (case q_lp7 => k_is)
    (case q_cp7 => k_is)
    (case q_kp7 => k_is)
    (case q_n0 => (unfold L2.NoAttr; k_is))
    (case q_n1 => (unfold L2.NoAttr; k_is))
    (case q_n2 => (unfold L2.NoAttr; k_is))
    (case q_n3 => (unfold L2.NoAttr; k_is))
    (case q_n4 => (unfold L2.NoAttr; k_is))
    (case q_n5 => (unfold L2.NoAttr; k_is))
    (case q_n6 => (unfold L2.NoAttr; k_is))
    (case q_n7 => (unfold L2.NoAttr; k_is))
    (case q_ii0 => k_is)
    (case q_li0 => k_is)
    (case q_ci0 => k_is)
    (case q_ki0 => k_is)
    (case q_ti0 => k_is)
    (case q_e1 => k_is)
    (case q_le1 => k_is)
    (case q_e2 => k_is)
    (case q_le2 => k_is)
    (case q_e3 => k_is)
    (case q_le3 => k_is)
    (case q_mk => k_is)
    (case q_kC => k_is)
    (case q_ofc => k_is)
    (case q_ofr => k_is)
    (case q_off => k_is)
    (case q_lo1 => k_is)
    (case q_co1 => k_is)
    (case q_ko1 => k_is)
    (case q_rd => k_is)
    (case q_rg => k_is)
    (case q_cpg => k_is)
    (case q_chd => k_is)
    (case q_cpo => k_is)
    (case q_csa => k_is)
    (case q_cha => k_is)
    (case q_chn => k_is)
    (case q_cht => k_is)
    (case q_chm => k_is)
    (case q_nsC => k_is)
    (case q_neN => k_is)
    (case q_kit => kernel_rfl)
#print axioms PySem.Challenge.cw_heardlate_k05_plans_made_holds

