import PyProof.Rows.All
import Wide.All
import OpenK.AllK
import Wide.FinOn
import HandS.Base
import HandS.Call
import HandS.List
import HandS.Comp
import HandS.Ends
import HandS.Words
import HandS.Iter
import HandS.Dict
import HandS.IsInst
import HandS.Deep
import HandS.Text
import HandS.Style
import HandS.Wide
import HandS.WordsList
import HandS.StrMore
import HandS.DictComp
import HandS.Walk
import HandS.WordsDict
import OpenK.XHead
import PySem.Challenge.RW_missclock_k00_things_and_rows
set_option Elab.async false
set_option linter.all false
set_option maxRecDepth 100000
set_option maxHeartbeats 4000000
/-! MC: data of any depth over the heap, its repr, comparisons with the empty ones; promises under known guards. -/
namespace MC
open PySem PySem.Spec L2
open PyProof.Rows hiding St

/-! ### data -/
def keyD : Key → PyData
  | .inl i => .int i
  | .inr x => .str x
mutual
inductive DD (H : Hp) : V → PyData → Prop
  | non : DD H .non .none
  | bl (b : Bool) : DD H (.bl b) (.bool b)
  | int (i : Int) : DD H (.int i) (.int i)
  | str (x : Str) : DD H (.str x) (.str x)
  | lst {a : Addr} {xs : List V} {ds : List PyData} (h : H a = some (.lst xs)) (hs : DDs H xs ds) : DD H (.ref a) (.list ds)
  | tup {a : Addr} {xs : List V} {ds : List PyData} (h : H a = some (.tup xs)) (hs : DDs H xs ds) : DD H (.ref a) (.tuple ds)
  | dct0 {a : Addr} (h : H a = some (.dK [])) : DD H (.ref a) (.dict [])
inductive DDs (H : Hp) : List V → List PyData → Prop
  | nil : DDs H [] []
  | cons {v : V} {vs : List V} {d : PyData} {ds : List PyData} (h : DD H v d) (hs : DDs H vs ds) : DDs H (v :: vs) (d :: ds)
end

mutual
theorem DD.mono {H H' : Hp} (e : Same H H') : ∀ {d : PyData} {v : V}, DD H v d → DD H' v d
  | _, _, .non => .non
  | _, _, .bl b => .bl b
  | _, _, .int i => .int i
  | _, _, .str x => .str x
  | _, _, .lst h hs => .lst (e _ _ h) (DDs.mono e hs)
  | _, _, .tup h hs => .tup (e _ _ h) (DDs.mono e hs)
  | _, _, .dct0 h => .dct0 (e _ _ h)
theorem DDs.mono {H H' : Hp} (e : Same H H') : ∀ {ds : List PyData} {vs : List V}, DDs H vs ds → DDs H' vs ds
  | _, _, .nil => .nil
  | _, _, .cons h hs => .cons (DD.mono e h) (DDs.mono e hs)
end
theorem DDs.length {H : Hp} : ∀ {vs : List V} {ds : List PyData}, DDs H vs ds → vs.length = ds.length
  | _, _, .nil => rfl
  | _, _, .cons _ hs => congrArg (· + 1) hs.length
theorem DDs.get {H : Hp} : ∀ {vs : List V} {ds : List PyData}, DDs H vs ds → ∀ {i : Nat} {v : V}, vs[i]? = some v → ∃ d, ds[i]? = some d ∧ DD H v d
  | _, _, .nil, _, _, e => by simp at e
  | _, _, .cons h _, 0, _, e => by simp at e; subst e; exact ⟨_, rfl, h⟩
  | _, _, .cons _ hs, i + 1, v, e => by
    obtain ⟨d, e1, e2⟩ := hs.get (i := i) (v := v) (by simpa using e)
    exact ⟨d, by simpa using e1, e2⟩
theorem DDs.append {H : Hp} : ∀ {vs ws : List V} {ds es : List PyData}, DDs H vs ds → DDs H ws es → DDs H (vs ++ ws) (ds ++ es)
  | _, _, _, _, .nil, k => k
  | _, _, _, _, .cons h hs, k => .cons h (hs.append k)
theorem DDs.take {H : Hp} : ∀ {vs : List V} {ds : List PyData} (n : Nat), DDs H vs ds → DDs H (vs.take n) (ds.take n)
  | _, _, 0, _ => .nil
  | _, _, _ + 1, .nil => .nil
  | _, _, n + 1, .cons h hs => .cons h (DDs.take n hs)
theorem DDs.drop {H : Hp} : ∀ {vs : List V} {ds : List PyData} (n : Nat), DDs H vs ds → DDs H (vs.drop n) (ds.drop n)
  | _, _, 0, r => r
  | _, _, _ + 1, .nil => .nil
  | _, _, n + 1, .cons _ hs => DDs.drop n hs
theorem DDs.set {H : Hp} {v : V} {d : PyData} (r : DD H v d) : ∀ {vs : List V} {ds : List PyData} (i : Nat), DDs H vs ds → DDs H (vs.set i v) (ds.set i d)
  | _, _, _, .nil => .nil
  | _, _, 0, .cons _ hs => .cons r hs
  | _, _, i + 1, .cons h hs => .cons h (DDs.set r i hs)

section
variable {X : Cx} {pins : List (Addr × Obj)} {σ : St} {H : Hp} {s : Shared}
mutual
theorem DD.reads (I : Inv X pins σ H s) : ∀ (d : PyData) (v : V) (u : Value), DD H v d → RelV v u → ∃ as, Reads s.heap u d as ∧ ∀ b ∈ as, H b ≠ none
  | .none, _, _, h, r => by
    cases h; cases r
    exact ⟨_, .none, fun b hb => nomatch hb⟩
  | .bool b, _, _, h, r => by
    cases h; cases r
    exact ⟨_, .bool b, fun b hb => nomatch hb⟩
  | .int i, _, _, h, r => by
    cases h; obtain ⟨t, rfl⟩ := r
    exact ⟨_, .int i t, fun b hb => nomatch hb⟩
  | .str x, _, _, h, r => by
    cases h; obtain ⟨t, rfl⟩ := r
    exact ⟨_, .str x t, fun b hb => nomatch hb⟩
  | .list ds, _, _, h, r => by
    cases h with
    | lst ha hs =>
      cases r
      obtain ⟨_, its, n, rv, ho⟩ := (show ObjOk X.prog X.w H s.heap _ (.lst _) from I.hok _ _ ha)
      obtain ⟨as, hr, hb⟩ := DDs.reads I ds _ its hs rv
      refine ⟨_, .list ho rfl rfl (by simpa using hr), fun b hbm => ?_⟩
      rcases List.mem_cons.mp hbm with rfl | hbm
      · rw [ha]; exact fun z => nomatch z
      · exact hb b hbm
  | .tuple ds, _, _, h, r => by
    cases h with
    | tup ha hs =>
      cases r
      obtain ⟨_, its, rv, o, ho, hc, n, hd⟩ := (show ObjOk X.prog X.w H s.heap _ (.tup _) from I.hok _ _ ha)
      obtain ⟨as, hr, hb⟩ := DDs.reads I ds _ its hs rv
      exact ⟨_, .tuple ho hc hd (by simpa using hr), hb⟩
  | .dict es, _, _, h, r => by
    cases h with
    | dct0 ha =>
      cases r
      obtain ⟨_, _, vs, kv, o, es, ep, ho, hx, hd, _, hm, _⟩ := (show ObjOk X.prog X.w H s.heap _ (.dK _) from I.hok _ _ ha)
      cases kv
      have e0 : es.toList = [] := by
        generalize es.toList = l at hm
        cases hm
        rfl
      refine ⟨_, .dict (kvs := []) ho hx.1 hd (by rw [e0]; exact .nil) (by rw [e0]; exact .nil), fun b hb => ?_⟩
      rw [List.append_nil] at hb
      rw [List.mem_singleton.mp hb, ha]
      exact fun z => nomatch z
theorem DDs.reads (I : Inv X pins σ H s) : ∀ (ds : List PyData) (vs : List V) (us : List Value), DDs H vs ds → Vals vs us → ∃ as, ReadsAll s.heap us ds as ∧ ∀ b ∈ as, H b ≠ none
  | [], _, _, h, r => by
    cases h; cases r
    exact ⟨_, .nil, fun b hb => nomatch hb⟩
  | d :: ds, _, _, h, r => by
    cases h with
    | cons h1 h2 =>
      cases r with
      | cons r1 r2 =>
        obtain ⟨as, q1, b1⟩ := DD.reads I d _ _ h1 r1
        obtain ⟨bs, q2, b2⟩ := DDs.reads I ds _ _ h2 r2
        exact ⟨_, .cons q1 q2, fun b hb => (List.mem_append.mp hb).elim (b1 b) (b2 b)⟩
end
end

/-! ### repr -/
section
variable {X : Cx}
def rRepr : List V → Hp → VK → Prop := fun xs H Q => ∃ x d, xs = [x] ∧ DD H x d ∧ d.showable = true ∧ d.depth ≤ 100 ∧ d.shown.length ≤ sizeLine ∧ Q (.str d.shown) H
theorem flatD {H : Hp} {x : V} {d : PyData} (h : DD H x d) : (∃ a, x = .ref a) ∨ (x = .non ∧ d = .none) ∨ (∃ b, x = .bl b ∧ d = .bool b) ∨ (∃ i, x = .int i ∧ d = .int i) ∨ ∃ z, x = .str z ∧ d = .str z := by
  cases h with
  | non => exact .inr (.inl ⟨rfl, rfl⟩)
  | bl b => exact .inr (.inr (.inl ⟨b, rfl, rfl⟩))
  | int i => exact .inr (.inr (.inr (.inl ⟨i, rfl, rfl⟩)))
  | str z => exact .inr (.inr (.inr (.inr ⟨z, rfl, rfl⟩)))
  | lst h _ => exact .inl ⟨_, rfl⟩
  | tup h _ => exact .inl ⟨_, rfl⟩
  | dct0 h => exact .inl ⟨_, rfl⟩
/-- the system's own table of modules is an object of the written part: nothing tracked lies there -/
def NoSys (X : Cx) : Prop := ∃ o, X.K.lookup sysModules = some o
theorem call_repr (hg : X.A.guards = some []) (hu : X.A.units + 200 < cLine) (hn : NoSys X) : CallR X (.builtin "repr") rRepr := by
  intro pins s σ H xs us Q I r h
  obtain ⟨x, d, rfl, hd, hs, hdp, hz, q⟩ := h
  obtain ⟨u, rfl, rx⟩ := vals1 r
  obtain ⟨as, rd, nb⟩ := DD.reads I d x u hd rx
  have fin : ∀ tk t, EP X pins σ Q (.str d.shown t) { s with toks := tk } := fun tk t => ⟨.str _, H, I.tok _, ⟨_, rfl⟩, q⟩
  rcases flatD hd with ⟨a, rfl⟩ | ⟨rfl, rfl⟩ | ⟨b, rfl, rfl⟩ | ⟨i, rfl, rfl⟩ | ⟨z, rfl, rfl⟩
  · cases rx
    refine repr_of_reads' rd hs (fun _ hm => ?_) hg (by omega) (fun _ _ e => e) (fun h' u tk hk => ⟨.str _, H, I.kept (h' := h') (t' := tk) hk, ⟨_, rfl⟩, q⟩) hz
    obtain ⟨o, ho⟩ := hn
    exact nb _ hm (I.bs _ _ (I.ok.mod.kin _ _ ho)).2
  · cases rx
    exact PySem.P.repr_of_none (fin _ _)
  · cases rx
    refine PySem.P.repr_of_bool ?_
    have := fin (s.toks + 1) s.toks
    cases b <;> exact this
  · obtain ⟨t, rfl⟩ := rx
    exact PySem.P.repr_of_int (by simpa [PyData.showable] using hs) (fin _ _)
  · obtain ⟨t, rfl⟩ := rx
    exact PySem.P.repr_of_str (fin _ _) hz
end
end MC

set_option Elab.async false
set_option linter.all false
set_option maxRecDepth 100000
set_option maxHeartbeats 4000000
namespace MC
open PySem PySem.Spec L2
open PyProof.Rows hiding St

/-! ### promises under a fact about what lies around -/
structure FnA (Φ : Around → Prop) (P : Program) (w : World) (K : PySem.W.Frag) (mg : Str → Option Value) (base : Heap) (CX : CXT) (k : Nat) (f : Addr) (fd : FuncData) (ps : List Str) (sp : Sp) : Prop where
  len : ∀ vs H Q E, sp vs H Q E → vs.length = ps.length
  run : ∀ (A : Around) (outer : List Env) (s : Shared) (H : Hp) (args : Args) (us : List Value) (vs : List V) (Q : VK) (E : XK), Φ A → Room k A → Env0 P w K mg base A outer s H →
    BindsTo s fd args (ps.zip us) → Vals vs us → sp vs H Q E → codeAny (model P w) A (.call (.ref f) args) (CR CX outer P w H s Q E) s
def Clean (A : Around) : Prop := A.guards = some []
theorem Clean.deeper {A : Around} (h : Clean A) (e : Env) : Clean (A.deeper e) := h

section
variable {Φ : Around → Prop} {CX : CXT} {P : Program} {w : World} {K : PySem.W.Frag} {mg : Str → Option Value} {base : Heap} {k : Nat} {f : Addr}
theorem fn_ofA {name qual : Str} {params : Arguments} {body : List Stmt} {scope : Scope} {dV kV doc pm cdv ct oc : Value} {an od : Option Addr}
    {osl : Array (Option Value)} {N ps : List Str} {sp : Sp} (lk : K.lookup f = some ⟨oc, od, .func (PySem.W.fnOf name qual params body scope dV kV doc pm an cdv ct), osl⟩)
    (hcd : PySem.W.codeIn K cdv qual = true) (S : FnScope N ps scope) (len : ∀ vs H Q E, sp vs H Q E → vs.length = ps.length)
    (hbody : ∀ (A : Around) (outer : List Env) (s : Shared) (H : Hp) (vs : List V) (Q : VK) (E : XK), Φ A → Room k (A.deeper (envOfC qual scope s.heap.objs.size f cdv)) → sp vs H Q E →
      ∃ t, PSs (cxOf CX P w K mg base N qual scope f cdv A outer s H E) body t ∧ t { nx := fun _ H' => Q .non H', rt := Q } (start N vs) H) :
    FnA Φ P w K mg base CX (k + 1) f (PySem.W.fnOf name qual params body scope dV kV doc pm an cdv ct) ps sp := by
  refine ⟨len, fun A outer s H args us vs Q E hΦ hr e0 hb r hsp => ?_⟩
  have sub := fun b o e => (e0.bs b o e).1
  have inK : K.In s.heap := e0.mod.kin.keeps sub
  have bound : ∀ y ∈ ps.zip us, scope.names.lookup y.1 = some .local ∨ (scope.names.lookup y.1 = some .cell ∧ ((cellsFrom (s.heap.objs.size + 1) scope.names []).lookup y.1).isSome = true) := by
    rintro ⟨n, v⟩ hy
    have hp := S.par n (List.of_mem_zip hy).1
    exact hp.elim .inl fun q => .inr ⟨q, PySem.W.cellsFrom_some _ _ _ (.inl q)⟩
  refine codeAny_call_function hr.depth (inK _ _ lk) rfl S.co S.gen rfl (PySem.W.codeRec_of inK hcd) (hb _ _ _ _ (wpAny_newFunctionEnv_cells S.kind bound fun env he s1 x => ?_))
  cases he
  refine ⟨(e0.mod.nolimit.keeps sub).keeps x.toInCall.keep, codeAny_func ?_⟩
  obtain ⟨t, ht, hq⟩ := hbody A outer s H vs Q E hΦ (hr.deeper _) hsp
  have J := inv_start (CX := CX) (w := w) (qual := qual) (f := f) (cd := cdv) (E := E) S hr.hd e0 (len _ _ _ _ hsp) r x
  refine wpAny_mono (ht.run [] s1 _ H _ J hq) (fun fl s' hs => ?_) fun _ _ z => z
  match fl, hs with
  | .ret u, ⟨v, _, H', J', rv, q⟩ => exact ⟨v, H', J'.os, J'.bare, J'.base, J'.hok, rv, q⟩
  | .next, ⟨_, H', J', q⟩ => exact ⟨V.non, H', J'.os, J'.bare, J'.base, J'.hok, rfl, q⟩
  | .brk, ⟨_, _, _, q⟩ => exact q.elim
  | .cont, ⟨_, _, _, q⟩ => exact q.elim

theorem FunA.ok {x qual : Str} {st : Stmt} {fd : FuncData} {N ps : List Str} {sp : Sp} (F : Fun K x qual st f fd) (S : FnScope N ps (defScope st)) (len : ∀ vs H Q E, sp vs H Q E → vs.length = ps.length)
    (hbody : ∀ (cdv : Value) (A : Around) (outer : List Env) (s : Shared) (H : Hp) (vs : List V) (Q : VK) (E : XK), Φ A → Room k (A.deeper (envOfC qual (defScope st) s.heap.objs.size f cdv)) → sp vs H Q E →
      ∃ t, PSs (cxOf CX0 P w K mg base N qual (defScope st) f cdv A outer s H E).nox (defBody st) t ∧ t { nx := fun _ H' => Q .non H', rt := Q } (start N vs) H) : FnA Φ P w K mg base CX0 (k + 1) f fd ps sp := by
  obtain ⟨oc, od, kV, doc, pm, an, cdv, ct, osl, rfl, lk, hcd⟩ := F.ex
  exact fn_ofA lk hcd S len fun A outer s H vs Q E hΦ hr hsp => (hbody cdv A outer s H vs Q E hΦ hr hsp).imp fun t z => ⟨z.1.nox, z.2⟩
theorem FnA.of {fd : FuncData} {ps : List Str} {sp : Sp} (F : FnOk P w K mg base CX k f fd ps sp) : FnA Φ P w K mg base CX k f fd ps sp :=
  ⟨F.len, fun A outer s H args us vs Q E _ => F.run A outer s H args us vs Q E⟩
end

section
variable {Φ : Around → Prop} {X : Cx} {CX : CXT} {k : Nat} {f : Addr} {fd : FuncData} {ps : List Str} {sp : Sp} {dvs : List V} {ds : List Value} {E : XK} {x : Str} {p pos : Pos} {e : Expr} {es : List Expr} {t : TA}
/-- a call of a def whose promise leans on what lies around -/
theorem pe_callA (hΦ : Φ X.A) (F : FnA Φ X.prog X.w X.K X.mg X.base CX k f fd ps sp) (hr : Room k X.A) (hg : Gl X x) (hm : X.mg x = some (.ref f)) (hk : PySem.W.keepIn X.K (.ref f) = true) (hb : Binds X.K fd ps ds) (hd : Vals dvs ds) (hx : Passes CX X E)
    (ha : PA X (e :: es) t) (hdb : (x == ("__debug__" : Str)) = false := by decide) (he : starEach (e :: es) X.env = (false, eval e X.env) :: starEach es X.env := by rfl) (hpl : (backTo pos (starEach es X.env)).any (·.1) = false := by rfl) :
    PE X (.Call (.Name x p) (e :: es) [] pos) (tCall sp dvs E t) := by
  constructor
  intro pins s σ H Q I h
  refine wpAny_Call_Name_kw (ld_glob I hg hm ?_ hdb)
  refine PySem.W.callWith_K (h₀ := X.base) I.ok.mod.kin hk (thn (ha.run pos pins s σ H _ I h) fun us s1 ⟨vs, H1, I1, r, q⟩ => ⟨I1.kIn, ?_⟩) he hpl
  have r2 := r.append hd
  have hl : (us ++ ds).length = ps.length := r2.length.symm.trans (F.len _ _ _ _ q)
  refine wpAny_call (codeAny_mono (F.run X.A X.stack s1 H1 ⟨us, []⟩ _ _ Q E hΦ hr I1.env0 (hb s1 us I1.kIn hl) r2 q) fun z s' hq => ?_)
  match z, hq with
  | .error e', hq => exact hx pins σ H1 s1 e' s' I1 hq
  | .ok (.ret u), hq => exact I1.after hq
  | .ok .next, hq => exact hq.elim
  | .ok .brk, hq => exact hq.elim
  | .ok .cont, hq => exact hq.elim
end

/-! ### the law's own call -/
theorem law_callA {P : Program} {w : World} {K : PySem.W.Frag} {mg mb : Str → Option Value} {k : Nat} {fa a : Addr} {fd : FuncData} {x : Str} {sp : Sp} {s₁ : Shared} {vs : List Value} {ns : List Int}
    (KX : K.In s₁.heap) (hns : s₁.heap.Ns mainGlobals mg) (hb : s₁.heap.Ns builtinsNs mb) (hbb : ∀ x : Str, x ≠ "__name__" → mb x = bootBuiltins x) (hlim : s₁.heap.NoLimit) (hg : s₁.gens = #[])
    (ha : s₁.heap.get? a = some { cls := .type "list", data := .seq vs.toArray }) (hi : IntsAre vs ns) (hl : ns.length ≤ sizeLine) (hr : Room k callerA)
    (F : ∀ base : Heap, K.In base → base.Ns mainGlobals mg → FnA Clean P w K mg base CX0 k fa fd [x] sp) (hbind : ∀ (s : Shared) (u : Value), BindsTo s fd ⟨[u], []⟩ [(x, u)])
    (hsp : ∀ H : Hp, Only H → SqL K H a (ns.map V.int) → sp [.ref a] H (fun v _ => v = .bl true) fun _ _ _ => False) :
    codeAny (model P w) callerA (.call (.ref fa) ⟨[.ref a], []⟩) (fun r s' => r = .ok (.ret (.bool true)) ∧ OldK s₁.heap s'.heap ∧ s'.os = s₁.os ∧ AllBare s'.gens) s₁ := by
  have rv := vals_ints hi
  have main : ∀ H : Hp, Only H → SqL K H a (ns.map V.int) → HOk P w H s₁.heap → (∀ b u, H b = some u → b = a ∧ K.lookup a = none) →
      codeAny (model P w) callerA (.call (.ref fa) ⟨[.ref a], []⟩) (fun r s' => r = .ok (.ret (.bool true)) ∧ OldK s₁.heap s'.heap ∧ s'.os = s₁.os ∧ AllBare s'.gens) s₁ := by
    intro H hO hS hok hA
    have none_of : ∀ {b : Addr}, (b = a → K.lookup a = none → False) → H b = none := fun {b} h => by
      match e : H b with
      | none => rfl
      | some u => exact (h (hA b u e).1 (hA b u e).2).elim
    have ns_of : ∀ {b : Addr} {m : Str → Option Value}, s₁.heap.Ns b m → (hidT s₁.heap H).Ns b m := fun {b m} ⟨o, es, ep, e, d, r⟩ =>
      ⟨o, es, ep, hidT_get e (none_of fun q _ => by subst q; rw [ha] at e; cases e; cases d), d, r⟩
    have kb : K.In (hidT s₁.heap H) := fun b o e => hidT_get (KX b o e) (none_of fun q z => by subst q; rw [z] at e; cases e)
    have M : Mod K mg (hidT s₁.heap H) := ⟨kb, ns_of hns, ⟨mb, ns_of hb, hbb⟩, hlim.imp fun mc z => ⟨ns_of z.1, z.2⟩⟩
    have e0 : Env0 P w K mg (hidT s₁.heap H) callerA [] s₁ H := ⟨rfl, M, fun b o e => of_hidT e, Nat.le_of_eq (hidT_size _ _), trivial, (fun b z => nomatch z), hok, .of_eq hg⟩
    refine codeAny_mono ((F _ kb (ns_of hns)).run callerA [] s₁ H ⟨[.ref a], []⟩ [.ref a] [.ref a] _ _ rfl hr e0 (hbind s₁ (.ref a)) (.cons rfl .nil) (hsp H hO hS)) fun r s' h => ?_
    match r, h with
    | .error e, h => exact h.elim
    | .ok .next, h => exact h.elim
    | .ok .brk, h => exact h.elim
    | .ok .cont, h => exact h.elim
    | .ok (.ret u), ⟨v, H', os, bare, un, hok', r', q⟩ =>
      cases (show v = .bl true from q)
      cases (show u = Value.bool true from r')
      refine ⟨rfl, OldK.of_keep fun b o e => ?_, os, bare⟩
      match z : H b with
      | none => exact un.keep b o e z (fun q => nomatch q) (fun q => nomatch q)
      | some y =>
        rcases hO b with z2 | ⟨ob, xs, z2⟩
        · rw [z] at z2; cases z2
        · have f1 := (hok b _ z2).1
          have f2 := (hok' b _ (un.frzs b ob _ z2)).1
          rw [e] at f1; cases f1
          exact f2
  match hk : K.lookup a with
  | some o =>
    have e := KX a o hk
    rw [ha] at e
    cases e
    exact main (fun _ => none) (fun _ => .inl rfl) (.inr ⟨_, vs.toArray, _, hk, rfl, rfl, rfl, by rw [List.size_toArray, hi.length]; exact hl, by simpa using rv⟩) (fun b u z => (nomatch z)) (fun b u z => (nomatch z))
  | none =>
    have at_a : upd (fun _ => none) a (.frz { cls := .type "list", data := .seq vs.toArray } (.lst (ns.map V.int))) a = some _ := upd_same
    refine main _ (fun b => ?_) (.inl (.inr ⟨_, at_a⟩)) (fun b u z => ?_) fun b u z => ⟨?_, hk⟩
    · by_cases q : b = a
      · subst q; exact .inr ⟨_, _, at_a⟩
      · exact .inl (upd_ne q)
    · by_cases q : b = a
      · subst q; rw [at_a] at z; cases z
        exact ⟨ha, by rw [List.length_map]; exact hl, vs, _, rv, ha⟩
      · rw [upd_ne q] at z; cases z
    · by_cases q : b = a
      · exact q
      · rw [upd_ne q] at z; cases z
theorem walk_ofA {l : PySem.W.OpenLaw} {n k : Nat} {q : Program} {loose : List Str} {XP : (Str → Option Value) → Heap → Prop} {YP : World → Heap → Prop} {d : DefRec} {K : Params → PySem.W.Frag} {sp : World → Sp} {x : Str}
    (hn : l.most = some n) (hn2 : n ≤ sizeLine) (hdf : d.params.defaults = []) (hr : Room k callerA) (hY : ∀ (w : World) (h : Heap), YP w h → (K w.params).In h)
    (F : ∀ (w : World) (mg : Str → Option Value) (fa : Addr) (h : Heap), (K w.params).In h → h.Ns mainGlobals mg → mg d.name = some (.ref fa) →
      ∃ fd : FuncData, (∀ (s : Shared) (u : Value), BindsTo s fd ⟨[u], []⟩ [(x, u)]) ∧ ∀ base : Heap, (K w.params).In base → base.Ns mainGlobals mg → FnA Clean l.prog w (K w.params) mg base CX0 k fa fd [x] (sp w))
    (hsp : ∀ (w : World) (H : Hp) (a : Addr) (ns : List Int), ns.length ≤ n → Only H → SqL (K w.params) H a (ns.map V.int) → sp w [.ref a] H (fun v _ => v = .bl true) fun _ _ _ => False) :
    PySem.W.WalkO q loose XP YP l.row.toRowW d [] (fun f vs => PySem.call f vs) :=
  Att.attach_call hn hdf fun w s₀ s₁ mg mb fa o pm cd doc a vs ns G Y ho hd hcd hmg hobj hints hlen hg => by
    obtain ⟨fd, hb, hF⟩ := F w mg fa _ (hY w _ Y) G.T.g hmg
    exact law_callA (hY w _ Y) G.T.g G.T.b G.T.builtins G.T.nolimit hg hobj hints (Nat.le_trans hlen hn2) hr hF hb fun H hO hS => hsp w H a ns hlen hO hS
end MC

set_option Elab.async false
set_option linter.all false
set_option maxRecDepth 100000
set_option maxHeartbeats 4000000
namespace MC
open PySem PySem.Spec L2
open PyProof.Rows hiding St
open AutoSeq1 (wpAny_loadPart')

/-! ### a list (a tuple) is no dict -/
theorem list_eq_dict (l b : Addr) (items : Array Value) (n n2 : Nat) (dd dd2 : Option Addr) (sl sl2 : Array (Option Value)) (es : Array DictEntry) :
    Meets (Builtin.«list.__eq__» ⟨[.ref l, .ref b], []⟩) (fun _ R s => s.heap.get? l = some { cls := .type "list", dict := dd, data := .seq items n, slots := sl } ∧
      s.heap.get? b = some { cls := .type "dict", dict := dd2, data := .dict es n2, slots := sl2 } ∧ R (.ok (.ret .notImplemented)) s) :=
  .of_wp fun prog w A R s h => by
    obtain ⟨hp, g, d, tk, os⟩ := s
    obtain ⟨hl, hb, h⟩ := h
    have f1 := F.sub_dict_list
    wp_walk using wpAny_loadPart' hl, wpAny_loadPart' hb
    exact ⟨_, rfl, h⟩
theorem tuple_eq_dict (l b : Addr) (items : Array Value) (n n2 : Nat) (dd dd2 : Option Addr) (sl sl2 : Array (Option Value)) (es : Array DictEntry) :
    Meets (Builtin.«tuple.__eq__» ⟨[.ref l, .ref b], []⟩) (fun _ R s => s.heap.get? l = some { cls := .type "tuple", dict := dd, data := .seq items n, slots := sl } ∧
      s.heap.get? b = some { cls := .type "dict", dict := dd2, data := .dict es n2, slots := sl2 } ∧ R (.ok (.ret .notImplemented)) s) :=
  .of_wp fun prog w A R s h => by
    obtain ⟨hp, g, d, tk, os⟩ := s
    obtain ⟨hl, hb, h⟩ := h
    have f1 := F.sub_dict_tuple
    wp_walk using wpAny_loadPart' hl, wpAny_loadPart' hb
    exact ⟨_, rfl, h⟩
theorem dict_eq_list (l b : Addr) (items : Array Value) (n n2 : Nat) (dd dd2 : Option Addr) (sl sl2 : Array (Option Value)) (es : Array DictEntry) (hb0 : (b == sysModules) = false) :
    Meets (Builtin.«dict.__eq__» ⟨[.ref b, .ref l], []⟩) (fun _ R s => s.heap.get? l = some { cls := .type "list", dict := dd, data := .seq items n, slots := sl } ∧
      s.heap.get? b = some { cls := .type "dict", dict := dd2, data := .dict es n2, slots := sl2 } ∧ R (.ok (.ret .notImplemented)) s) :=
  .of_wp fun prog w A R s h => by
    obtain ⟨hp, g, d, tk, os⟩ := s
    obtain ⟨hl, hb, h⟩ := h
    have f1 := F.sub_list_dict
    wp_walk using wpAny_loadPart' hl, wpAny_loadPart' hb
    exact ⟨_, rfl, h⟩
theorem dict_eq_tuple (l b : Addr) (items : Array Value) (n n2 : Nat) (dd dd2 : Option Addr) (sl sl2 : Array (Option Value)) (es : Array DictEntry) (hb0 : (b == sysModules) = false) :
    Meets (Builtin.«dict.__eq__» ⟨[.ref b, .ref l], []⟩) (fun _ R s => s.heap.get? l = some { cls := .type "tuple", dict := dd, data := .seq items n, slots := sl } ∧
      s.heap.get? b = some { cls := .type "dict", dict := dd2, data := .dict es n2, slots := sl2 } ∧ R (.ok (.ret .notImplemented)) s) :=
  .of_wp fun prog w A R s h => by
    obtain ⟨hp, g, d, tk, os⟩ := s
    obtain ⟨hl, hb, h⟩ := h
    have f1 := F.sub_tuple_dict
    wp_walk using wpAny_loadPart' hl, wpAny_loadPart' hb
    exact ⟨_, rfl, h⟩
section
variable {A : Around} {s : Shared}
open PySem.SeqAt
theorem list_dict {l b : Addr} {items : Array Value} {o : Obj} {es : Array DictEntry} {n2 : Nat} (hl : s.heap.IsList l items) (ho2 : s.heap.get? b = some o) (hc2 : o.cls = .type "dict") (hd2 : o.data = .dict es n2) (hb0 : (b == sysModules) = false)
    (hu : A.units < cLine) : EqAt A s (.ref l) (.ref b) false := by
  obtain ⟨⟨cls, dd, data, sl⟩, ho, hc, n, hd⟩ := id hl
  obtain ⟨cls2, dd2, data2, sl2⟩ := o
  simp only at hc hd hc2 hd2
  subst hc hd hc2 hd2
  have hne : l ≠ b := fun e => by
    subst e
    rw [ho] at ho2
    injection ho2 with z
    injection z with z1 _
    injection z1 with z2
    exact absurd z2 (by decide)
  refine EqAt.of_refs hne fun prog w E Q h => ?_
  exact rc_eq_decline_or (k := false) ⟨_, ho, rfl⟩ ⟨_, ho2, rfl⟩ (by decide) F.sub_dict_list F.slot_list_eq F.slot_dict_eq_refl
    (fun _ q => call_meets F.slot_list_eq ⟨_, ho, rfl⟩ F.entry_list_eq (F.args_list_eq_2 _ _) (list_eq_dict l b items n n2 dd dd2 sl sl2 es) ⟨ho, ho2, q⟩)
    (fun _ q => call_meets F.slot_dict_eq_refl ⟨_, ho2, rfl⟩ F.entry_dict_eq (F.args_dict_eq_2 _ _) (dict_eq_list l b items n n2 dd dd2 sl sl2 es hb0) ⟨ho, ho2, q⟩)
    (fun _ q => wpAny_isSame_ref_other hne ho ho2 (by simp) q) (.inr hu) h
theorem tuple_dict {l b : Addr} {items : Array Value} {o : Obj} {es : Array DictEntry} {n2 : Nat} (hl : s.heap.IsTuple l items) (ho2 : s.heap.get? b = some o) (hc2 : o.cls = .type "dict") (hd2 : o.data = .dict es n2) (hb0 : (b == sysModules) = false)
    (hu : A.units < cLine) : EqAt A s (.ref l) (.ref b) false := by
  obtain ⟨⟨cls, dd, data, sl⟩, ho, hc, n, hd⟩ := id hl
  obtain ⟨cls2, dd2, data2, sl2⟩ := o
  simp only at hc hd hc2 hd2
  subst hc hd hc2 hd2
  have hne : l ≠ b := fun e => by
    subst e
    rw [ho] at ho2
    injection ho2 with z
    injection z with z1 _
    injection z1 with z2
    exact absurd z2 (by decide)
  refine EqAt.of_refs hne fun prog w E Q h => ?_
  exact rc_eq_decline_or (k := false) ⟨_, ho, rfl⟩ ⟨_, ho2, rfl⟩ (by decide) F.sub_dict_tuple F.slot_tuple_eq F.slot_dict_eq_refl
    (fun _ q => call_meets F.slot_tuple_eq ⟨_, ho, rfl⟩ F.entry_tuple_eq (F.args_tuple_eq_2 _ _) (tuple_eq_dict l b items n n2 dd dd2 sl sl2 es) ⟨ho, ho2, q⟩)
    (fun _ q => call_meets F.slot_dict_eq_refl ⟨_, ho2, rfl⟩ F.entry_dict_eq (F.args_dict_eq_2 _ _) (dict_eq_tuple l b items n n2 dd dd2 sl sl2 es hb0) ⟨ho, ho2, q⟩)
    (fun _ q => wpAny_isSame_ref_other' hne ho ho2 (by simp) q) (.inr hu) h

/-! ### with the empty list, the empty tuple -/
theorem lists_nil {l b : Addr} {items : Array Value} (hl : s.heap.IsList l items) (hb : s.heap.IsList b #[]) (hu : A.units < cLine) : RcAt A s (.ref l) (.ref b) items.isEmpty := by
  by_cases e : items.size = 0
  · have q := RcAt.lists (e := fun _ => true) hl hb e hu (fun j h1 _ => by omega)
    rw [e] at q
    have z : items.isEmpty = true := by simpa using e
    rw [z]
    exact q
  · have z : items.isEmpty = false := by simpa using e
    rw [z]
    exact RcAt.lists_lengths hl hb (by simpa using e) hu
theorem ne_lists_nil {l b : Addr} {items : Array Value} (hl : s.heap.IsList l items) (hb : s.heap.IsList b #[]) (hu : A.units < cLine) : RcNeAt A s (.ref l) (.ref b) (!items.isEmpty) := by
  by_cases e : items.size = 0
  · have q := RcNeAt.lists (e := fun _ => true) hl hb e hu (fun j h1 _ => by omega)
    rw [e] at q
    have z : items.isEmpty = true := by simpa using e
    rw [z]
    exact q
  · have z : items.isEmpty = false := by simpa using e
    rw [z]
    exact RcNeAt.lists_lengths hl hb (by simpa using e) hu
theorem nil_lists {l b : Addr} {items : Array Value} (hl : s.heap.IsList l items) (hb : s.heap.IsList b #[]) (hu : A.units < cLine) : EqAt A s (.ref b) (.ref l) items.isEmpty := by
  by_cases hne : b = l
  · subst hne
    obtain ⟨o, h1, h2, n, h3⟩ := hl
    obtain ⟨o', k1, k2, n', k3⟩ := hb
    rw [h1] at k1; cases k1
    rw [h3] at k3; cases k3
    exact EqAt.same _
  · refine EqAt.of_refs hne ?_
    by_cases e : items.size = 0
    · have q := RcAt.lists (e := fun _ => true) hb hl e.symm hu (fun j h1 _ => by simp at h1)
      have z : items.isEmpty = true := by simpa using e
      rw [z]
      exact q
    · have z : items.isEmpty = false := by simpa using e
      rw [z]
      exact RcAt.lists_lengths hb hl (by simpa using Ne.symm e) hu
theorem nil_tuples {l b : Addr} {items : Array Value} (hl : s.heap.IsTuple l items) (hb : s.heap.IsTuple b #[]) (hu : A.units < cLine) : EqAt A s (.ref b) (.ref l) items.isEmpty := by
  by_cases hne : b = l
  · subst hne
    obtain ⟨o, h1, h2, n, h3⟩ := hl
    obtain ⟨o', k1, k2, n', k3⟩ := hb
    rw [h1] at k1; cases k1
    rw [h3] at k3; cases k3
    exact EqAt.same _
  · refine EqAt.of_refs hne ?_
    have q := RcAt.tuples (e := fun _ => true) hb hl hu (fun j h1 _ => by simp at h1)
    have z : ((List.range (min (#[] : Array Value).size items.size)).all (fun _ => true) && (#[] : Array Value).size == items.size) = items.isEmpty := by
      by_cases e : items.size = 0
      · have z : items.isEmpty = true := by simpa using e
        rw [z, e]; rfl
      · have z : items.isEmpty = false := by simpa using e
        rw [z, Bool.and_eq_false_iff]
        exact .inr (by simpa using Ne.symm e)
    rw [z] at q
    exact q
end

section
variable {X : Cx}
theorem isEmpty_vals {xs : List V} {us : List Value} (r : Vals xs us) : us.toArray.isEmpty = xs.isEmpty := by
  cases r <;> rfl
theorem vals_nil {us : List Value} (r : Vals [] us) : us = [] := by cases r; rfl
def rEqNil (K : PySem.W.Frag) : R2 := fun x y H Q => ∃ a b xs, x = .ref a ∧ y = .ref b ∧ SqL K H a xs ∧ H b = some (.lst []) ∧ Q (.bl xs.isEmpty) H
def rNeNil (K : PySem.W.Frag) : R2 := fun x y H Q => ∃ a b xs, x = .ref a ∧ y = .ref b ∧ SqL K H a xs ∧ H b = some (.lst []) ∧ Q (.bl (!xs.isEmpty)) H
theorem op_eqNil (hu : X.A.units < cLine) : OpR X (compareOp .Eq) (rEqNil X.K) := by
  intro pins s σ H x y v u Q I rx ry h
  obtain ⟨a, b, xs, rfl, rfl, ha, hb, q⟩ := h
  cases rx; cases ry
  obtain ⟨its, r, p, _⟩ := I.list ha
  obtain ⟨its2, r2, p2, _⟩ := I.list (SqL.of hb)
  cases vals_nil r2
  refine lists_nil p.isList p2.isList hu _ _ _ _ ⟨.bl _, H, I, rfl, ?_⟩
  rw [isEmpty_vals r]
  exact q
theorem op_neNil (hu : X.A.units < cLine) : OpR X (compareOp .NotEq) (rNeNil X.K) := by
  intro pins s σ H x y v u Q I rx ry h
  obtain ⟨a, b, xs, rfl, rfl, ha, hb, q⟩ := h
  cases rx; cases ry
  obtain ⟨its, r, p, _⟩ := I.list ha
  obtain ⟨its2, r2, p2, _⟩ := I.list (SqL.of hb)
  cases vals_nil r2
  refine ne_lists_nil p.isList p2.isList hu _ _ _ _ ⟨.bl _, H, I, rfl, ?_⟩
  rw [isEmpty_vals r]
  exact q

def emptyL : PyData → Bool
  | .list xs => xs.isEmpty
  | _ => false
def emptyT : PyData → Bool
  | .tuple xs => xs.isEmpty
  | _ => false
theorem isEmpty_reads {h : Heap} {us : Array Value} {ds : List PyData} {as : List Addr} (r : ReadsAll h us.toList ds as) : us.isEmpty = ds.isEmpty := by
  have q := SeqAt.ReadsAll.length _ _ _ r
  cases ds with
  | nil => simpa using q
  | cons d ds =>
    simp only [List.length_cons, Array.length_toList] at q
    simp only [List.isEmpty_cons]
    cases e : us.isEmpty with
    | false => rfl
    | true =>
      have : us.size = 0 := by simpa using e
      omega
section
open PySem.SeqAt
variable {A : Around} {s : Shared}
theorem eqAt_nilL {v : Value} {d : PyData} {as : List Addr} {b : Addr} (rd : Reads s.heap v d as) (hn : d.hasDict = true → sysModules ∉ as) (hb : s.heap.IsList b #[]) (hu : A.units < cLine) : EqAt A s (.ref b) v (emptyL d) := by
  cases rd with
  | none => exact EqAt.list_none hb hu
  | bool b => exact EqAt.list_bool _ hb hu
  | int i t => exact EqAt.list_int _ _ hb hu
  | str x t => exact EqAt.list_str _ _ hb hu
  | list h1 h2 h3 h4 =>
    have q := nil_lists ⟨_, h1, h2, _, h3⟩ hb hu
    rw [isEmpty_reads h4] at q
    exact q
  | tuple h1 h2 h3 h4 => exact EqAt.list_tuple hb ⟨_, h1, h2, _, h3⟩ hu
  | dict h1 h2 h3 h4 h5 =>
    refine list_dict hb h1 h2 h3 (beq_eq_false_iff_ne.mpr fun e => ?_) hu
    exact hn (by simp only [PyData.hasDict]) (by rw [e]; simp)
theorem eqAt_nilT {v : Value} {d : PyData} {as : List Addr} {b : Addr} (rd : Reads s.heap v d as) (hn : d.hasDict = true → sysModules ∉ as) (hb : s.heap.IsTuple b #[]) (hu : A.units < cLine) : EqAt A s (.ref b) v (emptyT d) := by
  cases rd with
  | none => exact EqAt.tuple_none hb hu
  | bool b => exact EqAt.tuple_bool _ hb hu
  | int i t => exact EqAt.tuple_int _ _ hb hu
  | str x t => exact EqAt.tuple_str _ _ hb hu
  | tuple h1 h2 h3 h4 =>
    have q := nil_tuples ⟨_, h1, h2, _, h3⟩ hb hu
    rw [isEmpty_reads h4] at q
    exact q
  | list h1 h2 h3 h4 => exact EqAt.tuple_list hb ⟨_, h1, h2, _, h3⟩ hu
  | dict h1 h2 h3 h4 h5 =>
    refine tuple_dict hb h1 h2 h3 (beq_eq_false_iff_ne.mpr fun e => ?_) hu
    exact hn (by simp only [PyData.hasDict]) (by rw [e]; simp)
end
/-- x not in [[], ()] -/
def rNotInE : R2 := fun x y H Q => ∃ d b p q, y = .ref b ∧ H b = some (.lst [.ref p, .ref q]) ∧ H p = some (.lst []) ∧ H q = some (.tup []) ∧ DD H x d ∧ Q (.bl (!(emptyL d || emptyT d))) H
theorem op_notInE (hu : X.A.units + 1 < cLine) (hn : NoSys X) : OpR X (compareOp .NotIn) rNotInE := by
  intro pins s σ H x y v u Q I rx ry h
  obtain ⟨d, b, p, q, rfl, hb, hp, hq, hd, k⟩ := h
  cases ry
  obtain ⟨as, rd, nb⟩ := DD.reads I d x v hd rx
  obtain ⟨o, ho⟩ := hn
  have hs : d.hasDict = true → sysModules ∉ as := fun _ hm => nb _ hm (I.bs _ _ (I.ok.mod.kin _ _ ho)).2
  obtain ⟨its, r, pl, _⟩ := I.list (SqL.of hb)
  obtain ⟨i1, r1, p1, _⟩ := I.list (SqL.of hp)
  obtain ⟨i2, r2, p2, _⟩ := I.tuple (SqT.of hq)
  cases vals_nil r1; cases vals_nil r2
  cases r with
  | cons e1 r =>
    cases r with
    | cons e2 r =>
      cases r
      cases e1; cases e2
      have npq : p ≠ q := ne_of hp hq (fun z => nomatch z)
      refine SeqAt.notIn_listAt (fun y => if y = .ref p then emptyL d else emptyT d) pl.isList (fun y hy => ?_) ⟨.bl _, H, I, rfl, ?_⟩
      · have hy' : y = .ref p ∨ y = .ref q := by simpa using hy
        rcases hy' with rfl | rfl
        · rw [if_pos rfl]
          exact eqAt_nilL rd hs p1.isList (by show X.A.units + 1 < cLine; exact hu)
        · rw [if_neg (fun z => npq (by injection z with z; exact z.symm))]
          exact eqAt_nilT rd hs p2 (by show X.A.units + 1 < cLine; exact hu)
      · have e : (#[Value.ref p, Value.ref q].any fun y => if y = .ref p then emptyL d else emptyT d) = (emptyL d || emptyT d) := by
          rw [← Array.any_toList]
          show ((if Value.ref p = Value.ref p then emptyL d else emptyT d) || ((if Value.ref q = Value.ref p then emptyL d else emptyT d) || false)) = _
          rw [if_pos rfl, if_neg (fun z => npq (by injection z with z; exact z.symm)), Bool.or_false]
        have e' : ([Value.ref p, Value.ref q].toArray.any fun y => if y = .ref p then emptyL d else emptyT d) = (emptyL d || emptyT d) := e
        rw [e']
        exact k
end
end MC

set_option Elab.async false
set_option linter.all false
set_option maxRecDepth 100000
set_option maxHeartbeats 4000000
namespace MC
open PySem PySem.Spec L2
open PyProof.Rows hiding St

/-! ### what is a list or a tuple, walked -/
def SqX (H : Hp) (a : Addr) (xs : List V) : Prop := H a = some (.lst xs) ∨ H a = some (.tup xs)
theorem SqX.mono {H H' : Hp} {a : Addr} {xs : List V} (e : Same H H') (h : SqX H a xs) : SqX H' a xs := h.imp (e _ _) (e _ _)
theorem SqX.inj {H : Hp} {a : Addr} {xs ys : List V} (h : SqX H a xs) (k : SqX H a ys) : xs = ys := by
  rcases h with h | h <;> rcases k with k | k <;> rw [h] at k <;> cases k <;> rfl
def iSeq (K : PySem.W.Frag) (tl : TE) : TI := fun σ H R => tl σ H fun x H1 => ∃ a, x = .ref a ∧ (((∃ xs, H1 a = some (.lst xs)) ∧ R (Itl K a) H1) ∨ ((∃ xs, H1 a = some (.tup xs)) ∧ R (Itt K a) H1))
theorem pi_seq {X : Cx} {tg l : Expr} {tl : TE} (hl : PE X l tl) : PI X tg l (iSeq X.K tl) := by
  constructor
  intro pins s σ H R I h
  refine thn (hl.run pins s σ H _ I h) fun v s1 ⟨x, H1, I1, r1, q1⟩ => ?_
  obtain ⟨a, rfl, q⟩ := q1
  cases r1
  have kept : ∀ (o : Obj), L2.Inv X pins σ H1 { s1 with heap := s1.heap.push o } := fun o => I1.kept (t' := s1.toks) fun b u e => Heap.get?_push_of_some _ e
  have fp : ∀ b ∈ [s1.heap.objs.size], FpOk X pins H1 b := fun b hb => by
    rw [List.mem_singleton.mp hb]
    exact I1.fpOk (Nat.le_refl _) (I1.hok.fresh (Nat.le_refl _))
  rcases q with ⟨⟨xs, hq⟩, q⟩ | ⟨⟨xs, hq⟩, q⟩
  · obtain ⟨its, rv, p, hz⟩ := I1.list (SqL.of hq)
    exact wpAny_pyIter_list p.isList ⟨_, _, _, _, H1, rfl, kept _, turn_list a _, ⟨_, Heap.get?_push_size _ rfl, rfl, rfl⟩, fp, q⟩
  · obtain ⟨its, rv, p, hz⟩ := I1.tuple (SqT.of hq)
    exact wpAny_pyIter_tuple (show s1.heap.IsTuple a its.toArray from p) ⟨_, _, _, _, H1, rfl, kept _, turn_tuple a _, ⟨_, Heap.get?_push_size _ rfl, rfl, rfl⟩, fp, q⟩
/-- the reading of a for over it -/
theorem for_seq {K : PySem.W.Frag} {a : Addr} {xs : List V} {g : TG} {tb : TS} {D : Ends} {σ : St} {H : Hp} (h : SqX H a xs) (Pv : Nat → St → Hp → Prop) (h0 : Pv 0 σ H) (hl : ∀ i σ' H', i ≤ xs.length → Pv i σ' H' → H' a = H a)
    (hs : ∀ i x σ H, xs[i]? = some x → Pv i σ H → g x σ H fun σ2 H2 => tb { D with nx := Pv (i + 1), ct := Pv (i + 1), bk := D.nx } σ2 H2) (hd : ∀ σ H, Pv xs.length σ H → D.nx σ H) :
    ∃ b, V.ref a = .ref b ∧ (((∃ ys, H b = some (.lst ys)) ∧ ∃ W : Nat → Nat → St → Hp → Prop, (∃ m, W 0 m σ H) ∧ ∀ i m σ H, W i m σ H →
        ((Itl K b).stop i H ∧ D.nx σ H) ∨ ((Itl K b).go i H ∧ ∃ N : St → Hp → Prop, (∀ σ' H', N σ' H' → ∃ m', m' < m ∧ W (i + 1) m' σ' H') ∧ ∀ x H', (Itl K b).yld i H x H' → g x σ H' fun σ2 H2 => tb { D with nx := N, ct := N, bk := D.nx } σ2 H2)) ∨
      ((∃ ys, H b = some (.tup ys)) ∧ ∃ W : Nat → Nat → St → Hp → Prop, (∃ m, W 0 m σ H) ∧ ∀ i m σ H, W i m σ H →
        ((Itt K b).stop i H ∧ D.nx σ H) ∨ ((Itt K b).go i H ∧ ∃ N : St → Hp → Prop, (∀ σ' H', N σ' H' → ∃ m', m' < m ∧ W (i + 1) m' σ' H') ∧ ∀ x H', (Itt K b).yld i H x H' → g x σ H' fun σ2 H2 => tb { D with nx := N, ct := N, bk := D.nx } σ2 H2))) := by
  refine ⟨a, rfl, ?_⟩
  rcases h with h | h
  · exact .inl ⟨⟨xs, h⟩, for_list (K := K) (a := a) (xs := xs) Pv h0 (fun i σ' H' hi p => SqL.of ((hl i σ' H' hi p).trans h)) hs hd⟩
  · exact .inr ⟨⟨xs, h⟩, for_tup (K := K) (a := a) (xs := xs) Pv h0 (fun i σ' H' hi p => SqT.of ((hl i σ' H' hi p).trans h)) hs hd⟩
/-- the reading of a comprehension over it -/
theorem lc_seq {K : PySem.W.Frag} {a : Addr} {xs : List V} {g : TG} {tt : TT} {te : TE} {vs : List Nat} {σ : St} {H : Hp} {Q : VK} (h : SqX H a xs) (Pv : Addr → Nat → Hp → Prop) (h0 : ∀ D, H D = none → Pv D 0 (upd H D (.lst [])))
    (hl : ∀ D i H', H D = none → i ≤ xs.length → Pv D i H' → H' a = H a)
    (hs : ∀ D i x H', H D = none → xs[i]? = some x → Pv D i H' → g x (wipe σ vs) H' fun σ2 H2 => wipe σ2 vs = wipe σ vs ∧ tt σ2 H2 fun b H3 =>
      if b = true then te σ2 H3 fun y H4 => ∃ acc, H4 D = some (.lst acc) ∧ acc.length < sizeLine ∧ Pv D (i + 1) (upd H4 D (.lst (acc ++ [y]))) else Pv D (i + 1) H3) (hd : ∀ D H', H D = none → Pv D xs.length H' → Q (.ref D) H') :
    ∃ b, V.ref a = .ref b ∧ (((∃ ys, H b = some (.lst ys)) ∧ ∀ D, H D = none → ∃ W : Nat → Nat → Hp → Prop, (∃ m, W 0 m (upd H D (.lst []))) ∧ ∀ i m H, W i m H →
        ((Itl K b).stop i H ∧ Q (.ref D) H) ∨ ((Itl K b).go i H ∧ ∃ Nx : Hp → Prop, (∀ H', Nx H' → ∃ m', m' < m ∧ W (i + 1) m' H') ∧ ∀ x H', (Itl K b).yld i H x H' → g x (wipe σ vs) H' fun σ2 H2 => wipe σ2 vs = wipe σ vs ∧ tt σ2 H2 fun b H3 =>
          if b = true then te σ2 H3 fun y H4 => ∃ acc, H4 D = some (.lst acc) ∧ acc.length < sizeLine ∧ Nx (upd H4 D (.lst (acc ++ [y]))) else Nx H3)) ∨
      ((∃ ys, H b = some (.tup ys)) ∧ ∀ D, H D = none → ∃ W : Nat → Nat → Hp → Prop, (∃ m, W 0 m (upd H D (.lst []))) ∧ ∀ i m H, W i m H →
        ((Itt K b).stop i H ∧ Q (.ref D) H) ∨ ((Itt K b).go i H ∧ ∃ Nx : Hp → Prop, (∀ H', Nx H' → ∃ m', m' < m ∧ W (i + 1) m' H') ∧ ∀ x H', (Itt K b).yld i H x H' → g x (wipe σ vs) H' fun σ2 H2 => wipe σ2 vs = wipe σ vs ∧ tt σ2 H2 fun b H3 =>
          if b = true then te σ2 H3 fun y H4 => ∃ acc, H4 D = some (.lst acc) ∧ acc.length < sizeLine ∧ Nx (upd H4 D (.lst (acc ++ [y]))) else Nx H3))) := by
  refine ⟨a, rfl, ?_⟩
  rcases h with h | h
  · exact .inl ⟨⟨xs, h⟩, fun D hD => lc_list (K := K) (a := a) (xs := xs) (Pv D) (h0 D hD) (fun i H' hi p => SqL.of ((hl D i H' hD hi p).trans h)) (fun i x H' e p => hs D i x H' hD e p) fun H' p => hd D H' hD p⟩
  · exact .inr ⟨⟨xs, h⟩, fun D hD => lc_tup (K := K) (a := a) (xs := xs) (Pv D) (h0 D hD) (fun i H' hi p => SqT.of ((hl D i H' hD hi p).trans h)) (fun i x H' e p => hs D i x H' hD e p) fun H' p => hd D H' hD p⟩
/-- the reading of a comprehension over a text -/
theorem lc_str {z : Str} {g : TG} {tt : TT} {te : TE} {vs : List Nat} {σ : St} {H1 : Hp} {D : Addr} {Qd : Hp → Prop} (Pv : Nat → Hp → Prop) (h0 : Pv 0 (upd H1 D (.lst [])))
    (hs : ∀ i c H, z.cps[i]? = some c → Pv i H → g (.str ⟨#[c]⟩) (wipe σ vs) H fun σ2 H2 => wipe σ2 vs = wipe σ vs ∧ tt σ2 H2 fun b H3 =>
      if b = true then te σ2 H3 fun y H4 => ∃ acc, H4 D = some (.lst acc) ∧ acc.length < sizeLine ∧ Pv (i + 1) (upd H4 D (.lst (acc ++ [y]))) else Pv (i + 1) H3) (hd : ∀ H, Pv z.cps.size H → Qd H) :
    ∃ W : Nat → Nat → Hp → Prop, (∃ m, W 0 m (upd H1 D (.lst []))) ∧ ∀ i m H, W i m H →
      ((Its z).stop i H ∧ Qd H) ∨ ((Its z).go i H ∧ ∃ Nx : Hp → Prop, (∀ H', Nx H' → ∃ m', m' < m ∧ W (i + 1) m' H') ∧ ∀ x H', (Its z).yld i H x H' → g x (wipe σ vs) H' fun σ2 H2 => wipe σ2 vs = wipe σ vs ∧ tt σ2 H2 fun b H3 =>
        if b = true then te σ2 H3 fun y H4 => ∃ acc, H4 D = some (.lst acc) ∧ acc.length < sizeLine ∧ Nx (upd H4 D (.lst (acc ++ [y]))) else Nx H3) := by
  refine ⟨fun i m H => m = z.cps.size - i ∧ i ≤ z.cps.size ∧ Pv i H, ⟨_, rfl, Nat.zero_le _, h0⟩, ?_⟩
  rintro i m H ⟨rfl, hi, p⟩
  by_cases lt : i < z.cps.size
  · refine .inr ⟨lt, Pv (i + 1), fun H' p' => ⟨z.cps.size - (i + 1), by omega, rfl, lt, p'⟩, ?_⟩
    rintro x H' ⟨rfl, c, e, rfl⟩
    exact hs i c _ e p
  · have e : i = z.cps.size := by omega
    subst e
    exact .inl ⟨Nat.le_refl _, hd H p⟩
end MC

set_option Elab.async false
set_option linter.all false
set_option maxRecDepth 100000
set_option maxHeartbeats 4000000
namespace MC
open PySem PySem.Spec L2
open PyProof.Rows hiding St

/-! ### isinstance of data -/
def tyD : PyData → String
  | .none => "NoneType"
  | .bool _ => "bool"
  | .int _ => "int"
  | .str _ => "str"
  | .list _ => "list"
  | .tuple _ => "tuple"
  | .dict _ => "dict"
theorem ty_of {K : PySem.W.Frag} {H : Hp} {x : V} {d : PyData} (h : DD H x d) : TyX K H x (.type (tyD d)) := by
  cases h with
  | non => exact .base .non
  | bl b => exact .base (.bl b)
  | int i => exact .base (.int i)
  | str z => exact .base (.str z)
  | lst h _ => exact .base (.lst h)
  | tup h _ => exact .base (.tup h)
  | dct0 h => exact .base (.dK h)
def dStr : PyData → Bool | .str _ => true | _ => false
def dInt : PyData → Bool | .int _ => true | .bool _ => true | _ => false
def dBool : PyData → Bool | .bool _ => true | _ => false
def dLst : PyData → Bool | .list _ => true | _ => false
def dTup : PyData → Bool | .tuple _ => true | _ => false
def dSeq : PyData → Bool | .list _ => true | .tuple _ => true | _ => false
def dDct : PyData → Bool | .dict _ => true | _ => false
def isT (b a : String) : Bool := (a == b) || (b == "int" && a == "bool")
theorem kb : ∀ a ∈ ["NoneType", "bool", "int", "str", "list", "tuple", "dict"], ∀ b ∈ ["str", "int", "bool", "list", "tuple", "dict"], kitB a b = some (isT b a) := by decide +kernel
theorem tyD_mem (d : PyData) : tyD d ∈ ["NoneType", "bool", "int", "str", "list", "tuple", "dict"] := by cases d <;> simp [tyD]
section
variable {K : PySem.W.Frag} {H : Hp} {x : V} {d : PyData} {Q : VK}
theorem kb_at (b : String) (hb : b ∈ ["str", "int", "bool", "list", "tuple", "dict"]) : PySem.W.kitOne K (.type (tyD d)) (.type b) = some (isT b (tyD d)) := kit_ty (kb _ (tyD_mem d) b hb)
theorem kI_str : PySem.W.kitOne K (.type (tyD d)) (.type "str") = some (dStr d) := (kb_at _ (by simp)).trans (by cases d <;> simp [isT, tyD, dStr])
theorem kI_int : PySem.W.kitOne K (.type (tyD d)) (.type "int") = some (dInt d) := (kb_at _ (by simp)).trans (by cases d <;> simp [isT, tyD, dInt])
theorem kI_bool : PySem.W.kitOne K (.type (tyD d)) (.type "bool") = some (dBool d) := (kb_at _ (by simp)).trans (by cases d <;> simp [isT, tyD, dBool])
theorem kI_list : PySem.W.kitOne K (.type (tyD d)) (.type "list") = some (dLst d) := (kb_at _ (by simp)).trans (by cases d <;> simp [isT, tyD, dLst])
theorem kI_tuple : PySem.W.kitOne K (.type (tyD d)) (.type "tuple") = some (dTup d) := (kb_at _ (by simp)).trans (by cases d <;> simp [isT, tyD, dTup])
theorem kI_dict : PySem.W.kitOne K (.type (tyD d)) (.type "dict") = some (dDct d) := (kb_at _ (by simp)).trans (by cases d <;> simp [isT, tyD, dDct])
theorem kit_seq : PySem.W.kitAny K (.type (tyD d)) [.type "list", .type "tuple"] = some (dSeq d) := by
  have h1 := kb_at (K := K) (d := d) "list" (by simp)
  have h2 := kb_at (K := K) (d := d) "tuple" (by simp)
  refine kitAny_cons h1 (fun e => kitAny_cons h2 (fun e2 => ?_) fun e2 => ?_) fun e => ?_
  · rw [show dSeq d = false from by cases d <;> simp [isT, tyD, dSeq] at e e2 ⊢]
    rfl
  · cases d <;> simp [isT, tyD, dSeq] at e e2 ⊢
  · cases d <;> simp [isT, tyD, dSeq] at e ⊢
theorem cl_seq : Paired ClsV [.ty "list", .ty "tuple"] [.type "list", .type "tuple"] := .cons (.ty _) (.cons (.ty _) .nil)
end

/-! ### list(text) -/
def signV (z : Str) : List V := z.cps.toList.map fun c => .str ⟨#[c]⟩
def rListText : List V → Hp → VK → Prop := fun xs H Q => ∃ z, xs = [.str z] ∧ z.length ≤ sizeLine ∧ ∀ p, H p = none → Q (.ref p) (upd H p (.lst (signV z)))
theorem call_list_text {X : Cx} (hc : X.calm = true) : CallR X (.type "list") rListText := by
  intro pins s σ H xs us Q I r h
  obtain ⟨z, rfl, hz, q⟩ := h
  obtain ⟨u, rfl, t, rfl⟩ := vals1 r
  refine call_list_str (I.ok.hd hc) z t (hn := hz) fun h' tk acc c' hk hS hacc => ?_
  have sz : acc.toList.length = z.cps.size := by rw [Array.length_toList]; exact hacc.1
  refine ⟨.ref s.heap.objs.size, _, I.laid (a := s.heap.objs.size) (o := .lst (signV z)) (h' := h') (t' := tk) hk (Nat.le_refl _) ⟨?_, acc.toList, c', ?_, by simpa using hS⟩, rfl, q _ (I.hok.fresh (Nat.le_refl _))⟩
  · show (z.cps.toList.map _).length ≤ sizeLine
    rw [List.length_map, Array.length_toList]
    exact hz
  · have main : ∀ (cs : List Nat) (vs : List Value), vs.length = cs.length → (∀ (j : Nat) v, vs[j]? = some v → ∃ c u, cs[j]? = some c ∧ v = Value.str ⟨#[c]⟩ u) → Vals (cs.map fun c => V.str ⟨#[c]⟩) vs := by
      intro cs
      induction cs with
      | nil => intro vs hl _; cases vs with
        | nil => exact .nil
        | cons _ _ => simp at hl
      | cons c cs ih => intro vs hl hv; cases vs with
        | nil => simp at hl
        | cons v vs =>
          obtain ⟨c', u, e1, e2⟩ := hv 0 v rfl
          simp at e1; subst e1; subst e2
          exact .cons ⟨u, rfl⟩ (ih vs (by simpa using hl) fun j w e => hv (j + 1) w (by simpa using e))
    refine main z.cps.toList acc.toList (by rw [sz]; simp) fun j v e => ?_
    obtain ⟨c, u, hc, rfl⟩ := hacc.2 j v (by simpa using e)
    exact ⟨c, u, by simpa using hc, rfl⟩

/-! ### the rules with the written part told (within a comprehension's block, too) -/
section
variable {X : Cx} {K : PySem.W.Frag} (hK : X.K = K)
include hK
theorem k_ix_list : IxR X (rIxL K) := by subst hK; exact ix_list
theorem k_ix_tup : IxR X (rIxT K) := by subst hK; exact ix_tup
theorem k_ix_seq : IxR X (rIx K) := by subst hK; exact ix_seq
theorem k_sl_list : SlR X (rSlL K) := by subst hK; exact sl_list
def rLenQ (K : PySem.W.Frag) : List V → Hp → VK → Prop := fun xs H Q => ∃ p ys, xs = [.ref p] ∧ (SqL K H p ys ∨ SqT K H p ys) ∧ Q (.int ys.length) H
omit hK in
def rLenZ : List V → Hp → VK → Prop := fun xs H Q => ∃ z, xs = [.str z] ∧ z.length ≤ sizeLine ∧ Q (.int z.length) H
theorem k_len_seq : CallR X (.builtin "len") (rLenQ K) := by subst hK; exact call_len_seq
theorem k_len_str : CallR X (.builtin "len") rLenZ := call_len_str
def rListOf (K : PySem.W.Frag) : List V → Hp → VK → Prop := fun xs H Q => ∃ p ys, xs = [.ref p] ∧ (SqL K H p ys ∨ SqT K H p ys) ∧ ∀ l, H l = none → Q (.ref l) (upd H l (.lst ys))
theorem k_list_of : CallR X (.type "list") (rListOf K) := by subst hK; exact call_list_of
def rTupleOf (K : PySem.W.Frag) : List V → Hp → VK → Prop := fun xs H Q => ∃ p ys, xs = [.ref p] ∧ ((SqL K H p ys ∧ ∀ l, H l = none → Q (.ref l) (upd H l (.tup ys))) ∨ (SqT K H p ys ∧ Q (.ref p) H))
theorem k_tuple_of : CallR X (.type "tuple") (rTupleOf K) := by subst hK; exact call_tuple_of
theorem k_isi : CallR X (.builtin "isinstance") (rIsi K) := by subst hK; exact call_isi
theorem k_isiT : CallR X (.builtin "isinstance") (rIsiT K) := by subst hK; exact call_isiT
theorem k_all (hc : X.calm = true) : CallR X (.builtin "all") (rAll K) := by subst hK; exact cr_all hc
theorem k_any (hc : X.calm = true) : CallR X (.builtin "any") (rAny K) := by subst hK; exact cr_any hc
theorem k_sum (hc : X.calm = true) : CallR X (.builtin "sum") (rSum K) := by subst hK; exact cr_sum hc
theorem k_max (hc : X.calm = true) : CallR X (.builtin "max") (rMax K) := by subst hK; exact cr_max hc
theorem k_min (hc : X.calm = true) : CallR X (.builtin "min") (rMin K) := by subst hK; exact cr_min hc
theorem k_eqNil (hu : X.A.units < cLine) : OpR X (compareOp .Eq) (rEqNil K) := by subst hK; exact op_eqNil hu
theorem k_neNil (hu : X.A.units < cLine) : OpR X (compareOp .NotEq) (rNeNil K) := by subst hK; exact op_neNil hu
theorem k_in_seq : OpR X (compareOp .In) (rIn K false) := by subst hK; exact op_in_seq
theorem k_notIn_seq : OpR X (compareOp .NotIn) (rIn K true) := by subst hK; exact op_notIn_seq
theorem k_list {tg l : Expr} {tl : TE} (hl : PE X l tl) : PI X tg l (iList K tl) := by subst hK; exact pi_list hl
theorem k_seq {tg l : Expr} {tl : TE} (hl : PE X l tl) : PI X tg l (iSeq K tl) := by subst hK; exact pi_seq hl
theorem k_bm {T : String} {r : V → List V → Hp → VK → Prop} {e : Expr} {to : TE} {t : TA} (h : PE X e (tBM X.K T r to t)) : PE X e (tBM K T r to t) := by subst hK; exact h
theorem k_bm0 {T : String} {r : V → List V → Hp → VK → Prop} {e : Expr} {to : TE} (h : PE X e (tBM0 X.K T r to)) : PE X e (tBM0 K T r to) := by subst hK; exact h
end
end MC

set_option Elab.async false
set_option linter.all false
set_option maxRecDepth 100000
set_option maxHeartbeats 4000000
/-! MD: rows as data: what a thing is, what a row is, sizes. -/
namespace MC
open PySem PySem.Spec L2
open PyProof.Rows hiding St

def isSign (c : Nat) : Bool := decide (97 ≤ c) && decide (c ≤ 122)
def isThingS (z : Str) : Bool := decide (1 ≤ z.length) && decide (z.length ≤ 8) && z.cps.toList.all isSign
def thingD : PyData → Bool
  | .str z => isThingS z
  | _ => false
def wholeD : PyData → Bool
  | .int _ => true
  | _ => false
def timesOk (t : Int) : Bool := decide (1 ≤ t) && decide (t ≤ 1000000000000000000000000000000)
def dNil : PyData → Bool
  | .list [] => true
  | .tuple [] => true
  | _ => false
mutual
def rowD : PyData → Bool
  | .list xs => partsD xs
  | .tuple xs => partsD xs
  | _ => false
def partD : PyData → Bool
  | .str z => isThingS z
  | .tuple [r, .int t] => timesOk t && !dNil r && rowD r
  | _ => false
def partsD : List PyData → Bool
  | [] => true
  | x :: xs => partD x && partsD xs
end
/-- looks like an again, but for what its row is made of -/
def againD : PyData → Bool
  | .tuple [r, .int t] => dSeq r && !dNil r && timesOk t
  | _ => false
def innerD : PyData → PyData
  | .tuple [r, _] => r
  | d => d
theorem rowD_seq {d : PyData} (h : dSeq d = false) : rowD d = false := by
  cases d <;> first | rfl | cases h
theorem partD_eq (d : PyData) : partD d = (if againD d then rowD (innerD d) else thingD d) := by
  unfold partD
  split
  · rename_i z
    rfl
  · rename_i r t
    have e : againD (.tuple [r, .int t]) = (dSeq r && !dNil r && timesOk t) := rfl
    rw [e]
    show (timesOk t && !dNil r && rowD r) = if (dSeq r && !dNil r && timesOk t) = true then rowD r else false
    by_cases h : dSeq r = true
    · rw [h]; cases timesOk t <;> cases dNil r <;> simp
    · have h : dSeq r = false := by simpa using h
      rw [rowD_seq h, h]; simp
  · rename_i h1 h2
    have : againD d = false := by
      unfold againD
      split
      · exact absurd rfl (h2 _ _)
      · rfl
    rw [this]
    cases d <;> first | rfl | exact absurd rfl (h1 _)
theorem partsD_eq (xs : List PyData) : partsD xs = xs.all partD := by
  induction xs with
  | nil => rfl
  | cons x xs ih => simp only [partsD, List.all_cons, ih]

def elemsD : PyData → List PyData
  | .list xs => xs
  | .tuple xs => xs
  | _ => []
theorem DD.seq {H : Hp} {x : V} {d : PyData} (h : DD H x d) (k : dSeq d = true) : ∃ a xs, x = .ref a ∧ SqX H a xs ∧ DDs H xs (elemsD d) := by
  cases h with
  | lst ha hs => exact ⟨_, _, rfl, .inl ha, hs⟩
  | tup ha hs => exact ⟨_, _, rfl, .inr ha, hs⟩
  | _ => cases k
theorem rowD_elems {d : PyData} (k : dSeq d = true) : rowD d = partsD (elemsD d) := by
  cases d <;> first | rfl | cases k
theorem dNil_elems {d : PyData} (k : dSeq d = true) : dNil d = (elemsD d).isEmpty := by
  cases d with
  | list xs => cases xs <;> rfl
  | tuple xs => cases xs <;> rfl
  | _ => cases k
theorem SqX.lt {K : PySem.W.Frag} {H : Hp} {a : Addr} {xs : List V} (h : SqX H a xs) : SqL K H a xs ∨ SqT K H a xs := h.imp SqL.of SqT.of

/-! ### sizes -/
mutual
/-- how many nodes -/
def wD : PyData → Nat
  | .list xs => 1 + wDs xs
  | .tuple xs => 1 + wDs xs
  | _ => 1
def wDs : List PyData → Nat
  | [] => 0
  | x :: xs => wD x + wDs xs
end
mutual
/-- its leaves are small, its dicts empty -/
def okD : PyData → Bool
  | .none => true
  | .bool _ => true
  | .int i => decide (i.natAbs < 10 ^ 40)
  | .str z => decide (z.length ≤ 9) && z.cps.toList.all fun c => decide (c < 16 ^ 8)
  | .list xs => oksD xs
  | .tuple xs => oksD xs
  | .dict kvs => kvs.isEmpty
def oksD : List PyData → Bool
  | [] => true
  | x :: xs => okD x && oksD xs
end
theorem wD_pos (d : PyData) : 1 ≤ wD d := by cases d <;> simp only [wD] <;> omega
theorem wDs_append (xs ys : List PyData) : wDs (xs ++ ys) = wDs xs + wDs ys := by
  induction xs with
  | nil => simp [wDs]
  | cons x xs ih => simp only [List.cons_append, wDs, ih]; omega
theorem oksD_append (xs ys : List PyData) : oksD (xs ++ ys) = (oksD xs && oksD ys) := by
  induction xs with
  | nil => simp [oksD]
  | cons x xs ih => simp only [List.cons_append, oksD, ih, Bool.and_assoc]
theorem oksD_all (xs : List PyData) : oksD xs = xs.all okD := by
  induction xs with
  | nil => rfl
  | cons x xs ih => simp only [oksD, List.all_cons, ih]
theorem oksD_get {xs : List PyData} (h : oksD xs = true) {i : Nat} {d : PyData} (e : xs[i]? = some d) : okD d = true := by
  rw [oksD_all, List.all_eq_true] at h
  exact h d (List.mem_of_getElem? e)
theorem wD_le {xs : List PyData} {i : Nat} {d : PyData} (e : xs[i]? = some d) : wD d ≤ wDs xs := by
  induction xs generalizing i with
  | nil => simp at e
  | cons x xs ih =>
    simp only [wDs]
    cases i with
    | zero => simp at e; subst e; omega
    | succ i => have := ih (i := i) (by simpa using e); omega
theorem len_wDs (xs : List PyData) : xs.length ≤ wDs xs := by
  induction xs with
  | nil => simp [wDs]
  | cons x xs ih => simp only [List.length_cons, wDs]; have := wD_pos x; omega
theorem depthAll_append (xs ys : List PyData) : PyData.depthAll (xs ++ ys) = max (PyData.depthAll xs) (PyData.depthAll ys) := by
  induction xs with
  | nil => simp [PyData.depthAll]
  | cons x xs ih => simp only [List.cons_append, PyData.depthAll, ih]; omega
theorem depth_le {xs : List PyData} {i : Nat} {d : PyData} (e : xs[i]? = some d) : d.depth ≤ PyData.depthAll xs := by
  induction xs generalizing i with
  | nil => simp at e
  | cons x xs ih =>
    simp only [PyData.depthAll]
    cases i with
    | zero => simp at e; subst e; omega
    | succ i => have := ih (i := i) (by simpa using e); omega
mutual
theorem okD_showable : ∀ d : PyData, okD d = true → d.showable = true
  | .none, _ => by simp only [PyData.showable]
  | .bool _, _ => by simp only [PyData.showable]
  | .str _, _ => by simp only [PyData.showable]
  | .int i, h => by
    simp only [okD, decide_eq_true_eq] at h
    simp only [PyData.showable, decide_eq_true_eq]
    exact PySem.Spec.log2_small (Nat.lt_of_lt_of_le h (by decide))
  | .list xs, h => by
    simp only [okD] at h
    simp only [PyData.showable]
    exact oksD_showable xs h
  | .tuple xs, h => by
    simp only [okD] at h
    simp only [PyData.showable]
    exact oksD_showable xs h
  | .dict kvs, h => by
    simp only [okD, List.isEmpty_iff] at h
    subst h
    simp only [PyData.showable, PyData.showableKv]
theorem oksD_showable : ∀ xs : List PyData, oksD xs = true → PyData.showableAll xs = true
  | [], _ => by simp only [PyData.showableAll]
  | x :: xs, h => by
    simp only [oksD, Bool.and_eq_true] at h
    simp only [PyData.showableAll, Bool.and_eq_true]
    exact ⟨okD_showable x h.1, oksD_showable xs h.2⟩
end
theorem int_shown_le {i : Int} (h : i.natAbs < 10 ^ 40) : (PyData.shown (.int i)).length ≤ 50 := by
  have e := int_text_length_le10 (k := 40) (by decide) h
  show (Str.ofString (toString i)).length ≤ 50
  rw [PySem.ofString_length]
  exact Nat.le_trans e (by decide)
mutual
theorem okD_short : ∀ d : PyData, okD d = true → d.leavesShort 50 = true
  | .none, _ => by simp only [PyData.leavesShort]
  | .bool _, _ => by simp only [PyData.leavesShort]
  | .str z, h => by
    simp only [okD, Bool.and_eq_true] at h
    simp only [PyData.leavesShort]
    exact h.2
  | .int i, h => by
    simp only [okD, decide_eq_true_eq] at h
    simp only [PyData.leavesShort, decide_eq_true_eq]
    exact int_shown_le h
  | .list xs, h => by
    simp only [okD] at h
    simp only [PyData.leavesShort]
    exact oksD_short xs h
  | .tuple xs, h => by
    simp only [okD] at h
    simp only [PyData.leavesShort]
    exact oksD_short xs h
  | .dict kvs, h => by
    simp only [okD, List.isEmpty_iff] at h
    subst h
    simp only [PyData.leavesShort, PyData.leavesShortKv]
theorem oksD_short : ∀ xs : List PyData, oksD xs = true → PyData.leavesShortAll 50 xs = true
  | [], _ => by simp only [PyData.leavesShortAll]
  | x :: xs, h => by
    simp only [oksD, Bool.and_eq_true] at h
    simp only [PyData.leavesShortAll, Bool.and_eq_true]
    exact ⟨okD_short x h.1, oksD_short xs h.2⟩
end
mutual
theorem weight_le : ∀ d : PyData, okD d = true → d.weight + 1 ≤ 140 * wD d
  | .none, _ => by simp only [PyData.weight, wD]; omega
  | .bool _, _ => by simp only [PyData.weight, wD]; omega
  | .str z, h => by
    simp only [okD, Bool.and_eq_true, decide_eq_true_eq] at h
    have h1 : z.cps.size ≤ 9 := h.1
    simp only [PyData.weight, wD]; omega
  | .int i, h => by
    simp only [okD, decide_eq_true_eq] at h
    simp only [PyData.weight, wD]
    split
    · omega
    · rename_i h0
      have h1 : i.natAbs ≠ 0 := by
        intro z
        apply h0
        simpa using z
      have h2 : i.natAbs.log2 < 133 := (Nat.log2_lt h1).mpr (Nat.lt_of_lt_of_le h (by decide))
      omega
  | .list xs, h => by
    simp only [okD] at h
    have := weights_le xs h
    simp only [PyData.weight, wD]; omega
  | .tuple xs, h => by
    simp only [okD] at h
    have := weights_le xs h
    simp only [PyData.weight, wD]; omega
  | .dict kvs, h => by
    simp only [okD, List.isEmpty_iff] at h
    subst h
    simp only [PyData.weight, PyData.weightKv, wD]; omega
theorem weights_le : ∀ xs : List PyData, oksD xs = true → PyData.weightAll xs ≤ 140 * wDs xs
  | [], _ => by simp only [PyData.weightAll]; omega
  | x :: xs, h => by
    simp only [oksD, Bool.and_eq_true] at h
    have h1 := weight_le x h.1
    have h2 := weights_le xs h.2
    simp only [PyData.weightAll, wDs]; omega
end
theorem shown_fits {d : PyData} (h : okD d = true) (hw : wD d ≤ 2000) : d.shown.length ≤ sizeLine := by
  have h1 := PyData.shown_le 50 (by decide) d (okD_short d h)
  have h2 := weight_le d h
  have h3 : d.weight ≤ 140 * 2000 := by omega
  exact Nat.le_trans h1 (Nat.le_trans (Nat.add_le_add_right (Nat.mul_le_mul_left _ h3) _) (by decide))
theorem okD_elems {d : PyData} (h : okD d = true) : oksD (elemsD d) = true := by
  cases d <;> first | rfl | (simp only [okD] at h; exact h)
theorem wD_elems (d : PyData) : wDs (elemsD d) ≤ wD d := by
  cases d <;> simp only [elemsD, wD, wDs] <;> omega
theorem depth_elems {d : PyData} (k : dSeq d = true) : d.depth = PyData.depthAll (elemsD d) + 1 := by
  cases d <;> first | (simp only [PyData.depth, elemsD]; done) | cases k
end MC

set_option Elab.async false
set_option linter.all false
set_option maxRecDepth 100000
set_option maxHeartbeats 4000000
namespace MC
open PySem PySem.Spec L2
open PyProof.Rows hiding St
theorem low_tab : ∀ c < 128, (Unicode.isAlpha c && (Unicode.lowerOf c == [c])) = isSign c := by decide +kernel
theorem low_one : ∀ c < 128, (Unicode.lowerOf c).length = 1 := by decide +kernel
theorem lowerAt_ascii {s : Array Nat} {i c : Nat} (h : s[i]? = some c) (hc : c < 128) : Unicode.lowerAt s i = Unicode.lowerOf c := by
  unfold Unicode.lowerAt
  rw [h]
  have : (c == 0x3A3) = false := by simp; omega
  simp [this]
theorem lower_list (x : Str) (h : Txt.isascii x = true) : (Txt.lower x).cps.toList = x.cps.toList.flatMap Unicode.lowerOf := by
  have hh : ∀ (i : Nat) (c : Nat), x.cps[i]? = some c → c < 128 := by
    intro i c e
    unfold Txt.isascii at h
    rw [Array.all_eq_true'] at h
    have := h c (Array.mem_of_getElem? e)
    simpa using this
  show (placed x fun i _ => Unicode.lowerAt x.cps i).toList = _
  unfold placed
  rw [Array.toList_flatten, Array.toList_mapIdx, List.flatMap_def]
  congr 1
  apply List.ext_getElem
  · simp
  · intro n h1 h2
    simp at h1 h2 ⊢
    exact lowerAt_ascii (by simp [h1]) (hh n _ (by simp [h1]))
theorem flat_eq (l : List Nat) (h : ∀ c ∈ l, (Unicode.lowerOf c).length = 1) : l.flatMap Unicode.lowerOf = l ↔ ∀ c ∈ l, Unicode.lowerOf c = [c] := by
  induction l with
  | nil => simp
  | cons c l ih =>
    have h1 := h c (by simp)
    obtain ⟨d, hd⟩ := List.length_eq_one_iff.mp h1
    rw [List.flatMap_cons, hd]
    have ih := ih fun c hc => h c (by simp [hc])
    simp [ih, hd]
theorem small_look (x : Str) : (decide (x = Str.empty) || (Txt.isascii x && (Txt.isalpha x && decide (x = Txt.lower x)))) = x.cps.toList.all isSign := by
  have ext : ∀ a b : Str, a.cps.toList = b.cps.toList → a = b := by
    rintro ⟨a⟩ ⟨b⟩ h
    simp only [Str.mk.injEq]
    exact Array.toList_inj.mp h
  by_cases h0 : x = Str.empty
  · subst h0
    simp [Str.empty]
  have hpos : 0 < x.length := by
    rcases Nat.eq_zero_or_pos x.length with h | h
    · refine absurd (ext _ _ ?_) h0
      have : x.cps.size = 0 := h
      simp [Str.empty]
      exact Array.size_eq_zero_iff.mp this
    · exact h
  rw [decide_eq_false h0, Bool.false_or]
  by_cases ha : Txt.isascii x = true
  · have hh : ∀ c ∈ x.cps.toList, c < 128 := by
      intro c hc
      unfold Txt.isascii at ha
      rw [Array.all_eq_true'] at ha
      simpa using ha c (by simpa using hc)
    have hl : decide (x = Txt.lower x) = x.cps.toList.all fun c => Unicode.lowerOf c == [c] := by
      have f := flat_eq x.cps.toList fun c hc => low_one c (hh c hc)
      rw [← lower_list x ha] at f
      rw [Bool.eq_iff_iff, decide_eq_true_eq, List.all_eq_true]
      constructor
      · intro e c hc
        have := f.mp (congrArg (fun z : Str => z.cps.toList) e.symm) c hc
        simpa using this
      · intro e
        exact ext _ _ (f.mpr fun c hc => by simpa using e c hc).symm
    have hal : Txt.isalpha x = x.cps.toList.all Unicode.isAlpha := by
      unfold Txt.isalpha
      rw [decide_eq_true hpos, Bool.true_and, ← Array.all_toList]
    rw [ha, hl, hal, Bool.true_and]
    generalize x.cps.toList = l at hh
    induction l with
    | nil => rfl
    | cons c l ih =>
      have h1 := low_tab c (hh c (by simp))
      have h2 := ih fun c hc => hh c (by simp [hc])
      simp only [List.all_cons, ← h1, ← h2]
      cases Unicode.isAlpha c <;> cases Unicode.lowerOf c == [c] <;> simp
  · have : Txt.isascii x = false := by simpa using ha
    rw [this, Bool.false_and, eq_comm, List.all_eq_false]
    unfold Txt.isascii at this
    rw [← Array.all_toList, List.all_eq_false] at this
    obtain ⟨c, hc, e⟩ := this
    refine ⟨c, hc, ?_⟩
    simp at e
    simp [isSign]; omega

/-- the reading of a dict comprehension over any iterator -/
theorem dc_it {J : It} {n : Nat} {G : Hp → Prop} {Y : Nat → Hp → V → Hp → Prop} (w : Walk J n G Y) {g : TG} {tt : TT} {tk tv : TE} {vs : List Nat} {σ : St} {H1 : Hp} {D : Addr} {Qd : Hp → Prop} (Pv : Nat → Hp → Prop) (h0 : Pv 0 (upd H1 D (.dK []))) (hG : ∀ i H, i ≤ n → Pv i H → G H)
    (hs : ∀ i x H H', i < n → Pv i H → Y i H x H' → g x (wipe σ vs) H' fun σ2 H2 => wipe σ2 vs = wipe σ vs ∧ tt σ2 H2 fun b H3 =>
      if b = true then tk σ2 H3 fun y H4 => tv σ2 H4 fun z H5 => ∃ kvs k, y = kV k ∧ H5 D = some (.dK kvs) ∧ kvs.length < sizeLine ∧ Pv (i + 1) (upd H5 D (.dK (putK kvs k z))) else Pv (i + 1) H3) (hd : ∀ H, Pv n H → Qd H) :
    ∃ W : Nat → Nat → Hp → Prop, (∃ m, W 0 m (upd H1 D (.dK []))) ∧ ∀ i m H, W i m H →
      (J.stop i H ∧ Qd H) ∨ (J.go i H ∧ ∃ Nx : Hp → Prop, (∀ H', Nx H' → ∃ m', m' < m ∧ W (i + 1) m' H') ∧ ∀ x H', J.yld i H x H' → g x (wipe σ vs) H' fun σ2 H2 => wipe σ2 vs = wipe σ vs ∧ tt σ2 H2 fun b H3 =>
        if b = true then tk σ2 H3 fun y H4 => tv σ2 H4 fun z H5 => ∃ kvs k, y = kV k ∧ H5 D = some (.dK kvs) ∧ kvs.length < sizeLine ∧ Nx (upd H5 D (.dK (putK kvs k z))) else Nx H3) := by
  refine ⟨fun i m H => m = n - i ∧ i ≤ n ∧ Pv i H, ⟨n, by simp, Nat.zero_le _, h0⟩, ?_⟩
  rintro i m H ⟨rfl, hi, p⟩
  have q := hG i H hi p
  by_cases hlt : i < n
  · refine .inr ⟨w.goes i H hlt q, Pv (i + 1), fun H' p' => ⟨n - (i + 1), by omega, rfl, hlt, p'⟩, fun x H' y => hs i x H H' hlt p (w.yields i H x H' hlt q y)⟩
  · have e : i = n := by omega
    subst e
    exact .inl ⟨w.stops H q, hd H p⟩
/-- .. over what is a list or a tuple -/
theorem dc_seqD {K : PySem.W.Frag} {a : Addr} {xs : List V} {g : TG} {tt : TT} {tk tv : TE} {vs : List Nat} {σ : St} {H : Hp} {Qd : Addr → Hp → Prop} (h : SqX H a xs) (Pv : Addr → Nat → Hp → Prop) (h0 : ∀ D, H D = none → Pv D 0 (upd H D (.dK [])))
    (hl : ∀ D i H', H D = none → i ≤ xs.length → Pv D i H' → H' a = H a)
    (hs : ∀ D i x H', H D = none → xs[i]? = some x → Pv D i H' → g x (wipe σ vs) H' fun σ2 H2 => wipe σ2 vs = wipe σ vs ∧ tt σ2 H2 fun b H3 =>
      if b = true then tk σ2 H3 fun y H4 => tv σ2 H4 fun z H5 => ∃ kvs k, y = kV k ∧ H5 D = some (.dK kvs) ∧ kvs.length < sizeLine ∧ Pv D (i + 1) (upd H5 D (.dK (putK kvs k z))) else Pv D (i + 1) H3) (hd : ∀ D H', H D = none → Pv D xs.length H' → Qd D H') :
    ∃ b, V.ref a = .ref b ∧ (((∃ ys, H b = some (.lst ys)) ∧ ∀ D, H D = none → ∃ W : Nat → Nat → Hp → Prop, (∃ m, W 0 m (upd H D (.dK []))) ∧ ∀ i m H, W i m H →
        ((Itl K b).stop i H ∧ Qd D H) ∨ ((Itl K b).go i H ∧ ∃ Nx : Hp → Prop, (∀ H', Nx H' → ∃ m', m' < m ∧ W (i + 1) m' H') ∧ ∀ x H', (Itl K b).yld i H x H' → g x (wipe σ vs) H' fun σ2 H2 => wipe σ2 vs = wipe σ vs ∧ tt σ2 H2 fun b H3 =>
          if b = true then tk σ2 H3 fun y H4 => tv σ2 H4 fun z H5 => ∃ kvs k, y = kV k ∧ H5 D = some (.dK kvs) ∧ kvs.length < sizeLine ∧ Nx (upd H5 D (.dK (putK kvs k z))) else Nx H3)) ∨
      ((∃ ys, H b = some (.tup ys)) ∧ ∀ D, H D = none → ∃ W : Nat → Nat → Hp → Prop, (∃ m, W 0 m (upd H D (.dK []))) ∧ ∀ i m H, W i m H →
        ((Itt K b).stop i H ∧ Qd D H) ∨ ((Itt K b).go i H ∧ ∃ Nx : Hp → Prop, (∀ H', Nx H' → ∃ m', m' < m ∧ W (i + 1) m' H') ∧ ∀ x H', (Itt K b).yld i H x H' → g x (wipe σ vs) H' fun σ2 H2 => wipe σ2 vs = wipe σ vs ∧ tt σ2 H2 fun b H3 =>
          if b = true then tk σ2 H3 fun y H4 => tv σ2 H4 fun z H5 => ∃ kvs k, y = kV k ∧ H5 D = some (.dK kvs) ∧ kvs.length < sizeLine ∧ Nx (upd H5 D (.dK (putK kvs k z))) else Nx H3))) := by
  refine ⟨a, rfl, ?_⟩
  rcases h with h | h
  · refine .inl ⟨⟨xs, h⟩, fun D hD => dc_it (walk_list (K := K) (a := a) (xs := xs)) (Pv D) (h0 D hD) (fun i H' hi p => SqL.of ((hl D i H' hD hi p).trans h)) ?_ fun H' p => hd D H' hD p⟩
    rintro i x H' _ _ p ⟨rfl, e⟩
    exact hs D i x _ hD e p
  · refine .inr ⟨⟨xs, h⟩, fun D hD => dc_it (walk_tup (K := K) (a := a) (xs := xs)) (Pv D) (h0 D hD) (fun i H' hi p => SqT.of ((hl D i H' hD hi p).trans h)) ?_ fun H' p => hd D H' hD p⟩
    rintro i x H' _ _ p ⟨rfl, e⟩
    exact hs D i x _ hD e p

/-- the reading of a comprehension over it -/
theorem lc_seqD {K : PySem.W.Frag} {a : Addr} {xs : List V} {g : TG} {tt : TT} {te : TE} {vs : List Nat} {σ : St} {H : Hp} {Qd : Addr → Hp → Prop} (h : SqX H a xs) (Pv : Addr → Nat → Hp → Prop) (h0 : ∀ D, H D = none → Pv D 0 (upd H D (.lst [])))
    (hl : ∀ D i H', H D = none → i ≤ xs.length → Pv D i H' → H' a = H a)
    (hs : ∀ D i x H', H D = none → xs[i]? = some x → Pv D i H' → g x (wipe σ vs) H' fun σ2 H2 => wipe σ2 vs = wipe σ vs ∧ tt σ2 H2 fun b H3 =>
      if b = true then te σ2 H3 fun y H4 => ∃ acc, H4 D = some (.lst acc) ∧ acc.length < sizeLine ∧ Pv D (i + 1) (upd H4 D (.lst (acc ++ [y]))) else Pv D (i + 1) H3) (hd : ∀ D H', H D = none → Pv D xs.length H' → Qd D H') :
    ∃ b, V.ref a = .ref b ∧ (((∃ ys, H b = some (.lst ys)) ∧ ∀ D, H D = none → ∃ W : Nat → Nat → Hp → Prop, (∃ m, W 0 m (upd H D (.lst []))) ∧ ∀ i m H, W i m H →
        ((Itl K b).stop i H ∧ Qd D H) ∨ ((Itl K b).go i H ∧ ∃ Nx : Hp → Prop, (∀ H', Nx H' → ∃ m', m' < m ∧ W (i + 1) m' H') ∧ ∀ x H', (Itl K b).yld i H x H' → g x (wipe σ vs) H' fun σ2 H2 => wipe σ2 vs = wipe σ vs ∧ tt σ2 H2 fun b H3 =>
          if b = true then te σ2 H3 fun y H4 => ∃ acc, H4 D = some (.lst acc) ∧ acc.length < sizeLine ∧ Nx (upd H4 D (.lst (acc ++ [y]))) else Nx H3)) ∨
      ((∃ ys, H b = some (.tup ys)) ∧ ∀ D, H D = none → ∃ W : Nat → Nat → Hp → Prop, (∃ m, W 0 m (upd H D (.lst []))) ∧ ∀ i m H, W i m H →
        ((Itt K b).stop i H ∧ Qd D H) ∨ ((Itt K b).go i H ∧ ∃ Nx : Hp → Prop, (∀ H', Nx H' → ∃ m', m' < m ∧ W (i + 1) m' H') ∧ ∀ x H', (Itt K b).yld i H x H' → g x (wipe σ vs) H' fun σ2 H2 => wipe σ2 vs = wipe σ vs ∧ tt σ2 H2 fun b H3 =>
          if b = true then te σ2 H3 fun y H4 => ∃ acc, H4 D = some (.lst acc) ∧ acc.length < sizeLine ∧ Nx (upd H4 D (.lst (acc ++ [y]))) else Nx H3))) := by
  refine ⟨a, rfl, ?_⟩
  rcases h with h | h
  · exact .inl ⟨⟨xs, h⟩, fun D hD => lc_list (K := K) (a := a) (xs := xs) (Pv D) (h0 D hD) (fun i H' hi p => SqL.of ((hl D i H' hD hi p).trans h)) (fun i x H' e p => hs D i x H' hD e p) fun H' p => hd D H' hD p⟩
  · exact .inr ⟨⟨xs, h⟩, fun D hD => lc_tup (K := K) (a := a) (xs := xs) (Pv D) (h0 D hD) (fun i H' hi p => SqT.of ((hl D i H' hD hi p).trans h)) (fun i x H' e p => hs D i x H' hD e p) fun H' p => hd D H' hD p⟩
/-! ### dicts whose keys are texts, as sets -/
def setK (zs : List Str) : List (Key × V) := zs.map fun z => (Sum.inr z, V.bl true)
theorem setK_put (zs : List Str) (z : Str) : putK (setK zs) (Sum.inr z) (.bl true) = setK (if z ∈ zs then zs else zs ++ [z]) := by
  unfold putK setK
  by_cases h : z ∈ zs
  · have : (List.map (fun z => ((Sum.inr z : Key), V.bl true)) zs).any (fun kv => decide (kv.1 = Sum.inr z)) = true := by
      rw [List.any_eq_true]
      exact ⟨(Sum.inr z, .bl true), by simp [h], by simp⟩
    rw [if_pos this, if_pos h, List.map_map]
    refine List.map_congr_left fun y hy => ?_
    by_cases e : y = z
    · subst e; simp
    · simp
  · have : (List.map (fun z => ((Sum.inr z : Key), V.bl true)) zs).any (fun kv => decide (kv.1 = Sum.inr z)) = false := by
      rw [List.any_eq_false]
      rintro ⟨k, v⟩ hk
      simp only [List.mem_map, Prod.mk.injEq] at hk
      obtain ⟨y, hy, rfl, rfl⟩ := hk
      simp only [decide_eq_true_eq, Sum.inr.injEq]
      rintro rfl
      exact h hy
    rw [if_neg (by simp [this]), if_neg h]
    simp
theorem joined_all (zs : List Str) (p : Nat → Bool) : (Str.join Str.empty zs).cps.toList.all p = zs.all fun z => z.cps.toList.all p := by
  have h := TL.tl_join Str.empty zs
  have e : ∀ l : List (List Nat), (TL.joinL [] l).all p = l.all fun c => c.all p := by
    intro l
    induction l with
    | nil => rfl
    | cons c l ih =>
      cases l with
      | nil => simp [TL.joinL]
      | cons d l => simp only [TL.joinL, List.nil_append, List.all_append, List.all_cons] at ih ⊢; rw [ih]
  have h2 : (Str.join Str.empty zs).cps.toList = TL.joinL [] (zs.map TL.tl) := h
  rw [h2, e, List.all_map]
  rfl
theorem joined_len (zs : List Str) : (Str.join Str.empty zs).length = (zs.map (·.length)).sum := by
  have h := TL.tl_join Str.empty zs
  have e : ∀ l : List (List Nat), (TL.joinL [] l).length = (l.map (·.length)).sum := by
    intro l
    induction l with
    | nil => rfl
    | cons c l ih =>
      cases l with
      | nil => simp [TL.joinL]
      | cons d l => simp only [TL.joinL, List.nil_append, List.length_append, List.map_cons, List.sum_cons] at ih ⊢; rw [ih]
  have h2 : (Str.join Str.empty zs).cps.toList = TL.joinL [] (zs.map TL.tl) := h
  have h3 : (Str.join Str.empty zs).length = (Str.join Str.empty zs).cps.toList.length := by simp [Str.length]
  rw [h3, h2, e, List.map_map]
  congr 1
end MC

set_option Elab.async false
set_option linter.all false
set_option maxRecDepth 100000
set_option maxHeartbeats 4000000
namespace K00
open PySem PySem.Spec L2 MC
open PyProof.Rows hiding St
def top (i : Nat) : Stmt := PySem.Challenge.pw_missclock_k00_things_and_rows.main.body.getD i (.Pass ⟨0, 0, 0, 0⟩)
abbrev s_is_whole : Stmt := top 1
theorem sc_is_whole : FnScope ["value"] ["value"] (defScope s_is_whole) := ⟨rfl, rfl, rfl, by decide +kernel, rfl, by decide +kernel, by decide +kernel⟩
abbrev s_is_thing : Stmt := top 6
theorem sc_is_thing : FnScope ["thing"] ["thing"] (defScope s_is_thing) := ⟨rfl, rfl, rfl, by decide +kernel, rfl, by decide +kernel, by decide +kernel⟩
abbrev s_are_things : Stmt := top 7
theorem sc_are_things : FnScope ["values", "texts", "text"] ["values"] (defScope s_are_things) := ⟨rfl, rfl, rfl, by decide +kernel, rfl, by decide +kernel, by decide +kernel⟩
abbrev s_are_small : Stmt := top 8
theorem sc_are_small : FnScope ["signs"] ["signs"] (defScope s_are_small) := ⟨rfl, rfl, rfl, by decide +kernel, rfl, by decide +kernel, by decide +kernel⟩
abbrev s_is_row : Stmt := top 9
theorem sc_is_row : FnScope ["thing", "waiting", "row", "deep", "agains", "part"] ["thing"] (defScope s_is_row) := ⟨rfl, rfl, rfl, by decide +kernel, rfl, by decide +kernel, by decide +kernel⟩
abbrev s_looks_again : Stmt := top 10
theorem sc_looks_again : FnScope ["part", "row", "times"] ["part"] (defScope s_looks_again) := ⟨rfl, rfl, rfl, by decide +kernel, rfl, by decide +kernel, by decide +kernel⟩
abbrev s_l_dice : Stmt := top 12
theorem sc_l_dice : FnScope ["_law_script", "_law_great", "_law_mixed", "_law_cell"] ["_law_script"] (defScope s_l_dice) := ⟨rfl, rfl, rfl, by decide +kernel, rfl, by decide +kernel, by decide +kernel⟩
abbrev s_l_roll : Stmt := top 13
theorem sc_l_roll : FnScope ["_law_dice_here", "_law_many", "_law_found", "_law_pips"] ["_law_dice_here", "_law_many"] (defScope s_l_roll) := ⟨rfl, rfl, rfl, by decide +kernel, rfl, by decide +kernel, by decide +kernel⟩
abbrev s_l_names : Stmt := top 14
theorem sc_l_names : FnScope ["_law_dice_here", "_law_many", "_law_letters", "_law_left", "_law_sign", "_law_k"] ["_law_dice_here", "_law_many"] (defScope s_l_names) := ⟨rfl, rfl, rfl, by decide +kernel, rfl, by decide +kernel, by decide +kernel⟩
abbrev s_l_row : Stmt := top 15
theorem sc_l_row : FnScope ["_law_dice_here", "_law_names_here", "_law_plan", "_law_layers", "_law_found", "_law_k", "_law_name", "_law_again", "_law_inner", "_law_times"] ["_law_dice_here", "_law_names_here", "_law_plan", "_law_layers"] (defScope s_l_row) := ⟨rfl, rfl, rfl, by decide +kernel, rfl, by decide +kernel, by decide +kernel⟩
abbrev s_l_dressed : Stmt := top 16
theorem sc_l_dressed : FnScope ["_law_dice_here", "_law_line", "_law_found", "_law_part"] ["_law_dice_here", "_law_line"] (defScope s_l_dressed) := ⟨rfl, rfl, rfl, by decide +kernel, rfl, by decide +kernel, by decide +kernel⟩
abbrev s_l_odd : Stmt := top 17
theorem sc_l_odd : FnScope ["_law_dice_here", "_law_some"] ["_law_dice_here"] (defScope s_l_odd) := ⟨rfl, rfl, rfl, by decide +kernel, rfl, by decide +kernel, by decide +kernel⟩
abbrev s_l_bent : Stmt := top 18
theorem sc_l_bent : FnScope ["_law_dice_here", "_law_thing", "_law_found", "_law_at", "_law_way"] ["_law_dice_here", "_law_thing"] (defScope s_l_bent) := ⟨rfl, rfl, rfl, by decide +kernel, rfl, by decide +kernel, by decide +kernel⟩
abbrev s_l_is_thing : Stmt := top 19
theorem sc_l_is_thing : FnScope ["_law_thing", "_law_sign"] ["_law_thing"] (defScope s_l_is_thing) := ⟨rfl, rfl, rfl, by decide +kernel, rfl, by decide +kernel, by decide +kernel⟩
abbrev s_l_is_part : Stmt := top 20
theorem sc_l_is_part : FnScope ["_law_part"] ["_law_part"] (defScope s_l_is_part) := ⟨rfl, rfl, rfl, by decide +kernel, rfl, by decide +kernel, by decide +kernel⟩
abbrev s_l_is_row : Stmt := top 21
theorem sc_l_is_row : FnScope ["_law_thing", "_law_part"] ["_law_thing"] (defScope s_l_is_row) := ⟨rfl, rfl, rfl, by decide +kernel, rfl, by decide +kernel, by decide +kernel⟩
abbrev s_law : Stmt := top 22
theorem sc_law : FnScope ["_law_script", "_law_dice_here", "_law_turn", "_law_names_here", "_law_line", "_law_some", "_law_thing", "_law_kept", "_law_told"] ["_law_script"] (defScope s_law) := ⟨rfl, rfl, rfl, by decide +kernel, rfl, by decide +kernel, by decide +kernel⟩
/-- a def of the text, as it is called -/
structure Own (K : PySem.W.Frag) (mg : Str → Option Value) (x : Str) (st : Stmt) (f : Addr) (fd : FuncData) (ps : List Str) : Prop where
  F : Fun K x x st f fd
  m : mg x = some (.ref f)
  b : Binds K fd ps []
structure Txt (K : PySem.W.Frag) (mg : Str → Option Value) : Prop where
  n_isinstance : mg "isinstance" = none
  n_int : mg "int" = none
  n_bool : mg "bool" = none
  n_str : mg "str" = none
  n_list : mg "list" = none
  n_tuple : mg "tuple" = none
  n_len : mg "len" = none
  n_all : mg "all" = none
  n_range : mg "range" = none
  n_min : mg "min" = none
  n_repr : mg "repr" = none
  c_LONGEST_THING : ∃ t, mg "LONGEST_THING" = some (.int 8 t)
  c_MOST_TIMES : ∃ t, mg "MOST_TIMES" = some (.int 1000000000000000000000000000000 t)
  c_DEEPEST_ROW : ∃ t, mg "DEEPEST_ROW" = some (.int 2000000 t)
  sys : ∃ o, K.lookup sysModules = some o

/-! ### promises -/
/-- all that was tracked stays, the answer is the data's -/
def spD (g : PyData → Bool) : Sp := fun vs H Q _ => ∃ x d, vs = [x] ∧ DD H x d ∧ okD d = true ∧ d.depth ≤ 60 ∧ wD d ≤ 2000 ∧ ∀ H', Same H H' → Q (.bl (g d)) H'
theorem spD_len {g : PyData → Bool} : ∀ vs H Q E, spD g vs H Q E → vs.length = 1 := fun vs H Q E h => by
  obtain ⟨x, d, rfl, _⟩ := h
  rfl
section
variable {P : Program} {w : World} {K : PySem.W.Frag} {mg : Str → Option Value} {base : Heap}
variable {f_is_whole f_is_thing f_is_row f_looks_again f_are_small f_are_things : Addr} {fd_is_whole fd_is_thing fd_is_row fd_looks_again fd_are_small fd_are_things : FuncData}

theorem ok_is_whole (T : Txt K mg) (O_is_whole : Own K mg "is_whole" s_is_whole f_is_whole fd_is_whole ["value"]) : FnOk P w K mg base CX0 1 f_is_whole fd_is_whole ["value"] (spD wholeD) := by
  refine O_is_whole.F.ok sc_is_whole spD_len (fun cdv A outer s H vs Q E hr h => ?_)
  obtain ⟨x, d, rfl, hd, hok, hdp, hwd, q⟩ := h
  refine ⟨_, (pss_one (ps_ret (pe_and (pe_callB (k_isi (K := K) rfl) (by rfl) T.n_isinstance (by decide +kernel) (pa_cons (pv 0) (pa_cons (pe_bltn (v := .ty "int") (by rfl) T.n_int (by decide +kernel) rfl) pa_nil))) (pe_one (pe_not (pe_callB (k_isi (K := K) rfl) (by rfl) T.n_isinstance (by decide +kernel) (pa_cons (pv 0) (pa_cons (pe_bltn (v := .ty "bool") (by rfl) T.n_bool (by decide +kernel) rfl) pa_nil)))))))), ?_⟩
  refine ⟨_, rfl, _, _, _, _, _, rfl, .ty _, ty_of hd, kI_int, _, rfl, ?_⟩
  refine ite2 (fun c => ?_) (fun c => ?_)
  · refine ⟨_, rfl, _, _, _, _, _, rfl, .ty _, ty_of hd, kI_bool, _, rfl, ?_⟩
    have e : (!dBool d) = wholeD d := by cases d <;> simp [dInt, dBool, wholeD] at c ⊢
    rw [e]
    exact q H (Same.refl H)
  · have e : wholeD d = false := by cases d <;> simp [dInt, wholeD] at c ⊢
    have q := q H (Same.refl H)
    rw [e] at q
    exact q

theorem ok_looks_again (T : Txt K mg) (G_is_whole : FnOk P w K mg base CX0 1 f_is_whole fd_is_whole ["value"] (spD wholeD)) (O_is_whole : Own K mg "is_whole" s_is_whole f_is_whole fd_is_whole ["value"]) (O_looks_again : Own K mg "_looks_again" s_looks_again f_looks_again fd_looks_again ["part"]) : FnOk P w K mg base CX0 2 f_looks_again fd_looks_again ["part"] (spD againD) := by
  refine O_looks_again.F.ok sc_looks_again spD_len (fun cdv A outer s H vs Q E hr h => ?_)
  obtain ⟨x, d, rfl, hd, hok, hdp, hwd, q⟩ := h
  obtain ⟨tmt, c_MOST_TIMES⟩ := T.c_MOST_TIMES
  refine ⟨_, (pss_cons (ps_if (PW.pt (pw_or (pt_not (pt_val (pe_callB (k_isi (K := K) rfl) (by rfl) T.n_isinstance (by decide +kernel) (pa_cons (pv 0) (pa_cons (pe_bltn (v := .ty "tuple") (by rfl) T.n_tuple (by decide +kernel) rfl) pa_nil))))) (pw_or1 (pt_cmpR op_ne (pe_callB (k_len_seq (K := K) rfl) (by rfl) T.n_len (by decide +kernel) (pa_cons (pv 0) pa_nil)) pe_int (nomark _)))))
    (pss_one (ps_ret pe_bl))
    pss_nil)
    (pss_cons (ps_asg (pv 0) (pg_tup rfl (pgs_cons (pg_name (i := 1) sc_looks_again.nd rfl (Or.inl rfl)) (pgs_cons (pg_name (i := 2) sc_looks_again.nd rfl (Or.inl rfl)) pgs_nil))))
    (pss_cons (ps_if (PW.pt (pw_or (pt_not (pt_val (pe_callB (k_isiT (K := K) rfl) (by rfl) T.n_isinstance (by decide +kernel) (pa_cons (pv 1) (pa_cons (pe_tup (pa_cons (pe_bltn (v := .ty "list") (by rfl) T.n_list (by decide +kernel) rfl) (pa_cons (pe_bltn (v := .ty "tuple") (by rfl) T.n_tuple (by decide +kernel) rfl) pa_nil))) pa_nil))))) (pw_or1 (pt_cmpR op_eq (pe_callB (k_len_seq (K := K) rfl) (by rfl) T.n_len (by decide +kernel) (pa_cons (pv 1) pa_nil)) pe_int (nomark _)))))
    (pss_one (ps_ret pe_bl))
    pss_nil)
    (pss_one (ps_ret (pe_and (pe_call G_is_whole (hr.mono (by omega)) rfl O_is_whole.m O_is_whole.F.kp O_is_whole.b .nil pass0 (pa_cons (pv 2) pa_nil)) (pe_one (pe_chain op_le op_le pe_int (pv 2) (pe_glob (v := .int 1000000000000000000000000000000) rfl c_MOST_TIMES ⟨_, rfl⟩))))))))), ?_⟩
  have no : dTup d = false → againD d = false := fun e => by cases d <;> first | rfl | cases e
  refine ⟨_, rfl, _, _, _, _, _, rfl, .ty _, ty_of hd, kI_tuple, _, rfl, ?_⟩
  refine ite2 (fun c => ?_) (fun c => ?_)
  · have q := q H (Same.refl H)
    rw [no (by simpa using c)] at q
    exact iteT q
  have ct : dTup d = true := by simpa using c
  cases hd with
  | @tup a xs ds ha hs =>
    refine ⟨_, rfl, _, _, rfl, .inr (SqT.of ha), rfl, _, rfl, ?_⟩
    refine ite2 (fun c2 => ?_) (fun c2 => ?_)
    · have q := q H (Same.refl H)
      have e : againD (.tuple ds) = false := by
        unfold againD
        split
        · rename_i r t e
          injection e with e
          rw [e] at hs
          have l := hs.length
          simp [l] at c2
        · rfl
      rw [e] at q
      exact q
    have l2 : xs.length = 2 := by
      simp only [Bool.not_eq_true', decide_eq_false_iff_not, Decidable.not_not, V.int.injEq] at c2
      omega
    match xs, ds, hs, l2 with
    | [v1, v2], [d1, d2], .cons h1 (.cons h2 .nil), _ =>
      refine ⟨_, rfl, a, _, rfl, SqT.of ha, rfl, _, _, rfl, _, _, rfl, rfl, ?_⟩
      have hok2 : okD d1 = true ∧ okD d2 = true := by simpa [okD, oksD] using hok
      have hdp2 : d2.depth ≤ 60 := by simp only [PyData.depth, PyData.depthAll] at hdp; omega
      refine ⟨_, rfl, by decide, fun p hp => ?_⟩
      have s1 : Same H (upd H p (.tup [.ty "list", .ty "tuple"])) := fun b o e => by rw [upd_ne (ne_of_none e hp)]; exact e
      refine ⟨_, _, _, _, _, _, rfl, upd_same, cl_seq, ty_of (h1.mono s1), kit_seq, _, rfl, ?_⟩
      refine ite2 (fun c3 => ?_) (fun c3 => ?_)
      · have e : againD (.tuple [d1, d2]) = false := by
          have z : dSeq d1 = false := by simpa using c3
          cases d2 <;> first | rfl | simp [againD, z]
        have q := q _ s1
        rw [e] at q
        exact iteT q
      have k1 : dSeq d1 = true := by simpa using c3
      obtain ⟨a1, xs1, rfl, hx, hs1⟩ := h1.seq k1
      refine ⟨_, rfl, _, _, rfl, (hx.mono s1).lt, rfl, _, rfl, ?_⟩
      refine ite2 (fun c4 => ?_) (fun c4 => ?_)
      · have z : xs1 = [] := by
          simp only [decide_eq_true_eq, V.int.injEq] at c4
          exact List.length_eq_zero_iff.mp (by omega)
        have e : againD (.tuple [d1, d2]) = false := by
          have z3 : elemsD d1 = [] := List.length_eq_zero_iff.mp (by rw [← hs1.length, z]; rfl)
          have z2 : dNil d1 = true := by rw [dNil_elems k1, z3]; rfl
          cases d2 <;> first | rfl | simp [againD, z2]
        have q := q _ s1
        rw [e] at q
        exact q
      have k2 : dNil d1 = false := by
        rw [dNil_elems k1]
        cases e : elemsD d1 with
        | nil =>
          have l := hs1.length
          rw [e] at l
          simp [l] at c4
        | cons _ _ => rfl
      refine ⟨_, rfl, v2, d2, rfl, h2.mono s1, hok2.2, hdp2, by simp only [wD, wDs] at hwd; omega, fun H2 s2 => ⟨_, rfl, ?_⟩⟩
      have q := q H2 (s1.trans s2)
      refine ite2 (fun c5 => ?_) (fun c5 => ?_)
      · cases h2 with
        | int t =>
          refine ⟨_, rfl, _, _, rfl, rfl, _, rfl, ?_⟩
          refine ite2 (fun c6 => ?_) (fun c6 => ?_)
          · refine ⟨_, _, rfl, rfl, ?_⟩
            have e : againD (.tuple [d1, .int t]) = decide (t ≤ 1000000000000000000000000000000) := by
              have c6 : (1 : Int) ≤ t := by simpa using c6
              simp [againD, k1, k2, timesOk, c6]
            rw [e] at q
            exact q
          · have e : againD (.tuple [d1, .int t]) = false := by
              have c6 : ¬ (1 : Int) ≤ t := by simpa using c6
              simp [againD, k1, k2, timesOk, c6]
            rw [e] at q
            exact q
        | _ => cases c5
      · have e : againD (.tuple [d1, d2]) = false := by
          cases d2 <;> first | rfl | simp [wholeD] at c5
        rw [e] at q
        exact q
  | _ => cases ct
end
end K00

set_option Elab.async false
set_option linter.all false
set_option maxRecDepth 100000
set_option maxHeartbeats 4000000
namespace MC
open PySem PySem.Spec L2
theorem same_new {H : Hp} {p : Addr} (h : H p = none) (o : HO) : Same H (upd H p o) := fun b u e => by rw [upd_ne (ne_of_none e h)]; exact e
theorem same_mut {H H' : Hp} {p : Addr} (e : Same H H') (h : H p = none) (o : HO) : Same H (upd H' p o) := fun b u q => by rw [upd_ne (ne_of_none q h)]; exact e b u q
theorem take_more {α : Type} {l : List α} {i : Nat} {x : α} (h : l[i]? = some x) : l.take (i + 1) = l.take i ++ [x] := by
  rw [List.take_succ, h]; rfl
theorem lt1 (a b : Nat) : decide ([a] < [b]) = decide (a < b) := by
  have : ([a] < [b]) ↔ a < b := by
    constructor
    · intro h
      cases h with
      | rel h => exact h
      | cons h => cases h
    · intro h; exact .rel h
  simp [this]
end MC
namespace K00
open PySem PySem.Spec L2 MC
open PyProof.Rows hiding St
def spSm : Sp := fun vs H Q _ => ∃ z : Str, vs = [.str z] ∧ z.length ≤ 5592405 ∧ Q (.bl (z.cps.toList.all isSign)) H
/-- a dict of texts: each of them a thing -/
def spTh : Sp := fun vs H Q _ => ∃ (D : Addr) (zs : List Str), vs = [.ref D] ∧ H D = some (.dK (setK zs)) ∧ zs.length ≤ 2000 ∧ (∀ z ∈ zs, z.length ≤ 9) ∧ ∀ H', Same H H' → Q (.bl (zs.all isThingS)) H'
def midZ (z : Str) : Bool := decide (1 ≤ z.length) && decide (z.length ≤ 8)
theorem mid_all (zs : List Str) : zs.all isThingS = (decide ((zs.filter midZ).length = zs.length) && (zs.filter midZ).all fun z => z.cps.toList.all isSign) := by
  induction zs with
  | nil => rfl
  | cons z zs ih =>
    have e : isThingS z = (midZ z && z.cps.toList.all isSign) := by unfold isThingS midZ; rfl
    have h := List.length_filter_le midZ zs
    rw [List.all_cons, ih, e, List.filter_cons]
    cases midZ z with
    | true =>
      simp only [if_true, List.length_cons, List.all_cons, Bool.true_and, Nat.add_right_cancel_iff]
      cases z.cps.toList.all isSign <;> simp
    | false =>
      simp only [Bool.false_and, Bool.false_eq_true, if_false, List.length_cons]
      rw [decide_eq_false (by omega), Bool.false_and]
section
variable {P : Program} {w : World} {K : PySem.W.Frag} {mg : Str → Option Value} {base : Heap}
variable {f_is_whole f_is_thing f_is_row f_looks_again f_are_small f_are_things : Addr} {fd_is_whole fd_is_thing fd_is_row fd_looks_again fd_are_small fd_are_things : FuncData}
theorem ok_are_small (T : Txt K mg) (O_are_small : Own K mg "are_small" s_are_small f_are_small fd_are_small ["signs"]) : FnOk P w K mg base CX0 1 f_are_small fd_are_small ["signs"] spSm := by
  refine O_are_small.F.ok sc_are_small (fun vs H Q E h => by obtain ⟨z, rfl, _⟩ := h; rfl) (fun cdv A outer s H vs Q E hr h => ?_)
  obtain ⟨z, rfl, hz, q⟩ := h
  refine ⟨_, (pss_one (ps_ret (pe_or (pe_cmpR op_eq (pv 0) pe_str (nomark _)) (pe_one (pe_and (pe_m0 PySem.F.slot_str_isascii PySem.F.type_str_isascii mt_isascii (pv 0)) (pe_and (pe_m0 PySem.F.slot_str_isalpha PySem.F.type_str_isalpha mt_isalpha (pv 0)) (pe_one (pe_cmpR op_eq (pv 0) (pe_lower (pv 0)) (nomark _))))))))), ?_⟩
  rw [← small_look] at q
  have e0 : decide (V.str z = V.str (Str.ofString "")) = decide (z = Str.empty) := by
    have : Str.ofString "" = Str.empty := by decide +kernel
    rw [this]
    simp
  refine ⟨_, rfl, rfl, _, rfl, ?_⟩
  rw [e0]
  refine ite2 (fun c => ?_) (fun c => ?_)
  · rw [c, Bool.true_or] at q
    exact q
  have c : decide (z = Str.empty) = false := by simpa using c
  rw [c, Bool.false_or] at q
  refine ⟨_, rfl, ⟨_, rfl⟩, z, rfl, rfl, trivial, _, rfl, ?_⟩
  refine ite2 (fun c1 => ?_) (fun c1 => ?_)
  · rw [c1, Bool.true_and] at q
    refine ⟨_, rfl, ⟨_, rfl⟩, z, rfl, rfl, trivial, _, rfl, ?_⟩
    refine ite2 (fun c2 => ?_) (fun c2 => ?_)
    · rw [c2, Bool.true_and] at q
      have e1 : decide (V.str z = V.str (Txt.lower z)) = decide (z = Txt.lower z) := by simp
      refine ⟨_, rfl, _, rfl, ⟨_, rfl⟩, z, rfl, rfl, hz, rfl, ?_⟩
      rw [e1]
      exact q
    · have c2 : Txt.isalpha z = false := by simpa using c2
      rw [c2, Bool.false_and] at q
      exact q
  · have c1 : Txt.isascii z = false := by simpa using c1
    rw [c1, Bool.false_and] at q
    exact q
theorem ok_are_things (T : Txt K mg) (G_are_small : FnOk P w K mg base CX0 1 f_are_small fd_are_small ["signs"] spSm) (O_are_small : Own K mg "are_small" s_are_small f_are_small fd_are_small ["signs"]) (O_are_things : Own K mg "are_things" s_are_things f_are_things fd_are_things ["values"]) : FnOk P w K mg base CX0 2 f_are_things fd_are_things ["values"] spTh := by
  refine O_are_things.F.ok sc_are_things (fun vs H Q E h => by obtain ⟨D, zs, rfl, _⟩ := h; rfl) (fun cdv A outer s H vs Q E hr h => ?_)
  obtain ⟨D, zs, rfl, hD, hn, hz, q⟩ := h
  obtain ⟨tmt, c_LONGEST_THING⟩ := T.c_LONGEST_THING
  refine ⟨_, (pss_cons (ps_lock (ps_setLc (i := 1) (own := [("text", 2)]) rfl sc_are_things.nd rfl rfl (sw_true rfl rfl rfl (by decide +kernel)) (pi_keys (pv 0)) (blkOk_by (own := [("text", 2)]) (N := ["values", "texts", "text"]) (sc := defScope s_are_things) (by decide +kernel)) (fun _ _ _ _ _ => (pg_name (i := 2) sc_are_things.nd rfl (Or.inl rfl))) (fun _ _ _ _ _ => pts_one (PW.pt (pw_and (pt_val (pe_callB (k_isi (K := K) rfl) (by rfl) T.n_isinstance (by decide +kernel) (pa_cons (pv 2) (pa_cons (pe_bltn (v := .ty "str") (by rfl) T.n_str (by decide +kernel) rfl) pa_nil)))) (pw_and1 (pt_chain op_le op_le pe_int (pe_callB (k_len_str (K := K) rfl) (by rfl) T.n_len (by decide +kernel) (pa_cons (pv 2) pa_nil)) (pe_glob (v := .int 8) rfl c_LONGEST_THING ⟨_, rfl⟩)))))) (fun _ _ _ _ _ => (pv 2))))
    (pss_one (ps_ret (pe_and (pe_cmpR op_eq (pe_callB (k_len_seq (K := K) rfl) (by rfl) T.n_len (by decide +kernel) (pa_cons (pv 1) pa_nil)) (pe_callB call_lenD (by rfl) T.n_len (by decide +kernel) (pa_cons (pv 0) pa_nil)) (nomark _)) (pe_one (pe_call G_are_small (hr.mono (by omega)) rfl O_are_small.m O_are_small.F.kp O_are_small.b .nil pass0 (pa_cons (pe_join pe_str (pv 1)) pa_nil))))))), ?_⟩
  refine ⟨D, _, hD, trivial, fun od => ?_⟩
  refine ⟨_, rfl, D, od, rfl, .inl ⟨_, upd_same, fun L hL => lc_it (walk_keys (o := od)) (fun i H' => H' D = some (.frz od (.dK (setK zs))) ∧ (∀ b o, b ≠ D → H b = some o → H' b = some o) ∧ H' L = some (.lst (((zs.take i).filter midZ).map V.str))) ?_ (fun i H' _ p => p.1) ?_ ?_⟩⟩
  · have LD : L ≠ D := fun z => by rw [z, upd_same] at hL; cases hL
    refine ⟨by rw [upd_ne LD.symm, upd_same], fun b o hb e => ?_, by rw [upd_same]; rfl⟩
    rw [upd_ne (ne_of_none (by rw [upd_ne hb]; exact e) hL), upd_ne hb]
    exact e
  · rintro i x _ H1 hi ⟨h1, h2, h3⟩ ⟨rfl, k, v, hk, rfl⟩
    have hkz : ∃ z, zs[i]? = some z ∧ k = Sum.inr z := by
      unfold setK at hk
      rw [List.getElem?_map] at hk
      cases e : zs[i]? with
      | none => rw [e] at hk; cases hk
      | some z => rw [e] at hk; cases hk; exact ⟨z, rfl, rfl⟩
    obtain ⟨z, ez, rfl⟩ := hkz
    have hz9 := hz z (List.mem_of_getElem? ez)
    have hz2 : z.length ≤ sizeLine := Nat.le_trans hz9 (by decide)
    have LD : L ≠ D := fun z => by rw [z, h1] at h3; cases h3
    have tk : zs.take (i + 1) = zs.take i ++ [z] := take_more ez
    have len : ((zs.take i).filter midZ).length ≤ 2000 := by
      have h1 := List.length_filter_le midZ (zs.take i)
      rw [List.length_take] at h1
      omega
    have yes : midZ z = true → ∃ acc, H1 L = some (HO.lst acc) ∧ acc.length < sizeLine ∧ upd H1 L (HO.lst (acc ++ [V.str z])) D = some (HO.frz od (HO.dK (setK zs))) ∧
        (∀ (b : Addr) (o : HO), b ≠ D → H b = some o → upd H1 L (HO.lst (acc ++ [V.str z])) b = some o) ∧ upd H1 L (HO.lst (acc ++ [V.str z])) L = some (HO.lst (List.map V.str (List.filter midZ (List.take (i + 1) zs)))) := fun m => by
      refine ⟨_, h3, by rw [List.length_map]; exact Nat.lt_of_le_of_lt len (by decide), by rw [upd_ne LD.symm]; exact h1, fun b o hb e => ?_, ?_⟩
      · have LH : b ≠ L := fun q => by rw [q] at e hb; rw [upd_ne hb, e] at hL; cases hL
        rw [upd_ne LH]; exact h2 b o hb e
      · rw [upd_same, tk, List.filter_append, List.map_append]
        simp [m]
    have no : midZ z = false → H1 D = some (HO.frz od (HO.dK (setK zs))) ∧ (∀ (b : Addr) (o : HO), b ≠ D → H b = some o → H1 b = some o) ∧ H1 L = some (HO.lst (List.map V.str (List.filter midZ (List.take (i + 1) zs)))) := fun m => by
      refine ⟨h1, h2, ?_⟩
      rw [tk, List.filter_append]
      simpa [m] using h3
    refine ⟨rfl, _, rfl, _, _, _, _, _, rfl, .ty _, .base (.str z), kit_ty (by decide +kernel), _, rfl, iteT ?_⟩
    refine ⟨_, rfl, z, rfl, hz2, _, _, rfl, rfl, _, rfl, ?_⟩
    refine ite2 (fun c1 => ?_) (fun c1 => ?_)
    · refine ⟨_, _, rfl, rfl, _, rfl, ?_⟩
      refine ite2 (fun c2 => ?_) (fun c2 => ?_)
      · exact ⟨_, rfl, yes (by unfold midZ; simp at c1 c2 ⊢; omega)⟩
      · exact no (by unfold midZ; simp at c1 c2 ⊢; omega)
    · exact ⟨_, rfl, iteF (no (by unfold midZ; simp at c1 ⊢; omega))⟩
  · rintro H1 ⟨h1, h2, h3⟩
    have full : zs.take (setK zs).length = zs := List.take_of_length_le (by simp [setK])
    rw [full] at h3
    have LD : L ≠ D := fun z => by rw [z, h1] at h3; cases h3
    have sm : Same H (upd H1 D (.dK (setK zs))) := fun b o e => by
      by_cases hb : b = D
      · subst hb; rw [upd_same]; rw [hD] at e; exact e
      · rw [upd_ne hb]; exact h2 b o hb e
    have hL2 : upd H1 D (.dK (setK zs)) L = some (.lst ((zs.filter midZ).map V.str)) := by rw [upd_ne LD]; exact h3
    refine ⟨h1, ?_⟩
    have q := q _ sm
    rw [mid_all] at q
    have ll : ((zs.filter midZ).map V.str).length = (zs.filter midZ).length := by simp
    have lk : (setK zs).length = zs.length := by simp [setK]
    have e1 : decide (V.int ((zs.filter midZ).map V.str).length = V.int (setK zs).length) = decide ((zs.filter midZ).length = zs.length) := by
      rw [ll, lk, Bool.eq_iff_iff, decide_eq_true_eq, decide_eq_true_eq, V.int.injEq, Int.natCast_inj]
    refine ⟨_, rfl, L, _, rfl, .inl (SqL.of hL2), _, rfl, D, _, rfl, upd_same, rfl, _, rfl, ?_⟩
    rw [e1]
    refine ite2 (fun c => ?_) (fun c => ?_)
    · rw [c, Bool.true_and] at q
      have sum8 : ∀ l : List Str, (∀ z ∈ l, z.length ≤ 9) → (l.map (·.length)).sum ≤ 9 * l.length := by
        intro l
        induction l with
        | nil => intro _; simp
        | cons z l ih =>
          intro h
          have h1 := h z (by simp)
          have h2 := ih fun y hy => h y (by simp [hy])
          simp only [List.map_cons, List.sum_cons, List.length_cons]
          omega
      have s9 := sum8 (zs.filter midZ) fun z hz' => hz z (List.mem_filter.mp hz').1
      have lf := List.length_filter_le midZ zs
      refine ⟨⟨_, rfl⟩, _, rfl, Str.ofString "", L, zs.filter midZ, rfl, rfl, .inl (SqL.of hL2), ?_, ?_⟩
      · have : (Str.ofString "").length = 0 := by decide +kernel
        rw [this]; omega
      · have ee : Str.ofString "" = Str.empty := by decide +kernel
        rw [TL.join_eq, ee]
        refine ⟨_, rfl, ?_, ?_⟩
        · rw [joined_len]; omega
        · rw [joined_all]
          exact q
    · have c : decide ((zs.filter midZ).length = zs.length) = false := by simpa using c
      rw [c, Bool.false_and] at q
      exact q
theorem ok_is_thing (T : Txt K mg) (G_are_small : FnOk P w K mg base CX0 1 f_are_small fd_are_small ["signs"] spSm) (O_are_small : Own K mg "are_small" s_are_small f_are_small fd_are_small ["signs"]) (O_is_thing : Own K mg "is_thing" s_is_thing f_is_thing fd_is_thing ["thing"]) : FnOk P w K mg base CX0 2 f_is_thing fd_is_thing ["thing"] (spD thingD) := by
  refine O_is_thing.F.ok sc_is_thing spD_len (fun cdv A outer s H vs Q E hr h => ?_)
  obtain ⟨x, d, rfl, hd, hok, hdp, hwd, q⟩ := h
  obtain ⟨tmt, c_LONGEST_THING⟩ := T.c_LONGEST_THING
  refine ⟨_, (pss_one (ps_ret (pe_and (pe_callB (k_isi (K := K) rfl) (by rfl) T.n_isinstance (by decide +kernel) (pa_cons (pv 0) (pa_cons (pe_bltn (v := .ty "str") (by rfl) T.n_str (by decide +kernel) rfl) pa_nil))) (pe_and (pe_chain op_le op_le pe_int (pe_callB (k_len_str (K := K) rfl) (by rfl) T.n_len (by decide +kernel) (pa_cons (pv 0) pa_nil)) (pe_glob (v := .int 8) rfl c_LONGEST_THING ⟨_, rfl⟩)) (pe_one (pe_call G_are_small (hr.mono (by omega)) rfl O_are_small.m O_are_small.F.kp O_are_small.b .nil pass0 (pa_cons (pv 0) pa_nil))))))), ?_⟩
  refine ⟨_, rfl, _, _, _, _, _, rfl, .ty _, ty_of hd, kI_str, _, rfl, ?_⟩
  have q := q H (Same.refl H)
  refine ite2 (fun c => ?_) (fun c => ?_)
  · cases hd with
    | str z =>
      have hz : z.length ≤ 9 := by simp only [okD, Bool.and_eq_true, decide_eq_true_eq] at hok; exact hok.1
      have hz2 : z.length ≤ sizeLine := Nat.le_trans hz (by decide)
      refine ⟨_, rfl, z, rfl, hz2, _, _, rfl, rfl, _, rfl, ?_⟩
      have e2 : thingD (.str z) = (decide (1 ≤ z.length) && decide (z.length ≤ 8) && z.cps.toList.all isSign) := rfl
      rw [e2] at q
      refine ite2 (fun c1 => ?_) (fun c1 => ?_)
      · refine ⟨_, _, rfl, rfl, _, rfl, ?_⟩
        refine ite2 (fun c2 => ?_) (fun c2 => ?_)
        · have h1 : 1 ≤ z.length := by simp at c1; omega
          have h2 : z.length ≤ 8 := by simp at c2; omega
          rw [decide_eq_true h1, decide_eq_true h2, Bool.true_and, Bool.true_and] at q
          exact ⟨_, rfl, z, rfl, by omega, q⟩
        · have h2 : ¬ z.length ≤ 8 := by simp at c2; omega
          rw [decide_eq_false h2, Bool.and_false, Bool.false_and] at q
          exact q
      · have h1 : ¬ 1 ≤ z.length := by simp at c1; omega
        rw [decide_eq_false h1, Bool.false_and, Bool.false_and] at q
        exact ⟨_, rfl, iteF q⟩
    | _ => cases c
  · have e : thingD d = false := by cases d <;> first | rfl | simp [dStr] at c
    rw [e] at q
    exact q
end
end K00

set_option Elab.async false
set_option linter.all false
set_option maxRecDepth 100000
set_option maxHeartbeats 4000000
namespace K00
open PySem PySem.Spec L2 MC
open PyProof.Rows hiding St
/-- what waits: a tuple of a row (over H0) and how deep it lies -/
def Ent (H0 H : Hp) (v : V) (d : PyData) : Prop := ∃ t x k, v = .ref t ∧ H t = some (.tup [x, .int k]) ∧ DD H0 x d ∧ dSeq d = true ∧ okD d = true ∧ 0 ≤ k ∧ d.depth + k.toNat ≤ 60
theorem Ent.mono {H0 H H' : Hp} {v : V} {d : PyData} (h : Ent H0 H v d) (e : ∀ t xs, H t = some (.tup xs) → H' t = some (.tup xs)) : Ent H0 H' v d := by
  obtain ⟨t, x, k, h1, h2, r⟩ := h
  exact ⟨t, x, k, h1, e _ _ h2, r⟩
def wsum (es : List (V × PyData)) : Nat := wDs (es.map (·.2))
theorem wsum_append (a b : List (V × PyData)) : wsum (a ++ b) = wsum a + wsum b := by unfold wsum; rw [List.map_append, wDs_append]
theorem keep_upd {H : Hp} {w : Addr} {xs : List V} (h : H w = some (.lst xs)) (ys : List V) : ∀ t zs, H t = some (.tup zs) → upd H w (.lst ys) t = some (.tup zs) := fun t zs e => by
  rw [upd_ne (ne_of e h (fun z => nomatch z))]; exact e
def nStr (d : PyData) : Bool := !dStr d
theorem wDs_filter (p : PyData → Bool) (l : List PyData) : wDs (l.filter p) ≤ wDs l := by
  induction l with
  | nil => exact Nat.le_refl _
  | cons d l ih =>
    rw [List.filter_cons]
    split <;> simp only [wDs] <;> omega
theorem parts_split {es : List PyData} {zs : List Str} (hm : ∀ z, z ∈ zs ↔ PyData.str z ∈ es) : partsD es = (partsD (es.filter nStr) && zs.all isThingS) := by
  rw [partsD_eq, partsD_eq, Bool.eq_iff_iff, Bool.and_eq_true, List.all_eq_true, List.all_eq_true, List.all_eq_true]
  constructor
  · intro h
    exact ⟨fun d hd => h d (List.mem_filter.mp hd).1, fun z hz => h (.str z) ((hm z).mp hz)⟩
  · rintro ⟨h1, h2⟩ d hd
    by_cases s : dStr d = true
    · cases d with
      | str z => exact h2 z ((hm z).mpr hd)
      | _ => cases s
    · exact h1 d (List.mem_filter.mpr ⟨hd, by simpa [nStr] using s⟩)
theorem part_nstr {d : PyData} (s : dStr d = false) (h : againD d = false) : partD d = false := by
  rw [partD_eq, h]
  cases d <;> first | rfl | cases s
theorem last_split {α : Type} {l : List α} (h : l ≠ []) : ∃ a b, l = a ++ [b] := ⟨_, _, (List.dropLast_concat_getLast h).symm⟩
section
variable {P : Program} {w : World} {K : PySem.W.Frag} {mg : Str → Option Value} {base : Heap}
variable {f_is_whole f_is_thing f_is_row f_looks_again f_are_small f_are_things : Addr} {fd_is_whole fd_is_thing fd_is_row fd_looks_again fd_are_small fd_are_things : FuncData}
theorem ok_is_row (T : Txt K mg) (G_are_things : FnOk P w K mg base CX0 2 f_are_things fd_are_things ["values"] spTh) (G_looks_again : FnOk P w K mg base CX0 2 f_looks_again fd_looks_again ["part"] (spD againD))
    (O_are_things : Own K mg "are_things" s_are_things f_are_things fd_are_things ["values"]) (O_looks_again : Own K mg "_looks_again" s_looks_again f_looks_again fd_looks_again ["part"]) (O_is_row : Own K mg "is_row" s_is_row f_is_row fd_is_row ["thing"]) : FnOk P w K mg base CX0 3 f_is_row fd_is_row ["thing"] (spD rowD) := by
  refine O_is_row.F.ok sc_is_row spD_len (fun cdv A outer s H vs Q E hr h => ?_)
  obtain ⟨x, d, rfl, hd, hok, hdp, hwd, q⟩ := h
  obtain ⟨tmt, c_DEEPEST_ROW⟩ := T.c_DEEPEST_ROW
  refine ⟨_, (pss_cons (ps_if (pt_not (pt_val (pe_callB (k_isiT (K := K) rfl) (by rfl) T.n_isinstance (by decide +kernel) (pa_cons (pv 0) (pa_cons (pe_tup (pa_cons (pe_bltn (v := .ty "list") (by rfl) T.n_list (by decide +kernel) rfl) (pa_cons (pe_bltn (v := .ty "tuple") (by rfl) T.n_tuple (by decide +kernel) rfl) pa_nil))) pa_nil)))))
    (pss_one (ps_ret pe_bl))
    pss_nil)
    (pss_cons (ps_set (i := 1) sc_is_row.nd rfl (Or.inl rfl) (pe_lst (pa_cons (pe_tup (pa_cons (pv 0) (pa_cons pe_int pa_nil))) pa_nil)))
    (pss_cons (ps_while PassesOwn.never (pt_truth (pv 1) (by intro _; rfl))
    (pss_cons (ps_asg (k_bm0 (K := K) rfl (pe_bm0 PySem.F.plainAttrs_list PySem.F.slot_list_pop PySem.F.type_list_pop mt_pop (pv 1))) (pg_tup rfl (pgs_cons (pg_name (i := 2) sc_is_row.nd rfl (Or.inl rfl)) (pgs_cons (pg_name (i := 3) sc_is_row.nd rfl (Or.inl rfl)) pgs_nil))))
    (pss_cons (ps_if (pt_cmpR op_gt (pv 3) (pe_glob (v := .int 2000000) rfl c_DEEPEST_ROW ⟨_, rfl⟩) (nomark _))
    (pss_one (ps_ret pe_bl))
    pss_nil)
    (pss_cons (ps_setLc (i := 4) (own := [("part", 5)]) rfl sc_is_row.nd rfl rfl (sw_true rfl rfl rfl (by decide +kernel)) (k_seq (K := K) rfl (pv 2)) (blkOk_by (own := [("part", 5)]) (N := ["thing", "waiting", "row", "deep", "agains", "part"]) (sc := defScope s_is_row) (by decide +kernel)) (fun _ _ _ _ _ => (pg_name (i := 5) sc_is_row.nd rfl (Or.inl rfl))) (fun _ _ _ _ _ => pts_one (pt_not (pt_val (pe_callB (k_isi (K := K) rfl) (by rfl) T.n_isinstance (by decide +kernel) (pa_cons (pv 5) (pa_cons (pe_bltn (v := .ty "str") (by rfl) T.n_str (by decide +kernel) rfl) pa_nil)))))) (fun _ _ _ _ _ => (pv 5)))
    (pss_cons (ps_for PassesOwn.never rfl (k_list (K := K) rfl (pv 4)) (pg_name (i := 5) sc_is_row.nd rfl (Or.inl rfl))
    (pss_cons (ps_if (pt_not (pt_val (pe_call G_looks_again (hr.mono (by omega)) rfl O_looks_again.m O_looks_again.F.kp O_looks_again.b .nil pass0 (pa_cons (pv 5) pa_nil))))
    (pss_one (ps_ret pe_bl))
    pss_nil)
    (pss_one (ps_expr (k_bm (K := K) rfl (pe_bm PySem.F.plainAttrs_list PySem.F.slot_list_append PySem.F.type_list_append mt_append (pv 1) (pa_cons (pe_tup (pa_cons (pe_ix (k_ix_tup (K := K) rfl) (pv 5) pe_int (fun _ _ => rfl)) (pa_cons (pe_op op_add (pv 3) pe_int) pa_nil))) pa_nil)))))))
    (pss_one (ps_if (PW.pt (pw_and (pt_cmpR op_lt (pe_callB (k_len_seq (K := K) rfl) (by rfl) T.n_len (by decide +kernel) (pa_cons (pv 4) pa_nil)) (pe_callB (k_len_seq (K := K) rfl) (by rfl) T.n_len (by decide +kernel) (pa_cons (pv 2) pa_nil)) (nomark _)) (pw_and1 (pt_not (pt_val (pe_call G_are_things (hr.mono (by omega)) rfl O_are_things.m O_are_things.F.kp O_are_things.b .nil pass0 (pa_cons (pe_dc (own := [("part", 5)]) rfl sc_is_row.nd (k_seq (K := K) rfl (pv 2)) (blkOk_by (own := [("part", 5)]) (N := ["thing", "waiting", "row", "deep", "agains", "part"]) (sc := defScope s_is_row) (by decide +kernel)) (fun _ _ _ _ _ => (pg_name (i := 5) sc_is_row.nd rfl (Or.inl rfl))) (fun _ _ _ _ _ => pts_one (pt_val (pe_callB (k_isi (K := K) rfl) (by rfl) T.n_isinstance (by decide +kernel) (pa_cons (pv 5) (pa_cons (pe_bltn (v := .ty "str") (by rfl) T.n_str (by decide +kernel) rfl) pa_nil))))) (fun _ _ _ _ _ => (pv 5)) (fun _ _ _ _ _ => pe_bl)) pa_nil)))))))
    (pss_one (ps_ret pe_bl))
    pss_nil)))))))
    (pss_one (ps_ret pe_bl))))), ?_⟩
  refine ⟨_, rfl, by decide, fun p hp => ?_⟩
  have s0 := same_new hp (.tup [.ty "list", .ty "tuple"])
  refine ⟨_, _, _, _, _, _, rfl, upd_same, cl_seq, ty_of (hd.mono s0), kit_seq, _, rfl, ?_⟩
  refine ite2 (fun c => ?_) (fun c => ?_)
  · have q := q _ s0
    rw [rowD_seq (by simpa using c)] at q
    exact q
  have k0 : dSeq d = true := by simpa using c
  -- waiting = [(thing, 0)]
  refine ⟨_, rfl, (by show 2 ≤ sizeLine; decide), fun t0 ht0 => ⟨(by show 1 ≤ sizeLine; decide), fun w0 hw0 => ?_⟩⟩
  have hw : H w0 = none := (s0.trans (same_new ht0 _)).free hw0
  have s1 : Same H (upd (upd (upd H p (.tup [.ty "list", .ty "tuple"])) t0 (.tup [x, .int 0])) w0 (.lst [.ref t0])) := (s0.trans (same_new ht0 _)).trans (same_new hw0 _)
  refine ⟨fun m σ H' => ∃ (es : List (V × PyData)) (a b c e : Option V), m = wsum es ∧ σ = [some x, some (.ref w0), a, b, c, e] ∧ Same H H' ∧ H' w0 = some (.lst (es.map (·.1))) ∧
      (∀ e ∈ es, Ent H H' e.1 e.2) ∧ rowD d = (es.all fun e => rowD e.2) ∧ wsum es ≤ wD d, ⟨_, [(.ref t0, d)], _, _, _, _, rfl, rfl, s1, upd_same, ?_, ?_, ?_⟩, ?_⟩
  · intro e he
    rw [List.mem_singleton.mp he]
    refine ⟨t0, x, 0, rfl, ?_, hd, k0, hok, Int.le_refl 0, by simpa using hdp⟩
    rw [upd_ne (ne_of_none upd_same hw0), upd_same]
  · simp
  · simp [wsum, wDs]
  rintro m σ H1 ⟨es, a, b, c, e, rfl, rfl, s2, hl, hes, hrow, hwe⟩
  refine ⟨_, rfl, _, .inl ⟨_, SqL.of hl, rfl⟩, ?_⟩
  refine ite2 (fun c1 => ?yes) (fun c1 => ?no)
  case no =>
    have z : es = [] := by
      cases es with
      | nil => rfl
      | cons _ _ => simp at c1
    subst z
    have q := q H1 s2
    rw [hrow] at q
    exact q
  have ne : es ≠ [] := by rintro rfl; simp at c1
  obtain ⟨es1, ⟨v, r⟩, rfl⟩ := last_split ne
  obtain ⟨t, y, k, rfl, ht, hy, ky, oky, k0', dky⟩ : Ent H H1 v r := hes (v, r) (by simp)
  have hes1 : ∀ e ∈ es1, Ent H H1 e.1 e.2 := fun e he => hes e (by simp [he])
  obtain ⟨ar, xs, rfl, hx, hxs⟩ := hy.seq ky
  have ety : (List.map (·.1) (es1 ++ [(V.ref t, r)])) = es1.map (·.1) ++ [V.ref t] := by simp
  rw [ety] at hl
  refine ⟨fun σ' H' => ∃ m', m' < wsum (es1 ++ [(V.ref t, r)]) ∧ _, fun _ _ z => z, ?_⟩
  have nw : ∀ zs, Same H (upd H1 w0 (.lst zs)) := fun zs => same_mut s2 hw _
  have hl2 := keep_upd hl (es1.map (·.1) ++ [V.ref t]).dropLast
  refine ⟨_, rfl, .inl ⟨rfl, _, SqL.of hl⟩, w0, _, .ref t, rfl, rfl, hl, by simp, t, _, rfl, SqT.of (hl2 _ _ ht), rfl, _, _, rfl, _, _, rfl, rfl, ?_⟩
  refine ⟨_, rfl, _, _, rfl, rfl, _, rfl, ?_⟩
  refine ite2 (fun c2 => ?_) (fun c2 => ?_)
  · exfalso
    have : (2000000 : Int) < k := by simpa using c2
    omega
  have sP := nw (es1.map (·.1) ++ [V.ref t]).dropLast
  have hlP : upd H1 w0 (.lst (es1.map (·.1) ++ [V.ref t]).dropLast) w0 = some (.lst (es1.map (·.1))) := by rw [upd_same]; simp
  have heP : ∀ e ∈ es1, Ent H (upd H1 w0 (.lst (es1.map (·.1) ++ [V.ref t]).dropLast)) e.1 e.2 := fun e he => (hes1 e he).mono hl2
  generalize upd H1 w0 (.lst (es1.map (·.1) ++ [V.ref t]).dropLast) = HP at sP hlP heP ⊢
  have wr : wsum [(V.ref t, r)] = wD r := by simp [wsum, wDs]
  have we : wDs (elemsD r) ≤ wD r := wD_elems r
  have we2 : wDs (elemsD r) < wD r := by cases r <;> first | (simp only [elemsD, wD]; omega) | cases ky
  have w20 : wsum es1 + wDs (elemsD r) ≤ 2000 := by
    rw [wsum_append] at hwe
    omega
  have lenx : xs.length ≤ 2000 := by
    have h1 := hxs.length
    have h2 := len_wDs (elemsD r)
    omega
  have hps := okD_elems oky
  have full : (elemsD r).take xs.length = elemsD r := List.take_of_length_le (by rw [hxs.length]; exact Nat.le_refl _)
  -- agains = [part for part in row if not isinstance(part, str)]
  refine ⟨_, rfl, lc_seqD (K := K) (xs := xs) (hx.mono sP) (fun A i H' => Same HP H' ∧ ∃ acc, H' A = some (.lst acc) ∧ DDs H acc (((elemsD r).take i).filter nStr)) (fun A hA => ⟨same_new hA _, [], upd_same, .nil⟩) ?_ ?_ ?_⟩
  · rintro A i H' hA _ ⟨s3, _⟩
    rcases hx.mono sP with h | h
    · exact (s3 _ _ h).trans h.symm
    · exact (s3 _ _ h).trans h.symm
  · rintro A i xv H' hA e ⟨s3, acc, hA', hacc⟩
    obtain ⟨dv, hdv, hdd⟩ := hxs.get e
    have tk : (elemsD r).take (i + 1) = (elemsD r).take i ++ [dv] := take_more hdv
    refine ⟨rfl, _, rfl, _, _, _, _, _, rfl, .ty _, ty_of (hdd.mono (sP.trans s3)), kI_str, _, rfl, ?_⟩
    have al : acc.length < sizeLine := by
      rw [hacc.length]
      have h1 := List.length_filter_le nStr ((elemsD r).take i)
      rw [List.length_take, ← hxs.length] at h1
      exact Nat.lt_of_le_of_lt (show _ ≤ 2000 by omega) (by decide)
    refine ite2 (fun c3 => ?_) (fun c3 => ?_)
    · refine ⟨_, rfl, acc, hA', al, same_mut s3 hA _, _, upd_same, ?_⟩
      rw [tk, List.filter_append]
      have : nStr dv = true := c3
      simp only [List.filter_cons, this, if_true, List.filter_nil]
      exact hacc.append (.cons hdd .nil)
    · refine ⟨s3, acc, hA', ?_⟩
      rw [tk, List.filter_append]
      have : nStr dv = false := by simpa [nStr] using c3
      simp only [List.filter_cons, this, Bool.false_eq_true, if_false, List.filter_nil, List.append_nil]
      exact hacc
  rintro A H2 hA ⟨s3, ag, hA2, hag⟩
  rw [full] at hag
  have hAH : H A = none := sP.free hA
  have Aw : A ≠ w0 := fun z => by rw [z, hlP] at hA; cases hA
  have sH2 := sP.trans s3
  have lag : ag.length ≤ xs.length := by
    rw [hag.length, hxs.length]
    exact List.length_filter_le _ _
  -- for part in agains
  refine ⟨_, rfl, A, rfl, ⟨_, SqL.of hA2⟩, for_list (K := K) (a := A) (xs := ag) (fun i σ' H' => ∃ (ps : List (V × PyData)) (c : Option V), σ' = [some x, some (.ref w0), some (.ref ar), some (.int k), some (.ref A), c] ∧ Same H H' ∧ H' A = some (.lst ag) ∧
      H' w0 = some (.lst ((es1 ++ ps).map (·.1))) ∧ (∀ e ∈ es1 ++ ps, Ent H H' e.1 e.2) ∧ wsum ps ≤ wDs (((elemsD r).filter nStr).take i) ∧ partsD (((elemsD r).filter nStr).take i) = ps.all fun e => rowD e.2)
      ⟨[], _, rfl, sH2, hA2, by rw [List.append_nil]; exact s3 _ _ hlP, fun e he => (heP e (by simpa using he)).mono fun t zs z => s3 _ _ z, Nat.zero_le _, by simp [partsD]⟩ ?_ ?_ ?_⟩
  · rintro i σ' H' hi ⟨ps, c, rfl, s4, hA4, _⟩
    exact SqL.of hA4
  · rintro i xv σ' H2 hi ⟨ps, c, rfl, s4, hA4, hl4, he4, hw4, hp4⟩
    obtain ⟨dv, hdv, hdd⟩ := hag.get hi
    have mem := List.mem_of_getElem? hdv
    rw [List.mem_filter] at mem
    obtain ⟨memE, nst⟩ := mem
    have nst : dStr dv = false := by simpa [nStr] using nst
    obtain ⟨j, hj⟩ := List.getElem?_of_mem memE
    have okv := oksD_get hps hj
    have wv : wD dv ≤ 2000 := by
      have h1 := wD_le hj
      omega
    have dpv : dv.depth < r.depth := by rw [depth_elems ky]; exact Nat.lt_succ_of_le (depth_le hj)
    refine ⟨_, rfl, xv, dv, rfl, hdd.mono s4, okv, by omega, wv, fun H3 s5 => ⟨_, rfl, ?_⟩⟩
    have hl5 := s5 _ _ hl4
    have hA5 := s5 _ _ hA4
    have he5 : ∀ e ∈ es1 ++ ps, Ent H H3 e.1 e.2 := fun e he => (he4 e he).mono fun t zs z => s5 _ _ z
    have tk : ((elemsD r).filter nStr).take (i + 1) = ((elemsD r).filter nStr).take i ++ [dv] := take_more hdv
    refine ite2 (fun c3 => ?_) (fun c3 => ?_)
    · have q := q H3 (s4.trans s5)
      have z : rowD d = false := by
        rw [hrow, List.all_append]
        have : (elemsD r).all partD = false := by
          rw [List.all_eq_false]
          exact ⟨dv, memE, by rw [part_nstr nst (by simpa using c3)]; simp⟩
        simp [rowD_elems ky, partsD_eq, this]
      rw [z] at q
      exact q
    · -- its row waits
      have c3 : againD dv = true := by simpa using c3
      match dv, hdd, c3 with
      | .tuple [rr, .int tt], @DD.tup _ _ [v1, v2] _ ha2 (.cons h1 (.cons h2 .nil)), c3 =>
        have ha3 := (s4.trans s5) _ _ ha2
        have okr : okD rr = true := by simp only [okD, oksD, Bool.and_eq_true] at okv; exact okv.1
        have kr : dSeq rr = true := by simp only [againD, Bool.and_eq_true] at c3; exact c3.1.1
        have dpr : rr.depth < (PyData.tuple [rr, .int tt]).depth := by simp only [PyData.depth, PyData.depthAll]; omega
        refine ⟨_, rfl, .inl ⟨rfl, _, SqL.of hl5⟩, _, rfl, _, _, _, _, rfl, rfl, SqT.of ha3, atI_nat (j := 0) rfl, _, rfl, _, _, rfl, rfl, (by show 2 ≤ sizeLine; decide), fun t2 ht2 => ?_⟩
        have hw2 : upd H3 t2 (.tup [v1, .int (k + 1)]) w0 = some (.lst ((es1 ++ ps).map (·.1))) := by rw [upd_ne (ne_of_none hl5 ht2)]; exact hl5
        refine ⟨w0, _, _, rfl, rfl, hw2, ?_, ?_⟩
        · rw [List.length_map]
          have h1 : (es1 ++ ps).length ≤ wsum (es1 ++ ps) := by
            have := len_wDs ((es1 ++ ps).map (·.2))
            rw [List.length_map] at this
            exact this
          have h2 : wDs (((elemsD r).filter nStr).take i) ≤ wDs ((elemsD r).filter nStr) := by
            have e := wDs_append (((elemsD r).filter nStr).take i) (((elemsD r).filter nStr).drop i)
            rw [List.take_append_drop] at e
            omega
          have h3 := wDs_filter nStr (elemsD r)
          rw [wsum_append] at h1
          exact Nat.lt_of_le_of_lt (show _ ≤ 2000 by omega) (by decide)
        refine ⟨ps ++ [(.ref t2, rr)], _, rfl, ?_, ?_, ?_, ?_, ?_, ?_⟩
        · exact same_mut (s4.trans (s5.trans (same_new ht2 _))) hw _
        · rw [upd_ne Aw, upd_ne (ne_of_none hA5 ht2)]; exact hA5
        · rw [upd_same]; simp
        · intro e he
          have he : e ∈ es1 ++ ps ∨ e = (.ref t2, rr) := by simpa [or_assoc] using he
          rcases he with he | rfl
          · exact (he5 e he).mono fun t zs z => keep_upd hw2 _ _ _ (by rw [upd_ne (ne_of_none z ht2)]; exact z)
          · refine ⟨t2, _, k + 1, rfl, keep_upd hw2 _ _ _ upd_same, h1, kr, okr, by omega, (show rr.depth + (k + 1).toNat ≤ 60 by omega)⟩
        · rw [wsum_append, tk, wDs_append]
          have : wsum [(V.ref t2, rr)] ≤ wDs [PyData.tuple [rr, .int tt]] := by simp only [wsum, List.map, wDs, wD]; omega
          omega
        · rw [tk, partsD_eq, List.all_append, ← partsD_eq, hp4, List.all_append]
          have : partD (.tuple [rr, .int tt]) = rowD rr := by rw [partD_eq, if_pos c3]; rfl
          simp [this]
  · rintro σ' H4 ⟨ps, c, rfl, s4, hA4, hl4, he4, hw4, hp4⟩
    have fullF : ((elemsD r).filter nStr).take ag.length = (elemsD r).filter nStr := List.take_of_length_le (by rw [hag.length]; exact Nat.le_refl _)
    rw [fullF] at hw4 hp4
    have wf := wDs_filter nStr (elemsD r)
    -- the turn's end: right so far
    have fin : ∀ H', Same H H' → H' w0 = some (.lst ((es1 ++ ps).map (·.1))) → (∀ e ∈ es1 ++ ps, Ent H H' e.1 e.2) → partsD (elemsD r) = (ps.all fun e => rowD e.2) → ∃ m', m' < wsum (es1 ++ [(V.ref t, r)]) ∧
        ∃ (es : List (V × PyData)) (a' b' c' e' : Option V), m' = wsum es ∧ [some x, some (.ref w0), some (.ref ar), some (.int k), some (.ref A), c] = [some x, some (V.ref w0), a', b', c', e'] ∧ Same H H' ∧ H' w0 = some (.lst (es.map (·.1))) ∧
      (∀ e ∈ es, Ent H H' e.1 e.2) ∧ rowD d = (es.all fun e => rowD e.2) ∧ wsum es ≤ wD d := by
      intro H' s5 hl5 he5 e5
      refine ⟨wsum (es1 ++ ps), ?_, es1 ++ ps, _, _, _, _, rfl, rfl, s5, hl5, he5, ?_, ?_⟩
      · rw [wsum_append, wsum_append]
        omega
      · rw [hrow, List.all_append, List.all_append, ← e5]
        simp [rowD_elems ky]
      · rw [wsum_append] at hwe ⊢
        omega
    refine ⟨_, rfl, _, _, rfl, .inl (SqL.of hA4), _, rfl, _, _, rfl, (hx.mono s4).lt, _, _, rfl, rfl, _, rfl, ?_⟩
    refine ite2 (fun c5 => ?_) (fun c5 => ?_)
    · -- texts, too
      refine ⟨_, rfl, dc_seqD (K := K) (xs := xs) (hx.mono s4) (fun D i H' => Same H4 H' ∧ ∃ zs, H' D = some (.dK (setK zs)) ∧ zs.length ≤ i ∧ ∀ z, z ∈ zs ↔ PyData.str z ∈ (elemsD r).take i) (fun D hD => ⟨same_new hD _, [], upd_same, Nat.le_refl _, by simp⟩) ?_ ?_ ?_⟩
      · rintro D i H' hD _ ⟨s5, _⟩
        rcases hx.mono s4 with h | h
        · exact (s5 _ _ h).trans h.symm
        · exact (s5 _ _ h).trans h.symm
      · rintro D i xv H' hD e ⟨s5, zs, hD', hl', hm'⟩
        obtain ⟨dv, hdv, hdd⟩ := hxs.get e
        have tk : (elemsD r).take (i + 1) = (elemsD r).take i ++ [dv] := take_more hdv
        have ilt : i < xs.length := (List.getElem?_eq_some_iff.mp e).1
        refine ⟨rfl, _, rfl, _, _, _, _, _, rfl, .ty _, ty_of (hdd.mono (s4.trans s5)), kI_str, _, rfl, ?_⟩
        refine ite2 (fun c6 => ?_) (fun c6 => ?_)
        · cases hdd with
          | str z =>
            refine ⟨_, rfl, setK zs, Sum.inr z, rfl, hD', ?_, same_mut s5 hD _, _, upd_same.trans (by rw [setK_put]), ?_, fun y => ?_⟩
            · have : (setK zs).length = zs.length := by simp [setK]
              rw [this]
              exact Nat.lt_of_le_of_lt (show _ ≤ 2000 by omega) (by decide)
            · split
              · omega
              · simp; omega
            · rw [tk]
              by_cases hz : z ∈ zs
              · rw [if_pos hz, hm', List.mem_append]
                constructor
                · exact .inl
                · rintro (h | h)
                  · exact h
                  · simp at h
                    subst h
                    exact (hm' _).mp hz
              · rw [if_neg hz, List.mem_append, List.mem_append, hm']
                simp
          | _ => cases c6
        · refine ⟨s5, zs, hD', by omega, fun y => ?_⟩
          rw [hm', tk, List.mem_append]
          constructor
          · exact .inl
          · rintro (h | h)
            · exact h
            · simp at h
              subst h
              exact absurd rfl c6
      · rintro D H5 hD ⟨s5, zs, hD', hl', hm'⟩
        rw [full] at hm'
        refine ⟨D, zs, rfl, hD', by omega, fun z hz => ?_, fun H6 s6 => ⟨_, rfl, ?_⟩⟩
        · have mem := (hm' z).mp hz
          obtain ⟨j, hj⟩ := List.getElem?_of_mem mem
          have := oksD_get hps hj
          simp only [okD, Bool.and_eq_true, decide_eq_true_eq] at this
          exact this.1
        have ps2 := parts_split hm'
        have s46 := s5.trans s6
        refine ite2 (fun c7 => ?_) (fun c7 => ?_)
        · have q := q H6 (s4.trans s46)
          have z : rowD d = false := by
            rw [hrow, List.all_append]
            have : zs.all isThingS = false := by simpa using c7
            simp [rowD_elems ky, ps2, this]
          rw [z] at q
          exact q
        · have : zs.all isThingS = true := by simpa using c7
          rw [this, Bool.and_true, hp4] at ps2
          exact fin H6 (s4.trans s46) (s46 _ _ hl4) (fun e he => (he4 e he).mono fun t zs z => s46 _ _ z) ps2
    · -- agains alone
      refine iteF (fin H4 s4 hl4 he4 ?_)
      rw [← hp4]
      congr 1
      have c5 : ¬ ag.length < xs.length := by simpa using c5
      rw [hag.length, hxs.length] at c5
      exact (List.length_filter_eq_length_iff.mp (Nat.le_antisymm (List.length_filter_le _ _) (by omega)) |> List.filter_eq_self.mpr).symm
end
end K00

set_option Elab.async false
set_option linter.all false
set_option maxRecDepth 100000
set_option maxHeartbeats 4000000
namespace MC
open PySem PySem.Spec L2
/-- all that is tracked stays but the two of the dice -/
def Chg (d d0 : Addr) (H H' : Hp) : Prop := ∀ b o, b ≠ d → b ≠ d0 → H b = some o → H' b = some o
theorem Chg.refl (d d0 : Addr) (H : Hp) : Chg d d0 H H := fun _ _ _ _ h => h
theorem Chg.trans {d d0 : Addr} {H H1 H2 : Hp} (a : Chg d d0 H H1) (b : Chg d d0 H1 H2) : Chg d d0 H H2 := fun x o h1 h2 h => b x o h1 h2 (a x o h1 h2 h)
theorem Chg.same {d d0 : Addr} {H H1 H2 : Hp} (a : Chg d d0 H H1) (b : Same H1 H2) : Chg d d0 H H2 := fun x o h1 h2 h => b x o (a x o h1 h2 h)
theorem Chg.of {d d0 : Addr} {H H2 : Hp} (b : Same H H2) : Chg d d0 H H2 := fun x o _ _ h => b x o h
theorem Chg.updd {d d0 : Addr} {H H1 : Hp} (a : Chg d d0 H H1) (o : HO) : Chg d d0 H (upd H1 d o) := fun x u h1 h2 h => by rw [upd_ne h1]; exact a x u h1 h2 h
theorem Chg.updd0 {d d0 : Addr} {H H1 : Hp} (a : Chg d d0 H H1) (o : HO) : Chg d d0 H (upd H1 d0 o) := fun x u h1 h2 h => by rw [upd_ne h2]; exact a x u h1 h2 h
theorem Chg.updn {d d0 : Addr} {H H1 : Hp} (a : Chg d d0 H H1) {p : Addr} (hp : H p = none) (o : HO) : Chg d d0 H (upd H1 p o) := fun x u h1 h2 h => by rw [upd_ne (ne_of_none h hp)]; exact a x u h1 h2 h
def Dice (H : Hp) (d d0 : Addr) (N : Nat) : Prop := ∃ (gs : List Int) (m n : Int), H d = some (.lst [.ref d0, .int m, .int n]) ∧ H d0 = some (.lst (gs.map V.int)) ∧ 0 ≤ m ∧ m < 2 ^ 129 ∧ 0 ≤ n ∧ n ≤ (N : Int)
theorem dice_ne {H : Hp} {d d0 : Addr} {gs : List Int} {r : List V} (h1 : H d = some (.lst (.ref d0 :: r))) (h2 : H d0 = some (.lst (gs.map V.int))) : d ≠ d0 := ne_of h1 h2 (fun z => by
  injection z with z
  cases gs with
  | nil => cases z
  | cons g gs => cases z)
theorem Dice.mono {H : Hp} {d d0 : Addr} {N M : Nat} (h : Dice H d d0 N) (hm : N ≤ M) : Dice H d d0 M := by
  obtain ⟨gs, m, n, h1, h2, h3, h4, h5, h6⟩ := h
  exact ⟨gs, m, n, h1, h2, h3, h4, h5, by omega⟩
theorem Dice.same {H H' : Hp} {d d0 : Addr} {N : Nat} (h : Dice H d d0 N) (e : Same H H') : Dice H' d d0 N := by
  obtain ⟨gs, m, n, h1, h2, r⟩ := h
  exact ⟨gs, m, n, e _ _ h1, e _ _ h2, r⟩
theorem Dice.at {H : Hp} {d d0 : Addr} {N : Nat} (h : Dice H d d0 N) : H d ≠ none ∧ H d0 ≠ none ∧ d ≠ d0 := by
  obtain ⟨gs, m, n, h1, h2, r⟩ := h
  exact ⟨by rw [h1]; exact (fun z => (nomatch z)), by rw [h2]; exact (fun z => (nomatch z)), dice_ne h1 h2⟩
/-- another object is written or laid -/
theorem Dice.upd {H : Hp} {d d0 p : Addr} {N : Nat} {o : HO} (h : Dice H d d0 N) (h1 : p ≠ d) (h2 : p ≠ d0) : Dice (L2.upd H p o) d d0 N := by
  obtain ⟨gs, m, n, k1, k2, r⟩ := h
  exact ⟨gs, m, n, by rw [upd_ne h1.symm]; exact k1, by rw [upd_ne h2.symm]; exact k2, r⟩
theorem log2_of {i : Int} {n : Nat} (h : i.natAbs < 2 ^ n) (h0 : 0 < n) : i.natAbs.log2 < n := by
  by_cases z : i.natAbs = 0
  · rw [z]; exact h0
  · exact (Nat.log2_lt z).mpr h
/-- a number from 0 on below k -/
def spRoll : Sp := fun vs H Q _ => ∃ (d d0 : Addr) (N : Nat) (k : Int), vs = [.ref d, .int k] ∧ Dice H d d0 N ∧ N ≤ 10 ^ 12 ∧ 1 ≤ k ∧ k ≤ 10 ^ 31 ∧
  ∀ r H', 0 ≤ r → r < k → Chg d d0 H H' → Dice H' d d0 (N + 1) → Q (.int r) H'
theorem spRoll_len : ∀ vs H Q E, spRoll vs H Q E → vs.length = 2 := fun vs H Q E h => by
  obtain ⟨d, d0, N, k, rfl, _⟩ := h
  rfl
end MC
namespace K00
open PySem PySem.Spec L2 MC
open PyProof.Rows hiding St
section
variable {P : Program} {w : World} {K : PySem.W.Frag} {mg : Str → Option Value} {base : Heap} {f_l_roll : Addr} {fd_l_roll : FuncData}
theorem ok_roll (T : Txt K mg) (O_l_roll : Own K mg "_law_roll" s_l_roll f_l_roll fd_l_roll ["_law_dice_here", "_law_many"]) : FnOk P w K mg base CX0 1 f_l_roll fd_l_roll ["_law_dice_here", "_law_many"] spRoll := by
  refine O_l_roll.F.ok sc_l_roll spRoll_len (fun cdv A outer s H vs Q E hr h => ?_)
  obtain ⟨d, d0, N, k, rfl, ⟨gs0, m0, n0, hd, hd0, m1, m2, n1, n2⟩, hN, k1, k2, q⟩ := h
  have hu1 : (A.deeper (envOfC "_law_roll" (defScope s_l_roll) s.heap.objs.size f_l_roll cdv)).units < cLine := by have := hr.un; omega
  refine ⟨_, (pss_cons (ps_while PassesOwn.never (PW.pt (pw_and (pt_cmpR (k_neNil (K := K) rfl hu1) (pe_ix (k_ix_list (K := K) rfl) (pv 0) pe_int (fun _ _ => rfl)) (pe_lst pa_nil) (nomark _)) (pw_and1 (pt_cmpR op_lt (pe_ix (k_ix_list (K := K) rfl) (pe_ix (k_ix_list (K := K) rfl) (pv 0) pe_int (fun _ _ => rfl)) pe_int (fun _ _ => rfl)) pe_int (nomark _)))))
    (pss_one (ps_expr (k_bm (K := K) rfl (pe_bm PySem.F.plainAttrs_list PySem.F.slot_list_pop PySem.F.type_list_pop mt_popAt (pe_ix (k_ix_list (K := K) rfl) (pv 0) pe_int (fun _ _ => rfl)) (pa_cons pe_int pa_nil))))))
    (pss_cons (ps_if (pt_cmpR (k_neNil (K := K) rfl hu1) (pe_ix (k_ix_list (K := K) rfl) (pv 0) pe_int (fun _ _ => rfl)) (pe_lst pa_nil) (nomark _))
    (pss_cons (ps_set (i := 2) sc_l_roll.nd rfl (Or.inl rfl) (pe_op op_mod (pe_ix (k_ix_list (K := K) rfl) (pe_ix (k_ix_list (K := K) rfl) (pv 0) pe_int (fun _ _ => rfl)) pe_int (fun _ _ => rfl)) (pv 1)))
    (pss_cons (ps_asg (pe_op op_fdivW (pe_ix (k_ix_list (K := K) rfl) (pe_ix (k_ix_list (K := K) rfl) (pv 0) pe_int (fun _ _ => rfl)) pe_int (fun _ _ => rfl)) (pv 1)) (pg_sub (pe_ix (k_ix_list (K := K) rfl) (pv 0) pe_int (fun _ _ => rfl)) pe_int set_list))
    (pss_one (ps_ret (pv 2)))))
    pss_nil)
    (pss_cons (ps_asg (pe_op op_add (pe_ix (k_ix_list (K := K) rfl) (pv 0) pe_int (fun _ _ => rfl)) pe_int) (pg_sub (pv 0) pe_int set_list))
    (pss_cons (ps_set (i := 3) sc_l_roll.nd rfl (Or.inl rfl) (pe_op op_add (pe_op op_mulW (pe_ix (k_ix_list (K := K) rfl) (pv 0) pe_int (fun _ _ => rfl)) (pe_ix (k_ix_list (K := K) rfl) (pv 0) pe_int (fun _ _ => rfl))) (pe_op op_mulW (pe_op op_mul pe_int (pe_ix (k_ix_list (K := K) rfl) (pv 0) pe_int (fun _ _ => rfl))) (pe_ix (k_ix_list (K := K) rfl) (pv 0) pe_int (fun _ _ => rfl)))))
    (pss_cons (ps_set (i := 3) sc_l_roll.nd rfl (Or.inl rfl) (pe_op op_add (pe_op op_add (pv 3) (pe_op op_mul pe_int (pe_ix (k_ix_list (K := K) rfl) (pv 0) pe_int (fun _ _ => rfl)))) pe_int))
    (pss_cons (ps_asg (pe_op op_mod (pv 3) pe_int) (pg_sub (pv 0) pe_int set_list))
    (pss_one (ps_ret (pe_op op_mod (pe_op op_fdivW (pe_ix (k_ix_list (K := K) rfl) (pv 0) pe_int (fun _ _ => rfl)) (pe_op op_pow pe_int pe_int)) (pv 1)))))))))), ?_⟩
  refine ⟨fun m σ H' => ∃ (gs : List Int), m = gs.length ∧ σ = [some (.ref d), some (.int k), none, none] ∧ Chg d d0 H H' ∧ H' d = some (.lst [.ref d0, .int m0, .int n0]) ∧ H' d0 = some (.lst (gs.map V.int)),
    ⟨_, gs0, rfl, rfl, Chg.refl _ _ _, hd, hd0⟩, ?_⟩
  rintro m σ H1 ⟨gs, rfl, rfl, c1, e1, e2⟩
  have hne := dice_ne e1 e2
  have kl : k.natAbs.log2 < 9000 := log2_of (n := 9000) (Nat.lt_of_lt_of_le (show k.natAbs < 2 ^ 200 from Nat.lt_of_le_of_lt (show k.natAbs ≤ 10 ^ 31 by omega) (by decide)) (Nat.pow_le_pow_right (by decide) (by decide))) (by decide)
  cases gs with
  | nil =>
    -- nothing is left of the great ones
    refine ⟨_, rfl, _, _, _, _, rfl, rfl, SqL.of e1, atI_nat (j := 0) rfl, Nat.zero_le _, fun p hp => ⟨_, _, _, rfl, rfl, SqL.of (same_new hp _ _ _ e2), upd_same, _, rfl, ?_⟩⟩
    have s1 := same_new (H := H1) hp (.lst [])
    refine ⟨_, rfl, _, _, _, _, rfl, rfl, SqL.of (s1 _ _ e1), atI_nat (j := 0) rfl, Nat.zero_le _, fun p2 hp2 => ⟨_, _, _, rfl, rfl, SqL.of (same_new hp2 _ _ _ (s1 _ _ e2)), upd_same, _, rfl, ?_⟩⟩
    have s2 := s1.trans (same_new hp2 (.lst []))
    have c2 := c1.same s2
    have e3 := s2 _ _ e1
    have e4 := s2 _ _ e2
    generalize upd (upd H1 p (.lst [])) p2 (.lst []) = H2 at c2 e3 e4
    have nl : n0.natAbs.log2 < 100 := log2_of (Nat.lt_of_le_of_lt (show n0.natAbs ≤ 10 ^ 12 by omega) (by decide)) (by decide)
    have n1l : (n0 + 1).natAbs.log2 < 100 := log2_of (Nat.lt_of_le_of_lt (show (n0 + 1).natAbs ≤ 10 ^ 12 + 1 by omega) (by decide)) (by decide)
    have n2l : (69621 * (n0 + 1)).natAbs.log2 < 200 := log2_of (Nat.lt_of_le_of_lt (show (69621 * (n0 + 1)).natAbs ≤ 69621 * (10 ^ 12 + 1) by omega) (by decide)) (by decide)
    have ml : m0.natAbs.log2 < 200 := log2_of (Nat.lt_of_lt_of_le (show m0.natAbs < 2 ^ 129 by omega) (by decide)) (by decide)
    -- d[2] = d[2] + 1
    refine ⟨_, rfl, _, _, _, _, rfl, rfl, SqL.of e3, atI_nat (j := 2) rfl, _, _, rfl, rfl, _, rfl, _, _, _, 2, rfl, rfl, e3, rfl, ?_⟩
    have e5 : upd H2 d (.lst ([.ref d0, .int m0, .int n0].set 2 (.int (n0 + 1)))) d = some (.lst [.ref d0, .int m0, .int (n0 + 1)]) := upd_same
    refine ⟨_, rfl, _, _, _, _, rfl, rfl, SqL.of e5, atI_nat (j := 1) rfl, _, rfl, _, _, _, _, rfl, rfl, SqL.of e5, atI_nat (j := 1) rfl, _, _, rfl, rfl, (show CMulW _ _ by unfold CMulW; omega),
      _, rfl, _, _, _, _, rfl, rfl, SqL.of e5, atI_nat (j := 2) rfl, _, _, rfl, rfl, .inl (by decide), _, rfl, _, _, _, _, rfl, rfl, SqL.of e5, atI_nat (j := 2) rfl, _, _, rfl, rfl, (show CMulW _ _ by unfold CMulW; omega), _, _, rfl, rfl, ?_⟩
    refine ⟨_, rfl, _, rfl, _, _, _, _, rfl, rfl, SqL.of e5, atI_nat (j := 1) rfl, _, _, rfl, rfl, .inl (by decide), _, _, rfl, rfl, _, _, rfl, rfl, ?_⟩
    refine ⟨_, rfl, _, _, rfl, rfl, (by show (0 : Int) < 340282366920938463463374607431768211297; decide), _, rfl, _, _, _, 1, rfl, rfl, e5, rfl, ?_⟩
    have e6 : ∀ m' : Int, upd (upd H2 d (.lst ([.ref d0, .int m0, .int n0].set 2 (.int (n0 + 1))))) d (.lst ([.ref d0, .int m0, .int (n0 + 1)].set 1 (.int m'))) d = some (.lst [.ref d0, .int m', .int (n0 + 1)]) := fun _ => upd_same
    refine ⟨_, rfl, _, _, _, _, rfl, rfl, SqL.of (e6 _), atI_nat (j := 1) rfl, _, _, rfl, rfl, ⟨by decide, by decide, by decide⟩, _, _, rfl, rfl, ⟨by decide, by decide⟩, _, rfl, _, _, rfl, rfl, k1, ?_⟩
    refine q _ _ (Int.emod_nonneg _ (by omega)) (Int.emod_lt_of_pos _ (by omega)) ((c2.updd _).updd _) ⟨[], _, n0 + 1, e6 _, ?_, Int.emod_nonneg _ (by decide), ?_, by omega, by omega⟩
    · rw [upd_ne hne.symm, upd_ne hne.symm]; exact e4
    · exact Int.lt_of_lt_of_le (Int.emod_lt_of_pos _ (by decide)) (by decide)
  | cons g gs =>
    refine ⟨_, rfl, _, _, _, _, rfl, rfl, SqL.of e1, atI_nat (j := 0) rfl, Nat.zero_le _, fun p hp => ⟨_, _, _, rfl, rfl, SqL.of (same_new hp _ _ _ e2), upd_same, _, rfl, ?_⟩⟩
    have s1 := same_new (H := H1) hp (.lst [])
    have c2 := c1.same s1
    have e3 := s1 _ _ e1
    have e4 := s1 _ _ e2
    generalize upd H1 p (.lst []) = H2 at c2 e3 e4
    refine ⟨_, rfl, _, _, _, _, rfl, rfl, SqL.of e3, atI_nat (j := 0) rfl, _, _, _, _, rfl, rfl, SqL.of e4, atI_nat (j := 0) rfl, _, _, rfl, rfl, _, rfl, ?_⟩
    refine ite2 (fun b => ?_) (fun b => ?_)
    · -- one that is used up goes
      refine ⟨fun σ' H' => ∃ m', m' < (g :: gs).length ∧ _, fun _ _ z => z, ?_⟩
      refine ⟨_, rfl, _, _, _, _, rfl, rfl, SqL.of e3, atI_nat (j := 0) rfl, .inl ⟨rfl, _, SqL.of e4⟩, _, _, _, 0, _, rfl, rfl, e4, by decide, by decide, by simp [seqIndex?], rfl, ?_⟩
      refine ⟨gs.length, by simp, gs, rfl, rfl, c2.updd0 _, ?_, upd_same⟩
      rw [upd_ne hne]; exact e3
    · have g1 : 1 ≤ g := by
        have : ¬ g < 1 := by simpa using b
        omega
      refine ⟨_, rfl, _, _, _, _, rfl, rfl, SqL.of e3, atI_nat (j := 0) rfl, Nat.zero_le _, fun p2 hp2 => ⟨_, _, _, rfl, rfl, SqL.of (same_new hp2 _ _ _ e4), upd_same, _, rfl, ?_⟩⟩
      have s2 := same_new (H := H2) hp2 (.lst [])
      have c3 := c2.same s2
      have e5 := s2 _ _ e3
      have e6 := s2 _ _ e4
      generalize upd H2 p2 (.lst []) = H3 at c3 e5 e6
      refine ⟨_, rfl, _, _, _, _, rfl, rfl, SqL.of e5, atI_nat (j := 0) rfl, _, _, _, _, rfl, rfl, SqL.of e6, atI_nat (j := 0) rfl, _, rfl, _, _, rfl, rfl, k1, ?_⟩
      refine ⟨_, rfl, _, _, _, _, rfl, rfl, SqL.of e5, atI_nat (j := 0) rfl, _, _, _, _, rfl, rfl, SqL.of e6, atI_nat (j := 0) rfl, _, rfl, _, _, rfl, rfl, ⟨k1, kl⟩,
        _, rfl, _, _, _, _, rfl, rfl, SqL.of e5, atI_nat (j := 0) rfl, _, _, _, 0, rfl, rfl, e6, (by simp [ixN]), ?_⟩
      refine ⟨_, rfl, q _ _ (Int.emod_nonneg _ (by omega)) (Int.emod_lt_of_pos _ (by omega)) (c3.updd0 _) ⟨(g / k) :: gs, m0, n0, ?_, upd_same, m1, m2, n1, by omega⟩⟩
      rw [upd_ne hne]; exact e5
end
end K00

set_option Elab.async false
set_option linter.all false
set_option maxRecDepth 100000
set_option maxHeartbeats 4000000
namespace MC
open PySem PySem.Spec L2
/-- the heap without what may change -/
def Hid (S : List Addr) (H : Hp) : Hp := fun a => if a ∈ S then none else H a
theorem hid_in {S : List Addr} {H : Hp} {a : Addr} (h : a ∈ S) : Hid S H a = none := if_pos h
theorem hid_out {S : List Addr} {H : Hp} {a : Addr} (h : a ∉ S) : Hid S H a = H a := if_neg h
theorem hid_some {S : List Addr} {H : Hp} {a : Addr} {o : HO} (h : Hid S H a = some o) : a ∉ S ∧ H a = some o := by
  by_cases q : a ∈ S
  · rw [hid_in q] at h; cases h
  · rw [hid_out q] at h; exact ⟨q, h⟩
theorem hid_same {S : List Addr} {H : Hp} : Same (Hid S H) H := fun b o h => (hid_some h).2
theorem hid_less {S S' : List Addr} {H : Hp} (h : ∀ a ∈ S, a ∈ S') : Same (Hid S' H) (Hid S H) := fun b o e => by
  obtain ⟨h1, h2⟩ := hid_some e
  rw [hid_out (fun z => h1 (h _ z))]; exact h2
theorem hid_more {S S' : List Addr} {H : Hp} (h : ∀ a ∈ S', a ∈ S ∨ H a = none) : Same (Hid S H) (Hid S' H) := fun b o e => by
  obtain ⟨h1, h2⟩ := hid_some e
  rw [hid_out (fun z => (h _ z).elim h1 fun n => by rw [n] at h2; cases h2)]; exact h2
theorem Same.hid {S : List Addr} {H H' : Hp} (e : Same H H') : Same (Hid S H) (Hid S H') := fun b o h => by
  obtain ⟨h1, h2⟩ := hid_some h
  rw [hid_out h1]; exact e _ _ h2
theorem Chg.hid {S : List Addr} {d d0 : Addr} {H H' : Hp} (e : Chg d d0 H H') (h1 : d ∈ S) (h2 : d0 ∈ S) : Same (Hid S H) (Hid S H') := fun b o h => by
  obtain ⟨n, q⟩ := hid_some h
  rw [hid_out n]; exact e _ _ (fun z => n (z ▸ h1)) (fun z => n (z ▸ h2)) q
/-- one of the hidden ones is written -/
theorem hid_upd {S : List Addr} {H H' : Hp} {p : Addr} (e : Same (Hid S H) (Hid S H')) (hp : p ∈ S) (o : HO) : Same (Hid S H) (Hid S (upd H' p o)) := fun b u h => by
  have n := (hid_some h).1
  have q := e _ _ h
  rw [hid_out n] at q ⊢
  rw [upd_ne (fun z => n (by rw [z]; exact hp))]; exact q
/-- a new one is laid, or one that H doesn't know is written -/
theorem hid_new {S : List Addr} {H H' : Hp} {p : Addr} (e : Same (Hid S H) (Hid S H')) (hp : Hid S H p = none) (o : HO) : Same (Hid S H) (Hid S (upd H' p o)) := fun b u h => by
  have n := (hid_some h).1
  have q := e _ _ h
  rw [hid_out n] at q ⊢
  rw [upd_ne (fun z => by rw [z, hp] at h; cases h)]; exact q
theorem hid_none {S : List Addr} {H : Hp} {p : Addr} (h : H p = none) : Hid S H p = none := by
  by_cases q : p ∈ S
  · exact hid_in q
  · rw [hid_out q]; exact h
theorem hid_free {S : List Addr} {H H' : Hp} {p : Addr} (e : Same (Hid S H) (Hid S H')) (h : H' p = none) (hp : p ∉ S) : H p = none := by
  cases q : H p with
  | none => rfl
  | some o =>
    have z := e p o (by rw [hid_out hp]; exact q)
    rw [hid_out hp, h] at z; cases z
end MC
namespace K00
open PySem PySem.Spec L2 MC
open PyProof.Rows hiding St
section
variable {P : Program} {w : World} {K : PySem.W.Frag} {mg : Str → Option Value} {base : Heap}
def spDice (K : PySem.W.Frag) : Sp := fun vs H Q _ => ∃ (a : Addr) (ns : List Int), vs = [.ref a] ∧ SqL K H a (ns.map V.int) ∧ ns.length ≤ 63 ∧
  ∀ d d0 H', Same H H' → H d = none → H d0 = none → Dice H' d d0 0 → Q (.ref d) H'
theorem cut_ints (ns : List Int) (lo hi : Option Int) : ∃ cs : List Int, cutV (ns.map V.int) lo hi = cs.map V.int ∧ cs.length ≤ ns.length := by
  refine ⟨(ns.drop (HT.sIx ns.length 0 lo)).take (HT.sIx ns.length ns.length hi - HT.sIx ns.length 0 lo), ?_, ?_⟩
  · unfold cutV
    rw [List.length_map, List.map_take, List.map_drop]
  · rw [List.length_take, List.length_drop]; omega
variable {f_l_dice : Addr} {fd_l_dice : FuncData}
theorem ok_dice (T : Txt K mg) (O_l_dice : Own K mg "_law_dice" s_l_dice f_l_dice fd_l_dice ["_law_script"]) : FnOk P w K mg base CX0 1 f_l_dice fd_l_dice ["_law_script"] (spDice K) := by
  refine O_l_dice.F.ok sc_l_dice (fun vs H Q E h => by obtain ⟨a, ns, rfl, _⟩ := h; rfl) (fun cdv A outer s H vs Q E hr h => ?_)
  obtain ⟨a, ns, rfl, hS, hl, q⟩ := h
  refine ⟨_, (pss_cons (ps_setLc (i := 1) (own := [("_law_cell", 3)]) rfl sc_l_dice.nd rfl rfl (sw_true rfl rfl rfl (by decide +kernel)) (k_list (K := K) rfl (pe_slice (k_sl_list (K := K) rfl) (pv 0) po_none (po_some pe_int))) (blkOk_by (own := [("_law_cell", 3)]) (N := ["_law_script", "_law_great", "_law_mixed", "_law_cell"]) (sc := defScope s_l_dice) (by decide +kernel)) (fun _ _ _ _ _ => (pg_name (i := 3) sc_l_dice.nd rfl (Or.inl rfl))) (fun _ _ _ _ _ => pts_one (pt_cmpR op_ge (pv 3) (pe_op op_pow pe_int pe_int) (nomark _))) (fun _ _ _ _ _ => (pe_op op_sub (pv 3) (pe_op op_pow pe_int pe_int))))
    (pss_cons (ps_set (i := 2) sc_l_dice.nd rfl (Or.inl rfl) (pe_op op_pow pe_int pe_int))
    (pss_cons (ps_for PassesOwn.never rfl (k_list (K := K) rfl (pe_slice (k_sl_list (K := K) rfl) (pv 0) po_none (po_some pe_int))) (pg_name (i := 3) sc_l_dice.nd rfl (Or.inl rfl))
    (pss_one (ps_set (i := 2) sc_l_dice.nd rfl (Or.inl rfl) (pe_op op_mod (pe_op op_add (pe_op op_add (pe_op op_mulW (pv 2) (pv 2)) (pe_op op_mul (pv 3) pe_int)) pe_int) pe_int))))
    (pss_one (ps_ret (pe_lst (pa_cons (pv 1) (pa_cons (pv 2) (pa_cons pe_int pa_nil))))))))), ?_⟩
  obtain ⟨cs, ecs, lcs⟩ := cut_ints ns none (some 48)
  refine ⟨_, rfl, _, rfl, _, _, rfl, hS, fun p hp => ⟨p, rfl, ⟨_, SqL.of upd_same⟩, fun D hD => ?_⟩⟩
  rw [ecs] at hD ⊢
  have s1 := same_new (H := H) hp (.lst (cs.map V.int))
  have hpD : upd H p (.lst (cs.map V.int)) p = some (.lst (cs.map V.int)) := upd_same
  generalize upd H p (.lst (cs.map V.int)) = H1 at s1 hpD hD
  refine lc_list (K := K) (a := p) (xs := cs.map V.int) (fun i H' => Same H1 H' ∧ ∃ gs : List Int, H' D = some (.lst (gs.map V.int)) ∧ gs.length ≤ i) ⟨same_new hD _, [], upd_same, Nat.le_refl _⟩ (fun i H' _ z => SqL.of (z.1 _ _ hpD)) ?_ ?_
  · rintro i x H2 hi ⟨s2, gs, hg, lg⟩
    have il : i < 63 := by have := (List.getElem?_eq_some_iff.mp hi).1; rw [List.length_map] at this; omega
    obtain ⟨z, rfl⟩ : ∃ z, x = V.int z := by
      rw [List.getElem?_map] at hi
      cases e : cs[i]? with
      | none => rw [e] at hi; cases hi
      | some z => rw [e] at hi; exact ⟨z, (Option.some.inj hi).symm⟩
    refine ⟨rfl, _, rfl, _, _, rfl, rfl, ⟨by decide, by decide, by decide⟩, _, _, rfl, rfl, _, rfl, ?_⟩
    refine ite2 (fun c => ?_) (fun c => ?_)
    · refine ⟨_, rfl, _, _, rfl, rfl, ⟨by decide, by decide, by decide⟩, _, _, rfl, rfl, _, hg, ?_, same_mut s2 hD _, gs ++ [z - 10 ^ Int.toNat 18], ?_, ?_⟩
      · rw [List.length_map]; exact Nat.lt_of_le_of_lt (show _ ≤ 100 by omega) (by decide)
      · rw [upd_same, List.map_append]; rfl
      · simp; omega
    · exact ⟨s2, gs, hg, by omega⟩
  · rintro H2 ⟨s2, gs, hg, lg⟩
    have hD0 : H D = none := s1.free hD
    refine ⟨_, _, rfl, rfl, ⟨by decide, by decide, by decide⟩, ?_⟩
    refine ⟨_, rfl, _, rfl, _, _, rfl, (s1.trans s2).seq hS, fun p2 hp2 => ⟨p2, rfl, ⟨_, SqL.of upd_same⟩, ?_⟩⟩
    rw [ecs]
    have s3 := same_new (H := H2) hp2 (.lst (cs.map V.int))
    have hq : upd H2 p2 (.lst (cs.map V.int)) p2 = some (.lst (cs.map V.int)) := upd_same
    generalize upd H2 p2 (.lst (cs.map V.int)) = H3 at s3 hq
    have s4 := (s1.trans s2).trans s3
    have hg3 := s3 _ _ hg
    refine for_list (K := K) (a := p2) (xs := cs.map V.int) (fun i σ H' => H' = H3 ∧ ∃ (m : Int) (c : Option V), σ = [some (.ref a), some (.ref D), some (.int m), c] ∧ 0 ≤ m ∧ m < 2 ^ 129) ⟨rfl, _, _, rfl, by decide, by decide⟩ (fun i σ H' _ z => SqL.of (by rw [z.1]; exact hq)) ?_ ?_
    · rintro i x σ H' hi ⟨rfl, m, c, rfl, m1, m2⟩
      obtain ⟨z, rfl⟩ : ∃ z, x = V.int z := by
        rw [List.getElem?_map] at hi
        cases e : cs[i]? with
        | none => rw [e] at hi; cases hi
        | some z => rw [e] at hi; exact ⟨z, (Option.some.inj hi).symm⟩
      have ml : m.natAbs.log2 < 200 := log2_of (Nat.lt_of_lt_of_le (show m.natAbs < 2 ^ 129 by omega) (by decide)) (by decide)
      refine ⟨_, rfl, _, rfl, _, _, rfl, rfl, (show CMulW _ _ by unfold CMulW; omega), _, rfl, _, _, rfl, rfl, .inr (by decide), _, _, rfl, rfl, _, _, rfl, rfl, _, _, rfl, rfl, (by show (0 : Int) < 340282366920938463463374607431768211297; decide), ?_⟩
      exact ⟨rfl, _, _, rfl, Int.emod_nonneg _ (by decide), Int.lt_of_lt_of_le (Int.emod_lt_of_pos _ (by decide)) (by decide)⟩
    · rintro σ H' ⟨rfl, m, c, rfl, m1, m2⟩
      refine ⟨_, rfl, _, rfl, (by show 3 ≤ sizeLine; decide), fun d hd => ?_⟩
      exact q d D _ (s4.trans (same_new hd _)) (s4.free hd) hD0 ⟨gs, m, 0, upd_same, same_new hd _ _ _ hg3, m1, m2, by decide, by decide⟩
end
end K00

set_option Elab.async false
set_option linter.all false
set_option maxRecDepth 100000
set_option maxHeartbeats 4000000
namespace MC
open PySem PySem.Spec L2
theorem map_erase {α β : Type} (f : α → β) : ∀ (l : List α) (i : Nat), (l.map f).eraseIdx i = (l.eraseIdx i).map f
  | [], _ => rfl
  | _ :: _, 0 => rfl
  | x :: l, i + 1 => by simp [List.eraseIdx_cons_succ, map_erase f l i]
theorem perm_erase {α : Type} : ∀ {l : List α} {i : Nat} (h : i < l.length), (l[i] :: l.eraseIdx i).Perm l
  | x :: l, 0, _ => List.Perm.refl _
  | x :: l, i + 1, h => by
    have q := perm_erase (l := l) (i := i) (by simpa using h)
    exact (List.Perm.swap x _ _).trans (q.cons x)
def lets : Str := "abcdefghijklmnopqrstuvwxyz"
def sgn (c : Nat) : Str := ⟨#[c]⟩
def nms1 : List Str := lets.cps.toList.map sgn
def nms2 : List Str := lets.cps.toList.map fun c => sgn c ++ "zz"
def nms3 : List Str := lets.cps.toList.map fun c => "m" ++ sgn c ++ "abcdef"
def nmsAll : List Str := nms1 ++ nms2 ++ nms3
theorem nmsAll_ok : nmsAll.all isThingS = true := by decide +kernel
theorem nmsAll_nodup : nmsAll.Nodup := by decide +kernel
theorem nmsAll_len : nmsAll.length = 78 := by decide +kernel
theorem lets_len : lets.cps.size = 26 := by decide +kernel
end MC
namespace K00
open PySem PySem.Spec L2 MC
open PyProof.Rows hiding St
section
variable {P : Program} {w : World} {K : PySem.W.Frag} {mg : Str → Option Value} {base : Heap}
def spNames : Sp := fun vs H Q _ => ∃ (d d0 : Addr) (N : Nat) (k : Int), vs = [.ref d, .int k] ∧ Dice H d d0 N ∧ N ≤ 10 ^ 11 ∧ 0 ≤ k ∧ k ≤ 78 ∧
  ∀ p H' (ys : List Str), (ys.length : Int) = k → ys.all isThingS = true → ys.Nodup → H p = none → Chg d d0 H H' → H' p = some (.lst (ys.map V.str)) → p ≠ d → p ≠ d0 → Dice H' d d0 (N + 78) → Q (.ref p) H'
theorem ne_dice {H H' : Hp} {d d0 p : Addr} (h : H d ≠ none) (hp : H p = none) : p ≠ d := fun z => h (z ▸ hp)
variable {f_l_dice f_l_roll f_l_names : Addr} {fd_l_dice fd_l_roll fd_l_names : FuncData}
theorem ok_names (T : Txt K mg) (G_l_roll : FnOk P w K mg base CX0 1 f_l_roll fd_l_roll ["_law_dice_here", "_law_many"] spRoll) (O_l_roll : Own K mg "_law_roll" s_l_roll f_l_roll fd_l_roll ["_law_dice_here", "_law_many"]) (O_l_names : Own K mg "_law_names" s_l_names f_l_names fd_l_names ["_law_dice_here", "_law_many"]) : FnOk P w K mg base CX0 2 f_l_names fd_l_names ["_law_dice_here", "_law_many"] spNames := by
  refine O_l_names.F.ok sc_l_names (fun vs H Q E h => by obtain ⟨d, d0, N, k, rfl, _⟩ := h; rfl) (fun cdv A outer s H vs Q E hr h => ?_)
  obtain ⟨d, d0, N, k, rfl, hD, hN, k1, k2, q⟩ := h
  refine ⟨_, (pss_cons (ps_set (i := 2) sc_l_names.nd rfl (Or.inl rfl) pe_str)
    (pss_cons (ps_set (i := 3) sc_l_names.nd rfl (Or.inr rfl) (pe_op op_cat (pe_op op_cat (pe_callTy (call_list_text rfl) (by rfl) T.n_list (by decide +kernel) (pa_cons (pv 2) pa_nil)) (pe_lc (own := [("_law_sign", 4)]) rfl sc_l_names.nd (pi_str (pv 2)) (blkOk_by (own := [("_law_sign", 4)]) (N := ["_law_dice_here", "_law_many", "_law_letters", "_law_left", "_law_sign", "_law_k"]) (sc := defScope s_l_names) (by decide +kernel)) (fun _ _ _ _ _ => (pg_name (i := 4) sc_l_names.nd rfl (Or.inl rfl))) (fun _ _ _ _ _ => pts_nil) (fun _ _ _ _ _ => (pe_op op_add_str (pv 4) pe_str)))) (pe_lc (own := [("_law_sign", 4)]) rfl sc_l_names.nd (pi_str (pv 2)) (blkOk_by (own := [("_law_sign", 4)]) (N := ["_law_dice_here", "_law_many", "_law_letters", "_law_left", "_law_sign", "_law_k"]) (sc := defScope s_l_names) (by decide +kernel)) (fun _ _ _ _ _ => (pg_name (i := 4) sc_l_names.nd rfl (Or.inl rfl))) (fun _ _ _ _ _ => pts_nil) (fun _ _ _ _ _ => (pe_op op_add_str (pe_op op_add_str pe_str (pv 4)) pe_str)))))
    (pss_one (ps_ret (pe_lc (own := [("_law_k", 5)]) rfl sc_l_names.nd (pi_range1 (by rfl) T.n_range (pa_cons (pv 1) pa_nil)) (blkOk_by (own := [("_law_k", 5)]) (N := ["_law_dice_here", "_law_many", "_law_letters", "_law_left", "_law_sign", "_law_k"]) (sc := defScope s_l_names) (by decide +kernel)) (fun _ _ _ _ _ => (pg_name (i := 5) sc_l_names.nd rfl (Or.inl rfl))) (fun _ _ _ _ _ => pts_nil) (fun _ _ _ _ _ => (k_bm (K := K) rfl (pe_bm PySem.F.plainAttrs_list PySem.F.slot_list_pop PySem.F.type_list_pop mt_popAt (pv 3) (pa_cons (pe_call G_l_roll (hr.mono (by omega)) rfl O_l_roll.m O_l_roll.F.kp O_l_roll.b .nil pass0 (pa_cons (pv 0) (pa_cons (pe_callB (k_len_seq (K := K) rfl) (by rfl) T.n_len (by decide +kernel) (pa_cons (pv 3) pa_nil)) pa_nil))) pa_nil))))))))), ?_⟩
  have ll : lets.length ≤ sizeLine := by show lets.cps.size ≤ sizeLine; rw [lets_len]; decide
  -- the letters
  refine ⟨_, rfl, lets, rfl, ll, fun p1 hp1 => ⟨_, rfl, lets, rfl, fun D2 hD2 => ?_⟩⟩
  have e1 : upd H p1 (.lst (signV lets)) p1 = some (.lst (nms1.map V.str)) := by rw [upd_same]; simp [signV, nms1, sgn]
  have s1 := same_new hp1 (.lst (signV lets))
  generalize upd H p1 (.lst (signV lets)) = H1 at e1 s1 hD2
  refine lc_str (fun i H' => Same H1 H' ∧ H' D2 = some (.lst ((lets.cps.toList.take i).map fun c => V.str (sgn c ++ "zz")))) ⟨same_new hD2 _, upd_same⟩ ?_ ?_
  · rintro i c H2 e ⟨s2, h2⟩
    have il : i < 26 := by have := (Array.getElem?_eq_some_iff.mp e).1; rw [lets_len] at this; exact this
    refine ⟨rfl, _, rfl, _, _, rfl, rfl, ?_, _, h2, ?_, same_mut s2 hD2 _, ?_⟩
    · show 1 + 2 ≤ sizeLine; decide
    · rw [List.length_map, List.length_take]; exact Nat.lt_of_le_of_lt (Nat.le_trans (Nat.min_le_left _ _) (Nat.le_of_lt il)) (by decide)
    · rw [upd_same, take_more (x := c) (by simpa using e), List.map_append]; rfl
  rintro H2 ⟨s2, h2⟩
  have e2 : H2 D2 = some (.lst (nms2.map V.str)) := by
    rw [h2, List.take_of_length_le (by simp), nms2, List.map_map]; rfl
  refine ⟨p1, D2, _, _, rfl, rfl, s2 _ _ e1, e2, by simp [nms1, nms2, lets_len]; decide, fun p3 hp3 => ⟨_, rfl, lets, rfl, fun D4 hD4 => ?_⟩⟩
  have e3 : upd H2 p3 (.lst (nms1.map V.str ++ nms2.map V.str)) p3 = some (.lst ((nms1 ++ nms2).map V.str)) := by rw [upd_same, List.map_append]
  have s3 := same_new hp3 (.lst (nms1.map V.str ++ nms2.map V.str))
  generalize upd H2 p3 (.lst (nms1.map V.str ++ nms2.map V.str)) = H3 at e3 s3 hD4
  refine lc_str (fun i H' => Same H3 H' ∧ H' D4 = some (.lst ((lets.cps.toList.take i).map fun c => V.str ("m" ++ sgn c ++ "abcdef")))) ⟨same_new hD4 _, upd_same⟩ ?_ ?_
  · rintro i c H4 e ⟨s4, h4⟩
    have il : i < 26 := by have := (Array.getElem?_eq_some_iff.mp e).1; rw [lets_len] at this; exact this
    refine ⟨rfl, _, rfl, _, _, rfl, rfl, (by show 1 + 1 ≤ sizeLine; decide), _, _, rfl, rfl, ?_, _, h4, ?_, same_mut s4 hD4 _, ?_⟩
    · show 2 + 6 ≤ sizeLine; decide
    · rw [List.length_map, List.length_take]; exact Nat.lt_of_le_of_lt (Nat.le_trans (Nat.min_le_left _ _) (Nat.le_of_lt il)) (by decide)
    · rw [upd_same, take_more (x := c) (by simpa using e), List.map_append]; rfl
  rintro H4 ⟨s4, h4⟩
  have e4 : H4 D4 = some (.lst (nms3.map V.str)) := by
    rw [h4, List.take_of_length_le (by simp), nms3, List.map_map]; rfl
  refine ⟨p3, D4, _, _, rfl, rfl, s4 _ _ e3, e4, by simp [nms1, nms2, nms3, lets_len]; decide, fun l hl => ?_⟩
  have e5 : upd H4 l (.lst ((nms1 ++ nms2).map V.str ++ nms3.map V.str)) l = some (.lst (nmsAll.map V.str)) := by rw [upd_same, ← List.map_append]; rfl
  have s5 : Same H (upd H4 l (.lst ((nms1 ++ nms2).map V.str ++ nms3.map V.str))) := (((s1.trans s2).trans s3).trans s4).trans (same_new hl _)
  have hl0 : H l = none := (((s1.trans s2).trans s3).trans s4).free hl
  generalize upd H4 l (.lst ((nms1 ++ nms2).map V.str ++ nms3.map V.str)) = H5 at e5 s5
  have hD5 := hD.same s5
  obtain ⟨nd, nd0, ndd⟩ := hD.at
  have ld : l ≠ d := fun z => nd (z ▸ hl0)
  have ld0 : l ≠ d0 := fun z => nd0 (z ▸ hl0)
  -- so many are drawn
  refine ⟨_, rfl, _, rfl, by omega, by omega, fun D hD' => ?_⟩
  have DH : H D = none := s5.free hD'
  have Dd : D ≠ d := fun z => nd (z ▸ DH)
  have Dd0 : D ≠ d0 := fun z => nd0 (z ▸ DH)
  have lD : l ≠ D := ne_of_none e5 hD'
  refine lc_range (lo := 0) (n := k.toNat) (fun i H' => ∃ left ys : List Str, H' l = some (.lst (left.map V.str)) ∧ H' D = some (.lst (ys.map V.str)) ∧ ys.length = i ∧ left.length + i = 78 ∧ (left ++ ys).all isThingS = true ∧ (left ++ ys).Nodup ∧
      Chg d d0 H H' ∧ Dice H' d d0 (N + i)) ⟨nmsAll, [], ?_, upd_same, rfl, nmsAll_len, by rw [List.append_nil]; exact nmsAll_ok, by rw [List.append_nil]; exact nmsAll_nodup, (Chg.of s5).updn DH _, hD5.upd Dd Dd0⟩ ?_ ?_
  · rw [upd_ne lD]; exact e5
  · rintro i H6 hi ⟨left, ys, h1, h2, h3, h4, h5, h6, h7, h8⟩
    have lp : left.length = 78 - i := by omega
    refine ⟨rfl, _, rfl, .inl ⟨rfl, _, SqL.of h1⟩, _, rfl, _, rfl, _, _, rfl, .inl (SqL.of h1), d, d0, N + i, _, rfl, h8, by omega, ?_, ?_, fun r H7 r1 r2 c7 d7 => ?_⟩
    · rw [List.length_map]; omega
    · rw [List.length_map]; omega
    rw [List.length_map] at r2
    have h17 := c7 _ _ ld ld0 h1
    have h27 := c7 _ _ Dd Dd0 h2
    have rl : r.toNat < left.length := by omega
    refine ⟨l, _, r, r.toNat, .str left[r.toNat], rfl, rfl, h17, by omega, by omega, ?_, by simp [rl], ?_⟩
    · rw [List.length_map]
      unfold seqIndex?
      have a1 : ¬ r < 0 := by omega
      have a2 : r < (left.length : Int) := by omega
      simp [a1, a2, r1]
    refine ⟨_, by rw [upd_ne lD.symm]; exact h27, ?_, left.eraseIdx r.toNat, ys ++ [left[r.toNat]], ?_, ?_, by simp [h3], ?_, ?_, ?_, ?_, ?_⟩
    · rw [List.length_map]; exact Nat.lt_of_le_of_lt (show _ ≤ 100 by omega) (by decide)
    · rw [upd_ne lD, upd_same, map_erase]
    · rw [upd_same, List.map_append]; rfl
    · rw [List.length_eraseIdx, if_pos rl]; omega
    · have pm : (left.eraseIdx r.toNat ++ (ys ++ [left[r.toNat]])).Perm (left ++ ys) := by
        refine List.Perm.trans (List.perm_append_comm.trans ?_) (List.Perm.append_right ys (perm_erase rl))
        simp only [List.append_assoc, List.singleton_append, List.cons_append]
        exact (List.perm_append_comm (l₁ := ys) (l₂ := left[r.toNat] :: left.eraseIdx r.toNat)).trans (by simp)
      rw [List.all_eq_true] at h5 ⊢
      exact fun x hx => h5 x (pm.mem_iff.mp hx)
    · have pm : (left.eraseIdx r.toNat ++ (ys ++ [left[r.toNat]])).Perm (left ++ ys) := by
        refine List.Perm.trans (List.perm_append_comm.trans ?_) (List.Perm.append_right ys (perm_erase rl))
        simp only [List.append_assoc, List.singleton_append, List.cons_append]
        exact (List.perm_append_comm (l₁ := ys) (l₂ := left[r.toNat] :: left.eraseIdx r.toNat)).trans (by simp)
      exact pm.nodup_iff.mpr h6
    · exact ((h7.trans c7).updn hl0 _).updn DH _
    · exact (d7.upd ld ld0).upd Dd Dd0
  · rintro H6 ⟨left, ys, h1, h2, h3, h4, h5, h6, h7, h8⟩
    rw [List.all_append, Bool.and_eq_true] at h5
    exact q D H6 ys (by omega) h5.2 (List.nodup_append.mp h6).2.1 DH h7 h2 Dd Dd0 (h8.mono (by omega))
end
end K00

set_option Elab.async false
set_option linter.all false
set_option maxRecDepth 100000
set_option maxHeartbeats 4000000
namespace MC
open PySem PySem.Spec L2
mutual
/-- a part of a row in lists, said at most B times -/
def lineP (B : Int) : PyData → Bool
  | .str z => isThingS z
  | .tuple [.list ys, .int t] => decide (1 ≤ t) && decide (t ≤ B) && !ys.isEmpty && lineL B ys
  | _ => false
def lineL (B : Int) : List PyData → Bool
  | [] => true
  | x :: xs => lineP B x && lineL B xs
end
theorem lineL_append (B : Int) (xs ys : List PyData) : lineL B (xs ++ ys) = (lineL B xs && lineL B ys) := by
  induction xs with
  | nil => simp [lineL]
  | cons x xs ih => simp only [List.cons_append, lineL, ih, Bool.and_assoc]
theorem okS {z : Str} (h : isThingS z = true) : okD (.str z) = true := by
  unfold isThingS at h
  simp only [Bool.and_eq_true, decide_eq_true_eq, List.all_eq_true] at h
  simp only [okD, Bool.and_eq_true, decide_eq_true_eq, List.all_eq_true]
  refine ⟨by omega, fun c hc => ?_⟩
  have q := h.2 c hc
  unfold isSign at q
  simp only [Bool.and_eq_true, decide_eq_true_eq] at q
  exact Nat.lt_of_le_of_lt q.2 (by decide)
/-- how many rolls a row wants -/
def rolls : Nat → Nat
  | 0 => 40
  | l + 1 => 6 * rolls l
theorem rolls_ge (l : Nat) : 40 ≤ rolls l := by
  induction l with
  | zero => exact Nat.le_refl _
  | succ l ih => show 40 ≤ 6 * rolls l; omega
def cost : Nat → Nat
  | 0 => 2
  | l + 1 => 5 + rolls l
theorem cost_ok (l : Nat) : 1 + 5 * cost l ≤ rolls l := by
  cases l with
  | zero => decide
  | succ l =>
    have := rolls_ge l
    show 1 + 5 * (5 + rolls l) ≤ 6 * rolls l
    omega
/-- what is new in H beside H0 -/
def New (H0 H : Hp) : Hp := fun a => if H0 a = none then H a else none
theorem new_some {H0 H : Hp} {a : Addr} {o : HO} (h : New H0 H a = some o) : H0 a = none ∧ H a = some o := by
  unfold New at h
  by_cases q : H0 a = none
  · rw [if_pos q] at h; exact ⟨q, h⟩
  · rw [if_neg q] at h; cases h
theorem new_at {H0 H : Hp} {a : Addr} (h : H0 a = none) : New H0 H a = H a := if_pos h
theorem new_same {H0 H : Hp} : Same (New H0 H) H := fun b o h => (new_some h).2
theorem new_step {S : List Addr} {H0 H H' : Hp} (hS : ∀ a ∈ S, H0 a ≠ none) (e : Same (Hid S H) (Hid S H')) : Same (New H0 H) (New H0 H') := fun b o h => by
  obtain ⟨h1, h2⟩ := new_some h
  have n : b ∉ S := fun z => hS b z h1
  have q := e b o (by rw [hid_out n]; exact h2)
  rw [hid_out n] at q
  rw [new_at h1]; exact q
theorem new_of {H0 H H' : Hp} (e : Same H H') : Same (New H0 H) (New H0 H') := fun b o h => by
  obtain ⟨h1, h2⟩ := new_some h
  rw [new_at h1]; exact e _ _ h2
theorem new_dom {H0 H1 H' : Hp} (h : ∀ a, H1 a = none → H0 a = none) : Same (New H1 H') (New H0 H') := fun b o e => by
  obtain ⟨h1, h2⟩ := new_some e
  rw [new_at (h _ h1)]; exact h2
/-- .. but what stands at f -/
theorem newf_dom {H0 H1 H' : Hp} {f : Addr} (h : ∀ a, H1 a = none → H0 a = none) (hf : H1 f ≠ none) : Same (New H1 H') (Hid [f] (New H0 H')) := fun b o e => by
  obtain ⟨h1, h2⟩ := new_some e
  rw [hid_out (fun z => hf (by rw [← List.mem_singleton.mp z]; exact h1)), new_at (h _ h1)]; exact h2
theorem newf_upd {H0 H : Hp} {f : Addr} (o : HO) : Same (Hid [f] (New H0 H)) (Hid [f] (New H0 (upd H f o))) := fun b u h => by
  obtain ⟨h1, h2⟩ := hid_some h
  obtain ⟨h3, h4⟩ := new_some h2
  rw [hid_out h1, new_at h3, upd_ne (fun z => h1 (by rw [z]; simp))]; exact h4
theorem dom_of {S : List Addr} {H H' : Hp} (e : Same (Hid S H) (Hid S H')) (hS : ∀ a ∈ S, H' a ≠ none) : ∀ a, H' a = none → H a = none := fun a h => hid_free e h (fun z => hS a z h)
end MC
namespace K00
open PySem PySem.Spec L2 MC
open PyProof.Rows hiding St
def spRow (n : Nat) : Sp := fun vs H Q _ => ∃ (d d0 nm pl : Addr) (N l : Nat) (ys : List Str) (a B : Int), vs = [.ref d, .ref nm, .ref pl, .int l] ∧ pl ≠ d0 ∧ Dice H d d0 N ∧ N + rolls l ≤ 10 ^ 11 ∧ l < n ∧ l ≤ 4 ∧
  H nm = some (.lst (ys.map V.str)) ∧ ys ≠ [] ∧ ys.length ≤ 78 ∧ ys.all isThingS = true ∧ H pl = some (.lst [.int a, .int B]) ∧ 0 ≤ a ∧ a ≤ 100 ∧ 2 ≤ B ∧ B ≤ 10 ^ 30 ∧
  ∀ p H' ds (a' : Int), Same (Hid [d, d0, pl] H) (Hid [d, d0, pl] H') → Dice H' d d0 (N + rolls l) → H' pl = some (.lst [.int a', .int B]) → 0 ≤ a' → a' ≤ a → DD (New H H') (.ref p) (.list ds) →
    lineL (max B 5) ds = true → oksD ds = true → (wDs ds : Int) ≤ 4 * (a - a') → PyData.depthAll ds ≤ 2 * l → ds.length ≤ 5 → Q (.ref p) H'
section
variable {P : Program} {w : World} {K : PySem.W.Frag} {mg : Str → Option Value} {base : Heap}
variable {f_l_roll f_l_row : Addr} {fd_l_roll fd_l_row : FuncData}
theorem row_none : FnOk P w K mg base CX0 1 f_l_row fd_l_row ["_law_dice_here", "_law_names_here", "_law_plan", "_law_layers"] (spRow 0) := by
  have no : ∀ vs H Q E, ¬ spRow 0 vs H Q E := fun vs H Q E h => by
    obtain ⟨d, d0, nm, pl, N, l, ys, a, B, _, _, _, _, h0, _⟩ := h
    exact absurd h0 (Nat.not_lt_zero _)
  exact ⟨fun vs H Q E h => absurd h (no vs H Q E), fun A outer s H args us vs Q E _ _ _ _ h => absurd h (no vs H Q E)⟩
theorem row_step {n : Nat} (T : Txt K mg) (G_l_roll : FnOk P w K mg base CX0 1 f_l_roll fd_l_roll ["_law_dice_here", "_law_many"] spRoll) (O_l_roll : Own K mg "_law_roll" s_l_roll f_l_roll fd_l_roll ["_law_dice_here", "_law_many"]) (O_l_row : Own K mg "_law_row" s_l_row f_l_row fd_l_row ["_law_dice_here", "_law_names_here", "_law_plan", "_law_layers"])
    (G_l_row : FnOk P w K mg base CX0 (n + 1) f_l_row fd_l_row ["_law_dice_here", "_law_names_here", "_law_plan", "_law_layers"] (spRow n)) : FnOk P w K mg base CX0 (n + 1 + 1) f_l_row fd_l_row ["_law_dice_here", "_law_names_here", "_law_plan", "_law_layers"] (spRow (n + 1)) := by
  refine O_l_row.F.ok sc_l_row (fun vs H Q E h => by obtain ⟨d, d0, nm, pl, N, l, ys, a, B, rfl, _⟩ := h; rfl) (fun cdv A outer s H vs Q E hr h => ?_)
  obtain ⟨d, d0, nm, pl, N, l, ys, a, B, rfl, npd0, hD, hN, ln, l4, hnm, hne, hyl, hys, hpl, a0, a1, B2, B3, q⟩ := h
  have hu1 : (A.deeper (envOfC "_law_row" (defScope s_l_row) s.heap.objs.size f_l_row cdv)).units < cLine := by have := hr.un; omega
  refine ⟨_, (pss_cons (ps_set (i := 4) sc_l_row.nd rfl (Or.inl rfl) (pe_lst pa_nil))
    (pss_cons (ps_for PassesOwn.never rfl (pi_range1 (by rfl) T.n_range (pa_cons (pe_op op_add pe_int (pe_call G_l_roll (hr.mono (by omega)) rfl O_l_roll.m O_l_roll.F.kp O_l_roll.b .nil pass0 (pa_cons (pv 0) (pa_cons pe_int pa_nil)))) pa_nil)) (pg_name (i := 5) sc_l_row.nd rfl (Or.inl rfl))
    (pss_cons (ps_set (i := 6) sc_l_row.nd rfl (Or.inl rfl) (pe_ix (k_ix_list (K := K) rfl) (pv 1) (pe_call G_l_roll (hr.mono (by omega)) rfl O_l_roll.m O_l_roll.F.kp O_l_roll.b .nil pass0 (pa_cons (pv 0) (pa_cons (pe_callB (k_len_seq (K := K) rfl) (by rfl) T.n_len (by decide +kernel) (pa_cons (pv 1) pa_nil)) pa_nil))) (fun _ _ => rfl)))
    (pss_cons (ps_set (i := 7) sc_l_row.nd rfl (Or.inl rfl) (pe_and (pe_cmpR op_gt (pv 3) pe_int (nomark _)) (pe_one (pe_cmpR op_eq (pe_call G_l_roll (hr.mono (by omega)) rfl O_l_roll.m O_l_roll.F.kp O_l_roll.b .nil pass0 (pa_cons (pv 0) (pa_cons pe_int pa_nil))) pe_int (nomark _)))))
    (pss_one (ps_if (PW.pt (pw_and (pt_cmpR op_gt (pe_ix (k_ix_list (K := K) rfl) (pv 2) pe_int (fun _ _ => rfl)) pe_int (nomark _)) (pw_and1 (pt_val (pv 7)))))
    (pss_cons (ps_asg (pe_op op_sub (pe_ix (k_ix_list (K := K) rfl) (pv 2) pe_int (fun _ _ => rfl)) pe_int) (pg_sub (pv 2) pe_int set_list))
    (pss_cons (ps_set (i := 8) sc_l_row.nd rfl (Or.inl rfl) (pe_call G_l_row (hr.mono (by omega)) rfl O_l_row.m O_l_row.F.kp O_l_row.b .nil pass0 (pa_cons (pv 0) (pa_cons (pv 1) (pa_cons (pv 2) (pa_cons (pe_op op_sub (pv 3) pe_int) pa_nil))))))
    (pss_cons (ps_set (i := 9) sc_l_row.nd rfl (Or.inl rfl) (pe_ix (k_ix_list (K := K) rfl) (pe_lst (pa_cons pe_int (pa_cons pe_int (pa_cons (pe_op op_add pe_int (pe_call G_l_roll (hr.mono (by omega)) rfl O_l_roll.m O_l_roll.F.kp O_l_roll.b .nil pass0 (pa_cons (pv 0) (pa_cons pe_int pa_nil)))) (pa_cons (pe_op op_add pe_int (pe_call G_l_roll (hr.mono (by omega)) rfl O_l_roll.m O_l_roll.F.kp O_l_roll.b .nil pass0 (pa_cons (pv 0) (pa_cons (pe_ix (k_ix_list (K := K) rfl) (pv 2) pe_int (fun _ _ => rfl)) pa_nil)))) pa_nil))))) (pe_call G_l_roll (hr.mono (by omega)) rfl O_l_roll.m O_l_roll.F.kp O_l_roll.b .nil pass0 (pa_cons (pv 0) (pa_cons pe_int pa_nil))) (fun _ _ => rfl)))
    (pss_one (ps_expr (k_bm (K := K) rfl (pe_bm PySem.F.plainAttrs_list PySem.F.slot_list_append PySem.F.type_list_append mt_append (pv 4) (pa_cons (pe_tup (pa_cons (pe_ifExp (pt_cmpR (k_neNil (K := K) rfl hu1) (pv 8) (pe_lst pa_nil) (nomark _)) (pv 8) (pe_lst (pa_cons (pv 6) pa_nil))) (pa_cons (pv 9) pa_nil))) pa_nil))))))))
    (pss_one (ps_if (pt_cmpR op_gt (pe_ix (k_ix_list (K := K) rfl) (pv 2) pe_int (fun _ _ => rfl)) pe_int (nomark _))
    (pss_cons (ps_asg (pe_op op_sub (pe_ix (k_ix_list (K := K) rfl) (pv 2) pe_int (fun _ _ => rfl)) pe_int) (pg_sub (pv 2) pe_int set_list))
    (pss_one (ps_expr (k_bm (K := K) rfl (pe_bm PySem.F.plainAttrs_list PySem.F.slot_list_append PySem.F.type_list_append mt_append (pv 4) (pa_cons (pv 6) pa_nil))))))
    pss_nil)))))))
    (pss_one (ps_ret (pv 4))))), ?_⟩
  obtain ⟨nd, nd0, ndd⟩ := hD.at
  have npd : pl ≠ d := fun z => by
    obtain ⟨gs, m, k, h1, _⟩ := hD
    rw [← z, hpl] at h1; cases h1
  have hS : ∀ x ∈ [d, d0, pl], H x ≠ none := by
    intro x hx
    simp only [List.mem_cons, List.not_mem_nil, or_false] at hx
    rcases hx with rfl | rfl | rfl
    · exact nd
    · exact nd0
    · rw [hpl]; exact fun z => nomatch z
  obtain ⟨y0, yr, rfl⟩ := List.exists_cons_of_ne_nil hne
  have nnd : nm ≠ d := fun z => by
    obtain ⟨gs, m, k, h1, _⟩ := hD
    rw [← z, hnm] at h1; cases h1
  have nnd0 : nm ≠ d0 := fun z => by
    obtain ⟨gs, m, k, _, h1, _⟩ := hD
    rw [← z, hnm] at h1
    injection h1 with h1
    injection h1 with h1
    cases gs <;> cases h1
  have nnp : nm ≠ pl := fun z => by rw [← z, hnm] at hpl; cases hpl
  have nmS : nm ∉ [d, d0, pl] := by simp [nnd, nnd0, nnp]
  generalize hys' : y0 :: yr = ys at hnm hne hyl hys
  have yl1 : 1 ≤ ys.length := by rw [← hys']; simp
  -- found = []
  refine ⟨Nat.zero_le _, fun f hf => ?_⟩
  have fd : f ≠ d := fun z => nd (z ▸ hf)
  have fd0 : f ≠ d0 := fun z => nd0 (z ▸ hf)
  have fp : f ≠ pl := fun z => by rw [← z, hf] at hpl; cases hpl
  have fS : f ∉ [d, d0, pl] := by simp [fd, fd0, fp]
  have s0 := same_new hf (.lst [])
  have ef : upd H f (.lst []) f = some (.lst []) := upd_same
  have hD0 := hD.same s0
  generalize upd H f (.lst []) = H0 at s0 ef hD0
  refine ⟨_, rfl, d, d0, N, 5, rfl, hD0, by omega, by omega, by omega, fun r H1 r0 r5 c1 d1 => ⟨_, _, rfl, rfl, _, rfl, by omega, by omega, ?_⟩⟩
  have t1 : Same (Hid [d, d0, pl] H) (Hid [d, d0, pl] H1) := (Same.hid s0).trans (c1.hid (by simp) (by simp))
  refine for_range (lo := 0) (n := (1 + r).toNat) (fun i σ H' => ∃ (xs : List V) (ds : List PyData) (a' : Int) (s5 s6 s7 s8 s9 : Option V), σ = [some (.ref d), some (.ref nm), some (.ref pl), some (.int l), some (.ref f), s5, s6, s7, s8, s9] ∧
      Same (Hid [d, d0, pl] H) (Hid [d, d0, pl] H') ∧ H' f = some (.lst xs) ∧ DDs (Hid [f] (New H H')) xs ds ∧ lineL (max B 5) ds = true ∧ oksD ds = true ∧ H' pl = some (.lst [.int a', .int B]) ∧ 0 ≤ a' ∧ a' ≤ a ∧
      (wDs ds : Int) ≤ 4 * (a - a') ∧ PyData.depthAll ds ≤ 2 * l ∧ ds.length ≤ i ∧ Dice H' d d0 (N + 1 + i * cost l))
    ⟨[], [], a, _, _, _, _, _, rfl, t1, c1 _ _ fd fd0 ef, .nil, rfl, rfl, ?_, a0, Int.le_refl _, ?_, Nat.zero_le _, Nat.le_refl _, ?_⟩ ?_ ?_
  · exact c1 _ _ npd npd0 (s0 _ _ hpl)
  · show ((0 : Nat) : Int) ≤ _; omega
  · simpa using d1
  · rintro i σ H2 hi ⟨xs, ds, a', s5, s6, s7, s8, s9, rfl, t2, hf2, hds, hln, hok, hp2, a2, a3, hw, hdp, hlen, hD2⟩
    have i5 : i < 5 := by omega
    have ci : i * cost l ≤ 4 * cost l := Nat.mul_le_mul_right _ (by omega)
    have cl : cost l ≤ 10 ^ 6 := by
      have : l = 0 ∨ l = 1 ∨ l = 2 ∨ l = 3 ∨ l = 4 := by omega
      rcases this with rfl | rfl | rfl | rfl | rfl <;> decide
    have cc := cost_ok l
    have e1 : (i + 1) * cost l = i * cost l + cost l := Nat.succ_mul _ _
    have c2 : 2 ≤ cost l := by
      cases l with
      | zero => decide
      | succ m => show 2 ≤ 5 + rolls m; omega
    have nm2 : H2 nm = some (.lst (ys.map V.str)) := by
      have q := t2 nm _ (by rw [hid_out nmS]; exact hnm)
      rw [hid_out nmS] at q; exact q
    -- name
    refine ⟨_, rfl, _, rfl, _, rfl, _, _, rfl, .inl (SqL.of nm2), d, d0, _, _, rfl, hD2, by omega, by rw [List.length_map]; omega, by rw [List.length_map]; omega, fun r1 H3 r10 r11 c3 d3 => ?_⟩
    rw [List.length_map] at r11
    have rl : r1.toNat < ys.length := by omega
    refine ⟨_, _, _, .str ys[r1.toNat], rfl, rfl, SqL.of (c3 _ _ nnd nnd0 nm2), ?_, ?_⟩
    · have := atI_nat (xs := ys.map V.str) (j := r1.toNat) (v := .str ys[r1.toNat]) (by simp [rl])
      rwa [show ((r1.toNat : Nat) : Int) = r1 by omega] at this
    have hname : isThingS ys[r1.toNat] = true := List.all_eq_true.mp hys _ (List.getElem_mem rl)
    generalize ys[r1.toNat] = y at hname
    have t3 := t2.trans (c3.hid (by simp) (by simp))
    have hf3 := c3 _ _ fd fd0 hf2
    have hds3 := hds.mono (Same.hid (new_step hS (c3.hid (S := [d, d0, pl]) (by simp) (by simp))))
    have hp3 := c3 _ _ npd npd0 hp2
    -- again
    refine ⟨_, rfl, _, _, rfl, rfl, _, rfl, ?_⟩
    refine ite2 (fun k1 => ?_) (fun k1 => ?_)
    · obtain ⟨m, rfl⟩ : ∃ m, l = m + 1 := ⟨l - 1, by have : (0 : Int) < l := by simpa using k1
                                                     omega⟩
      have cm : cost (m + 1) = 5 + rolls m := rfl
      refine ⟨_, rfl, d, d0, _, 3, rfl, d3, by omega, by omega, by omega, fun r2 H4 r20 r21 c4 d4 => ⟨rfl, ?_⟩⟩
      have t4 := t3.trans (c4.hid (by simp) (by simp))
      have hf4 := c4 _ _ fd fd0 hf3
      have hds4 := hds3.mono (Same.hid (new_step hS (c4.hid (S := [d, d0, pl]) (by simp) (by simp))))
      have hp4 := c4 _ _ npd npd0 hp3
      have nm4 := c4 _ _ nnd nnd0 (c3 _ _ nnd nnd0 nm2)
      refine ⟨_, rfl, _, _, _, _, rfl, rfl, SqL.of hp4, atI_nat (j := 0) rfl, _, _, rfl, rfl, _, rfl, ?_⟩
      refine ite2 (fun k2 => ?_) (fun k2 => ?_)
      · have ap : 0 < a' := by simpa using k2
        refine ⟨_, rfl, _, rfl, ?_⟩
        refine ite2 (fun k3 => ?_) (fun k3 => ?_)
        · -- an again
          have u1 : Same (Hid [d, d0, pl] H4) (Hid [d, d0, pl] (upd H4 pl (.lst ([V.int a', V.int B].set 0 (.int (a' - 1)))))) := hid_upd (Same.refl _) (by simp) _
          refine ⟨_, rfl, _, _, _, _, rfl, rfl, SqL.of hp4, atI_nat (j := 0) rfl, _, _, rfl, rfl, _, rfl, _, _, _, 0, rfl, rfl, hp4, rfl, ?_⟩
          have hf5 : upd H4 pl (.lst ([V.int a', V.int B].set 0 (.int (a' - 1)))) f = some (.lst xs) := by rw [upd_ne fp]; exact hf4
          have nm5 : upd H4 pl (.lst ([V.int a', V.int B].set 0 (.int (a' - 1)))) nm = some (.lst (ys.map V.str)) := by rw [upd_ne nnp]; exact nm4
          have hp5 : upd H4 pl (.lst ([V.int a', V.int B].set 0 (.int (a' - 1)))) pl = some (.lst [.int (a' - 1), .int B]) := upd_same
          have d5 := d4.upd (o := .lst ([V.int a', V.int B].set 0 (.int (a' - 1)))) npd npd0
          have hds5 := hds4.mono (Same.hid (new_step hS u1))
          have t5 := t4.trans u1
          generalize upd H4 pl (.lst ([V.int a', V.int B].set 0 (.int (a' - 1)))) = H5 at hf5 nm5 hp5 d5 hds5 t5
          -- the row within
          refine ⟨_, rfl, _, rfl, _, rfl, _, rfl, _, _, rfl, rfl, d, d0, nm, pl, _, m, ys, a' - 1, B, ?_, npd0, d5, by omega, by omega, by omega, nm5, hne, hyl, hys, hp5, by omega, by omega, B2, B3,
            fun pi H6 di a6 c6 d6 hp6 a60 a61 hdi lni oki wi dpi leni => ?_⟩
          · show [V.ref d, V.ref nm, V.ref pl, V.int (((m + 1 : Nat) : Int) - 1)] = _
            rw [show ((m + 1 : Nat) : Int) - 1 = (m : Int) by omega]
          have t6 := t5.trans c6
          have hS5 : ∀ x ∈ [d, d0, pl], H5 x ≠ none := by
            intro x hx
            simp only [List.mem_cons, List.not_mem_nil, or_false] at hx
            rcases hx with rfl | rfl | rfl
            · exact d5.at.1
            · exact d5.at.2.1
            · rw [hp5]; exact fun z => nomatch z
          have cS : ∀ {z : Addr} {o : HO}, z ∉ [d, d0, pl] → H5 z = some o → H6 z = some o := fun {z o} hz h => by
            have q := c6 z o (by rw [hid_out hz]; exact h)
            rw [hid_out hz] at q; exact q
          have hf6 := cS fS hf5
          have hds6 := hds5.mono (Same.hid (new_step hS c6))
          have inn : DD (Hid [f] (New H H6)) (.ref pi) (.list di) := hdi.mono (newf_dom (dom_of t5 hS5) (by rw [hf5]; exact fun z => nomatch z))
          -- times
          refine ⟨_, rfl, d, d0, _, 4, rfl, d6, by omega, by omega, by omega, fun r4 H7 r40 r41 c7 d7 => ⟨_, _, rfl, rfl, ?_⟩⟩
          have hp7 := c7 _ _ npd npd0 hp6
          refine ⟨_, rfl, _, rfl, _, _, _, _, rfl, rfl, SqL.of hp7, atI_nat (j := 1) rfl, d, d0, _, B, rfl, d7, by omega, by omega, by omega, fun r5 H8 r50 r51 c8 d8 => ⟨_, _, rfl, rfl, (by show 4 ≤ sizeLine; decide), fun tl htl => ?_⟩⟩
          have sl := same_new htl (.lst [V.int 1, V.int 2, V.int (2 + r4), V.int (1 + r5)])
          refine ⟨_, rfl, d, d0, _, 4, rfl, d8.same sl, by omega, by omega, by omega, fun r6 H9 r60 r61 c9 d9 => ?_⟩
          have nd8 := d8.at
          have etl := c9 tl _ (fun z => nd8.1 (z ▸ htl)) (fun z => nd8.2.1 (z ▸ htl)) upd_same
          obtain ⟨tt, htt, tt1, tt2⟩ : ∃ tt : Int, atI [V.int 1, V.int 2, V.int (2 + r4), V.int (1 + r5)] r6 = some (.int tt) ∧ 1 ≤ tt ∧ tt ≤ max B 5 := by
            have : r6 = 0 ∨ r6 = 1 ∨ r6 = 2 ∨ r6 = 3 := by omega
            rcases this with rfl | rfl | rfl | rfl
            · exact ⟨1, rfl, by omega, by omega⟩
            · exact ⟨2, rfl, by omega, by omega⟩
            · exact ⟨2 + r4, rfl, by omega, by omega⟩
            · exact ⟨1 + r5, rfl, by omega, by omega⟩
          refine ⟨_, _, _, _, rfl, rfl, SqL.of etl, htt, ?_⟩
          have cc : Same (Hid [d, d0, pl] H6) (Hid [d, d0, pl] H9) := ((c7.hid (by simp) (by simp)).trans (c8.hid (by simp) (by simp))).trans ((Same.hid sl).trans (c9.hid (by simp) (by simp)))
          have t9 := t6.trans cc
          have hf9 := c9 _ _ fd fd0 (sl _ _ (c8 _ _ fd fd0 (c7 _ _ fd fd0 hf6)))
          have hp9 := c9 _ _ npd npd0 (sl _ _ (c8 _ _ npd npd0 hp7))
          have hds9 := hds6.mono (Same.hid (new_step hS cc))
          have inn9 := inn.mono (Same.hid (new_step hS cc))
          have okt : okD (.int tt) = true := by simp only [okD, decide_eq_true_eq]; omega
          -- found.append((.., times))
          refine ⟨_, rfl, .inl ⟨rfl, _, SqL.of hf9⟩, ?_⟩
          cases inn9 with
          | @lst ai xi _ hai hxi =>
          have hai9 := (new_some (hid_some hai).2).2
          refine ⟨_, rfl, Nat.zero_le _, fun e he => ⟨_, _, _, rfl, rfl, SqL.of (same_new he _ _ _ hai9), upd_same, _, rfl, ?_⟩⟩
          have se := same_new he (.lst [])
          -- what is said over: its row, as data
          refine ite2 (fun k5 => ?_) (fun k5 => ?_)
          · refine ⟨_, rfl, _, rfl, (by show 2 ≤ sizeLine; decide), fun tp htp => ?_⟩
            have st := se.trans (same_new htp (.tup [.ref pi, .int tt]))
            have hfq : upd (upd H9 e (.lst [])) tp (.tup [.ref pi, .int tt]) f = some (.lst xs) := st _ _ hf9
            refine ⟨_, _, _, rfl, rfl, hfq, ?_, ?_⟩
            · rw [hds.length]; exact Nat.lt_of_le_of_lt (show _ ≤ 100 by omega) (by decide)
            have ntp0 : H tp = none := hid_free (t9.trans (Same.hid se)) htp (fun z => by
              have := (d9.same se).at
              simp only [List.mem_cons, List.not_mem_nil, or_false] at z
              rcases z with rfl | rfl | rfl
              · exact this.1 htp
              · exact this.2.1 htp
              · rw [se _ _ hp9] at htp; cases htp)
            have ntf : tp ≠ f := fun z => by rw [z, se _ _ hf9] at htp; cases htp
            have nb : ∀ o, Hid [f] (New H (upd (upd (upd H9 e (.lst [])) tp (.tup [.ref pi, .int tt])) f o)) tp = some (.tup [.ref pi, .int tt]) := fun o => by
              rw [hid_out (by simpa using ntf), new_at ntp0, upd_ne ntf, upd_same]
            have mv : ∀ o, Same (Hid [f] (New H H9)) (Hid [f] (New H (upd (upd (upd H9 e (.lst [])) tp (.tup [.ref pi, .int tt])) f o))) := fun o => (Same.hid (new_of st)).trans (newf_upd _)
            have nem : di.isEmpty = false := by
              have l1 := hxi.length
              cases di with
              | nil => simp [List.length_eq_zero_iff.mp l1] at k5
              | cons _ _ => rfl
            refine ⟨xs ++ [.ref tp], ds ++ [.tuple [.list di, .int tt]], a6, _, _, _, _, _, rfl, hid_new (t9.trans (Same.hid st)) (hid_none hf) _, upd_same, ?_, ?_, ?_, ?_, by omega, by omega, ?_, ?_, ?_, ?_⟩
            · exact (hds9.mono (mv _)).append (.cons (.tup (nb _) (.cons (.lst (mv _ _ _ hai) (hxi.mono (mv _))) (.cons (.int tt) .nil))) .nil)
            · rw [lineL_append, hln]
              have h1 : decide (1 ≤ tt) = true := decide_eq_true tt1
              have h2 : decide (tt ≤ max B 5) = true := decide_eq_true tt2
              simp [lineL, lineP, h1, h2, nem, lni]
            · rw [oksD_append, hok]; simp [oksD, okD] at okt ⊢; exact ⟨oki, okt⟩
            · rw [upd_ne fp.symm]; exact st _ _ hp9
            · rw [wDs_append]; simp only [wDs, wD]; omega
            · rw [depthAll_append]; simp only [PyData.depthAll, PyData.depth]; omega
            · simp; omega
            · have := rolls_ge m
              exact ((d9.same st).upd fd fd0).mono (by omega)
          · refine ⟨_, rfl, (by show 1 ≤ sizeLine; decide), fun w1 hw1 => ⟨_, rfl, (by show 2 ≤ sizeLine; decide), fun tp htp => ?_⟩⟩
            have sw := se.trans (same_new hw1 (.lst [.str y]))
            have st := sw.trans (same_new htp (.tup [.ref w1, .int tt]))
            have hfq : upd (upd (upd H9 e (.lst [])) w1 (.lst [.str y])) tp (.tup [.ref w1, .int tt]) f = some (.lst xs) := st _ _ hf9
            refine ⟨_, _, _, rfl, rfl, hfq, ?_, ?_⟩
            · rw [hds.length]; exact Nat.lt_of_le_of_lt (show _ ≤ 100 by omega) (by decide)
            have free : ∀ {H' : Hp} {z : Addr}, Same H9 H' → H' z = none → H z = none ∧ z ≠ f := fun {H' z} hs hz => by
              refine ⟨hid_free (t9.trans (Same.hid hs)) hz (fun u => ?_), fun u => by rw [u, hs _ _ hf9] at hz; cases hz⟩
              have := (d9.same hs).at
              simp only [List.mem_cons, List.not_mem_nil, or_false] at u
              rcases u with rfl | rfl | rfl
              · exact this.1 hz
              · exact this.2.1 hz
              · rw [hs _ _ hp9] at hz; cases hz
            obtain ⟨nw0, nwf⟩ := free se hw1
            obtain ⟨ntp0, ntf⟩ := free sw htp
            have nwt : w1 ≠ tp := ne_of_none upd_same htp
            have nb : ∀ o, Hid [f] (New H (upd (upd (upd (upd H9 e (.lst [])) w1 (.lst [.str y])) tp (.tup [.ref w1, .int tt])) f o)) tp = some (.tup [.ref w1, .int tt]) := fun o => by
              rw [hid_out (by simpa using ntf), new_at ntp0, upd_ne ntf, upd_same]
            have nb2 : ∀ o, Hid [f] (New H (upd (upd (upd (upd H9 e (.lst [])) w1 (.lst [.str y])) tp (.tup [.ref w1, .int tt])) f o)) w1 = some (.lst [.str y]) := fun o => by
              rw [hid_out (by simpa using nwf), new_at nw0, upd_ne nwf, upd_ne nwt, upd_same]
            have mv : ∀ o, Same (Hid [f] (New H H9)) (Hid [f] (New H (upd (upd (upd (upd H9 e (.lst [])) w1 (.lst [.str y])) tp (.tup [.ref w1, .int tt])) f o))) := fun o => (Same.hid (new_of st)).trans (newf_upd _)
            have sok := okS hname
            refine ⟨xs ++ [.ref tp], ds ++ [.tuple [.list [.str y], .int tt]], a6, _, _, _, _, _, rfl, hid_new (t9.trans (Same.hid st)) (hid_none hf) _, upd_same, ?_, ?_, ?_, ?_, by omega, by omega, ?_, ?_, ?_, ?_⟩
            · exact (hds9.mono (mv _)).append (.cons (.tup (nb _) (.cons (.lst (nb2 _) (.cons (.str y) .nil)) (.cons (.int tt) .nil))) .nil)
            · rw [lineL_append, hln]
              have h1 : decide (1 ≤ tt) = true := decide_eq_true tt1
              have h2 : decide (tt ≤ max B 5) = true := decide_eq_true tt2
              simp [lineL, lineP, h1, h2, hname]
            · rw [oksD_append, hok]; simp [oksD, okD] at okt sok ⊢; exact ⟨sok, okt⟩
            · rw [upd_ne fp.symm]; exact st _ _ hp9
            · rw [wDs_append]; simp only [wDs, wD]; omega
            · rw [depthAll_append]; simp only [PyData.depthAll, PyData.depth]; omega
            · simp; omega
            · have := rolls_ge m
              exact ((d9.same st).upd fd fd0).mono (by omega)
        · refine ⟨_, rfl, _, _, _, _, rfl, rfl, SqL.of hp4, atI_nat (j := 0) rfl, _, _, rfl, rfl, _, rfl, ?_⟩
          refine ite2 (fun k4 => ?_) (fun k4 => absurd k2 k4)
          refine ⟨_, rfl, _, _, _, _, rfl, rfl, SqL.of hp4, atI_nat (j := 0) rfl, _, _, rfl, rfl, _, rfl, _, _, _, 0, rfl, rfl, hp4, rfl, ?_⟩
          have w4 : upd H4 pl (.lst ([V.int a', V.int B].set 0 (.int (a' - 1)))) f = some (.lst xs) := by rw [upd_ne fp]; exact hf4
          refine ⟨_, rfl, .inl ⟨rfl, _, SqL.of w4⟩, _, rfl, _, _, _, rfl, rfl, w4, ?_, ?_⟩
          · rw [hds.length]; exact Nat.lt_of_le_of_lt (show _ ≤ 100 by omega) (by decide)
          have u1 : Same (Hid [d, d0, pl] H4) (Hid [d, d0, pl] (upd H4 pl (.lst ([V.int a', V.int B].set 0 (.int (a' - 1)))))) := hid_upd (Same.refl _) (by simp) _
          have sok := okS hname
          refine ⟨xs ++ [.str y], ds ++ [.str y], a' - 1, _, _, _, _, _, rfl, hid_new (t4.trans u1) (hid_none hf) _, upd_same, ?_, ?_, ?_, ?_, by omega, by omega, ?_, ?_, ?_, ?_⟩
          · exact ((hds4.mono (Same.hid (new_step hS u1))).mono (newf_upd _)).append (.cons (.str y) .nil)
          · rw [lineL_append, hln]; simp [lineL, lineP, hname]
          · rw [oksD_append, hok]; simp [oksD, sok]
          · rw [upd_ne fp.symm, upd_same]; rfl
          · rw [wDs_append]; simp only [wDs, wD]; omega
          · rw [depthAll_append]; simp only [PyData.depthAll, PyData.depth]; omega
          · simp; omega
          · exact ((d4.upd npd npd0).upd fd fd0).mono (by omega)
      · refine ⟨_, rfl, _, _, _, _, rfl, rfl, SqL.of hp4, atI_nat (j := 0) rfl, _, _, rfl, rfl, _, rfl, ?_⟩
        refine ite2 (fun k4 => absurd k4 k2) (fun k4 => ?_)
        exact ⟨xs, ds, a', _, _, _, _, _, rfl, t4, hf4, hds4, hln, hok, hp4, a2, a3, hw, hdp, by omega, d4.mono (by omega)⟩
    · have d4 := d3
      have t4 := t3
      have hf4 := hf3
      have hds4 := hds3
      have hp4 := hp3
      clear d3 t3 hf3 hds3 hp3
      revert d4 t4 hf4 hds4 hp4
      generalize H3 = H4
      intro d4 t4 hf4 hds4 hp4
      refine ⟨_, rfl, _, _, _, _, rfl, rfl, SqL.of hp4, atI_nat (j := 0) rfl, _, _, rfl, rfl, _, rfl, ?_⟩
      refine ite2 (fun k2 => ?_) (fun k2 => ?_)
      · have ap : 0 < a' := by simpa using k2
        refine ⟨_, rfl, _, rfl, ?_⟩
        refine ⟨_, rfl, _, _, _, _, rfl, rfl, SqL.of hp4, atI_nat (j := 0) rfl, _, _, rfl, rfl, _, rfl, ?_⟩
        refine ite2 (fun k4 => ?_) (fun k4 => absurd k2 k4)
        refine ⟨_, rfl, _, _, _, _, rfl, rfl, SqL.of hp4, atI_nat (j := 0) rfl, _, _, rfl, rfl, _, rfl, _, _, _, 0, rfl, rfl, hp4, rfl, ?_⟩
        have w4 : upd H4 pl (.lst ([V.int a', V.int B].set 0 (.int (a' - 1)))) f = some (.lst xs) := by rw [upd_ne fp]; exact hf4
        refine ⟨_, rfl, .inl ⟨rfl, _, SqL.of w4⟩, _, rfl, _, _, _, rfl, rfl, w4, ?_, ?_⟩
        · rw [hds.length]; exact Nat.lt_of_le_of_lt (show _ ≤ 100 by omega) (by decide)
        have u1 : Same (Hid [d, d0, pl] H4) (Hid [d, d0, pl] (upd H4 pl (.lst ([V.int a', V.int B].set 0 (.int (a' - 1)))))) := hid_upd (Same.refl _) (by simp) _
        have sok := okS hname
        refine ⟨xs ++ [.str y], ds ++ [.str y], a' - 1, _, _, _, _, _, rfl, hid_new (t4.trans u1) (hid_none hf) _, upd_same, ?_, ?_, ?_, ?_, by omega, by omega, ?_, ?_, ?_, ?_⟩
        · exact ((hds4.mono (Same.hid (new_step hS u1))).mono (newf_upd _)).append (.cons (.str y) .nil)
        · rw [lineL_append, hln]; simp [lineL, lineP, hname]
        · rw [oksD_append, hok]; simp [oksD, sok]
        · rw [upd_ne fp.symm, upd_same]; rfl
        · rw [wDs_append]; simp only [wDs, wD]; omega
        · rw [depthAll_append]; simp only [PyData.depthAll, PyData.depth]; omega
        · simp; omega
        · exact ((d4.upd npd npd0).upd fd fd0).mono (by omega)
      · refine ⟨_, rfl, _, _, _, _, rfl, rfl, SqL.of hp4, atI_nat (j := 0) rfl, _, _, rfl, rfl, _, rfl, ?_⟩
        refine ite2 (fun k4 => absurd k4 k2) (fun k4 => ?_)
        exact ⟨xs, ds, a', _, _, _, _, _, rfl, t4, hf4, hds4, hln, hok, hp4, a2, a3, hw, hdp, by omega, d4.mono (by omega)⟩
  · rintro σ H2 ⟨xs, ds, a', s5, s6, s7, s8, s9, rfl, t2, hf2, hds, hln, hok, hp2, a2, a3, hw, hdp, hlen, hD2⟩
    have cc := cost_ok l
    have ci : (1 + r).toNat * cost l ≤ 5 * cost l := Nat.mul_le_mul_right _ (by omega)
    refine ⟨_, rfl, q f H2 ds a' t2 (hD2.mono (by omega)) hp2 a2 a3 (.lst (xs := xs) (by rw [new_at hf]; exact hf2) (hds.mono hid_same)) hln hok hw hdp (by omega)⟩
end
end K00

set_option Elab.async false
set_option linter.all false
set_option maxRecDepth 100000
set_option maxHeartbeats 4000000
namespace MC
open PySem PySem.Spec L2
mutual
/-- rows in lists alone -/
def undR : PyData → PyData
  | .list xs => .list (undPs xs)
  | .tuple xs => .list (undPs xs)
  | d => d
def undP : PyData → PyData
  | .tuple [r, t] => .tuple [undR r, t]
  | d => d
def undPs : List PyData → List PyData
  | [] => []
  | x :: xs => undP x :: undPs xs
end
theorem undPs_append (xs ys : List PyData) : undPs (xs ++ ys) = undPs xs ++ undPs ys := by
  induction xs with
  | nil => rfl
  | cons x xs ih => simp only [List.cons_append, undPs, ih]
theorem undPs_len (xs : List PyData) : (undPs xs).length = xs.length := by
  induction xs with
  | nil => rfl
  | cons x xs ih => simp only [List.length_cons, undPs, ih]
mutual
theorem undR_facts : ∀ d : PyData, okD (undR d) = okD d ∧ wD (undR d) = wD d ∧ (undR d).depth = d.depth
  | .none => ⟨rfl, rfl, rfl⟩
  | .bool _ => ⟨rfl, rfl, rfl⟩
  | .int _ => ⟨rfl, rfl, rfl⟩
  | .str _ => ⟨rfl, rfl, rfl⟩
  | .dict _ => ⟨rfl, rfl, rfl⟩
  | .list xs => by
    obtain ⟨h1, h2, h3⟩ := undPs_facts xs
    refine ⟨?_, ?_, ?_⟩
    · simp only [undR, okD, h1]
    · simp only [undR, wD, h2]
    · simp only [undR, PyData.depth, h3]
  | .tuple xs => by
    obtain ⟨h1, h2, h3⟩ := undPs_facts xs
    refine ⟨?_, ?_, ?_⟩
    · simp only [undR, okD, h1]
    · simp only [undR, wD, h2]
    · simp only [undR, PyData.depth, h3]
theorem undP_facts : ∀ d : PyData, okD (undP d) = okD d ∧ wD (undP d) = wD d ∧ (undP d).depth = d.depth
  | .none => ⟨rfl, rfl, rfl⟩
  | .bool _ => ⟨rfl, rfl, rfl⟩
  | .int _ => ⟨rfl, rfl, rfl⟩
  | .str _ => ⟨rfl, rfl, rfl⟩
  | .dict _ => ⟨rfl, rfl, rfl⟩
  | .list xs => ⟨rfl, rfl, rfl⟩
  | .tuple [] => ⟨rfl, rfl, rfl⟩
  | .tuple [_] => ⟨rfl, rfl, rfl⟩
  | .tuple [r, t] => by
    obtain ⟨h1, h2, h3⟩ := undR_facts r
    refine ⟨?_, ?_, ?_⟩
    · simp only [undP, okD, oksD, h1]
    · simp only [undP, wD, wDs, h2]
    · simp only [undP, PyData.depth, PyData.depthAll, h3]
  | .tuple (_ :: _ :: _ :: _) => ⟨rfl, rfl, rfl⟩
theorem undPs_facts : ∀ xs : List PyData, oksD (undPs xs) = oksD xs ∧ wDs (undPs xs) = wDs xs ∧ PyData.depthAll (undPs xs) = PyData.depthAll xs
  | [] => ⟨rfl, rfl, rfl⟩
  | x :: xs => by
    obtain ⟨h1, h2, h3⟩ := undP_facts x
    obtain ⟨k1, k2, k3⟩ := undPs_facts xs
    refine ⟨?_, ?_, ?_⟩
    · simp only [undPs, oksD, h1, k1]
    · simp only [undPs, wDs, h2, k2]
    · simp only [undPs, PyData.depthAll, h3, k3]
end
theorem lineL_get {B : Int} {xs : List PyData} (h : lineL B xs = true) {i : Nat} {d : PyData} (e : xs[i]? = some d) : lineP B d = true := by
  induction xs generalizing i with
  | nil => simp at e
  | cons x xs ih =>
    simp only [lineL, Bool.and_eq_true] at h
    cases i with
    | zero => simp at e; subst e; exact h.1
    | succ i => exact ih h.2 (by simpa using e)
/-- the two kinds of a part -/
theorem lineP_kinds {B : Int} {d : PyData} (h : lineP B d = true) : (∃ z, d = .str z ∧ isThingS z = true) ∨ ∃ ys t, d = .tuple [.list ys, .int t] ∧ 1 ≤ t ∧ t ≤ B ∧ ys ≠ [] ∧ lineL B ys = true := by
  unfold lineP at h
  split at h
  · exact .inl ⟨_, rfl, h⟩
  · rename_i ys t
    simp only [Bool.and_eq_true, decide_eq_true_eq] at h
    refine .inr ⟨ys, t, rfl, h.1.1.1, h.1.1.2, ?_, h.2⟩
    rintro rfl
    simp at h
  · cases h
end MC
namespace K00
open PySem PySem.Spec L2 MC
open PyProof.Rows hiding St
def spDress (n : Nat) : Sp := fun vs H Q _ => ∃ (d d0 a : Addr) (N : Nat) (B : Int) (xs : List V) (ds : List PyData), vs = [.ref d, .ref a] ∧ Dice H d d0 N ∧ N + wDs ds + 1 ≤ 10 ^ 12 ∧ a ≠ d ∧ a ≠ d0 ∧ H a = some (.lst xs) ∧ DDs (Hid [d, d0] H) xs ds ∧
  lineL B ds = true ∧ PyData.depthAll ds + 2 ≤ 2 * n ∧ oksD ds = true ∧ wDs ds ≤ 2000 ∧
  ∀ p H' dd, Chg d d0 H H' → Dice H' d d0 (N + wDs ds + 1) → DD (New H H') (.ref p) dd → dSeq dd = true → undR dd = .list ds → Q (.ref p) H'
section
variable {P : Program} {w : World} {K : PySem.W.Frag} {mg : Str → Option Value} {base : Heap}
variable {f_l_roll f_l_dressed : Addr} {fd_l_roll fd_l_dressed : FuncData}
theorem dress_none : FnOk P w K mg base CX0 1 f_l_dressed fd_l_dressed ["_law_dice_here", "_law_line"] (spDress 0) := by
  have no : ∀ vs H Q E, ¬ spDress 0 vs H Q E := fun vs H Q E h => by
    obtain ⟨d, d0, a, N, B, xs, ds, _, _, _, _, _, _, _, _, h0, _⟩ := h
    omega
  exact ⟨fun vs H Q E h => absurd h (no vs H Q E), fun A outer s H args us vs Q E _ _ _ _ h => absurd h (no vs H Q E)⟩
theorem dress_step {n : Nat} (T : Txt K mg) (G_l_roll : FnOk P w K mg base CX0 1 f_l_roll fd_l_roll ["_law_dice_here", "_law_many"] spRoll) (O_l_roll : Own K mg "_law_roll" s_l_roll f_l_roll fd_l_roll ["_law_dice_here", "_law_many"]) (O_l_dressed : Own K mg "_law_dressed" s_l_dressed f_l_dressed fd_l_dressed ["_law_dice_here", "_law_line"])
    (G_l_dressed : FnOk P w K mg base CX0 (n + 1) f_l_dressed fd_l_dressed ["_law_dice_here", "_law_line"] (spDress n)) : FnOk P w K mg base CX0 (n + 1 + 1) f_l_dressed fd_l_dressed ["_law_dice_here", "_law_line"] (spDress (n + 1)) := by
  refine O_l_dressed.F.ok sc_l_dressed (fun vs H Q E h => by obtain ⟨d, d0, a, N, B, xs, ds, rfl, _⟩ := h; rfl) (fun cdv A outer s H vs Q E hr h => ?_)
  obtain ⟨d, d0, a, N, B, xs, ds, rfl, hD, hN, nad, nad0, ha, hds, hln, hdp, hok, hw, q⟩ := h
  refine ⟨_, (pss_cons (ps_set (i := 2) sc_l_dressed.nd rfl (Or.inl rfl) (pe_lst pa_nil))
    (pss_cons (ps_for PassesOwn.never rfl (k_list (K := K) rfl (pv 1)) (pg_name (i := 3) sc_l_dressed.nd rfl (Or.inl rfl))
    (pss_one (ps_expr (k_bm (K := K) rfl (pe_bm PySem.F.plainAttrs_list PySem.F.slot_list_append PySem.F.type_list_append mt_append (pv 2) (pa_cons (pe_ifExp (pt_val (pe_callB (k_isi (K := K) rfl) (by rfl) T.n_isinstance (by decide +kernel) (pa_cons (pv 3) (pa_cons (pe_bltn (v := .ty "str") (by rfl) T.n_str (by decide +kernel) rfl) pa_nil)))) (pv 3) (pe_tup (pa_cons (pe_call G_l_dressed (hr.mono (by omega)) rfl O_l_dressed.m O_l_dressed.F.kp O_l_dressed.b .nil pass0 (pa_cons (pv 0) (pa_cons (pe_ix (k_ix_tup (K := K) rfl) (pv 3) pe_int (fun _ _ => rfl)) pa_nil))) (pa_cons (pe_ix (k_ix_tup (K := K) rfl) (pv 3) pe_int (fun _ _ => rfl)) pa_nil)))) pa_nil))))))
    (pss_one (ps_ret (pe_ifExp (pt_cmpR op_eq (pe_call G_l_roll (hr.mono (by omega)) rfl O_l_roll.m O_l_roll.F.kp O_l_roll.b .nil pass0 (pa_cons (pv 0) (pa_cons pe_int pa_nil))) pe_int (nomark _)) (pe_callTy (k_tuple_of (K := K) rfl) (by rfl) T.n_tuple (by decide +kernel) (pa_cons (pv 2) pa_nil)) (pv 2)))))), ?_⟩
  obtain ⟨nd, nd0, ndd⟩ := hD.at
  have hS : ∀ x ∈ [d, d0], H x ≠ none := by
    intro x hx
    simp only [List.mem_cons, List.not_mem_nil, or_false] at hx
    rcases hx with rfl | rfl
    · exact nd
    · exact nd0
  refine ⟨Nat.zero_le _, fun f hf => ?_⟩
  have fd : f ≠ d := fun z => nd (z ▸ hf)
  have fd0 : f ≠ d0 := fun z => nd0 (z ▸ hf)
  have s0 := same_new hf (.lst [])
  refine ⟨_, rfl, a, rfl, ⟨_, SqL.of (s0 _ _ ha)⟩, ?_⟩
  refine for_list (K := K) (a := a) (xs := xs) (fun i σ H' => ∃ (fs : List V) (dd : List PyData) (s3 : Option V), σ = [some (.ref d), some (.ref a), some (.ref f), s3] ∧ Chg d d0 H H' ∧ H' f = some (.lst fs) ∧ DDs (Hid [f] (New H H')) fs dd ∧
    undPs dd = ds.take i ∧ Dice H' d d0 (N + wDs (ds.take i))) ⟨[], [], _, rfl, Chg.of s0, upd_same, .nil, rfl, hD.same s0⟩ (fun i σ H' _ z => ?_) ?_ ?_
  · obtain ⟨fs, dd, s3, _, c, _⟩ := z
    exact SqL.of (c _ _ nad nad0 ha)
  · rintro i x σ H1 hi ⟨fs, dd, s3, rfl, c1, hf1, hdd, und, hD1⟩
    obtain ⟨dp, hdp1, hx⟩ := hds.get hi
    have tk : ds.take (i + 1) = ds.take i ++ [dp] := take_more hdp1
    have wtk : wDs (ds.take (i + 1)) = wDs (ds.take i) + wD dp := by rw [tk, wDs_append]; simp [wDs]
    have wle : wDs (ds.take (i + 1)) ≤ wDs ds := by
      have e := wDs_append (ds.take (i + 1)) (ds.drop (i + 1))
      rw [List.take_append_drop] at e
      omega
    have wpos := wD_pos dp
    have flen : fs.length ≤ 2000 := by
      have h1 := hdd.length
      have h2 := undPs_len dd
      rw [und, List.length_take] at h2
      have h3 := len_wDs ds
      omega
    have hx1 := hx.mono (c1.hid (S := [d, d0]) (by simp) (by simp))
    have dle := depth_le hdp1
    refine ⟨_, rfl, .inl ⟨rfl, _, SqL.of hf1⟩, _, rfl, _, _, _, _, _, rfl, .ty _, ty_of (hx1.mono hid_same), kI_str, _, rfl, ?_⟩
    rcases lineP_kinds (lineL_get hln hdp1) with ⟨z, rfl, hz⟩ | ⟨ys, t, rfl, t1, t2, hne, hl2⟩
    · -- a thing
      cases hx with
      | str z =>
      refine ite2 (fun _ => ?_) (fun c => absurd rfl c)
      refine ⟨_, rfl, _, _, _, rfl, rfl, hf1, Nat.lt_of_le_of_lt flen (by decide), ?_⟩
      refine ⟨fs ++ [.str z], dd ++ [.str z], _, rfl, c1.updn hf _, upd_same, (hdd.mono (newf_upd _)).append (.cons (.str z) .nil), ?_, (hD1.upd fd fd0).mono (by omega)⟩
      rw [undPs_append, und, tk]; rfl
    · -- an again
      refine ite2 (fun c => (nomatch c)) (fun _ => ?_)
      cases hx1 with
      | @tup pt vs2 _ hpt hvs =>
      cases hvs with
      | @cons v1 vr _ _ hv1 hr1 =>
      cases hr1 with
      | cons hv2 hnil =>
      cases hnil
      cases hv2
      cases hv1 with
      | @lst ai xi _ hai hxi =>
      obtain ⟨ptS, hpt1⟩ := hid_some hpt
      obtain ⟨aiS, hai1⟩ := hid_some hai
      simp only [List.mem_cons, List.not_mem_nil, or_false, not_or] at aiS ptS
      have oky : oksD ys = true := by
        have := oksD_get hok hdp1
        simp only [okD, oksD, Bool.and_eq_true] at this; exact this.1
      have wy : wD (PyData.tuple [.list ys, .int t]) = wDs ys + 3 := by simp only [wD, wDs]; omega
      have dy : (PyData.tuple [.list ys, .int t]).depth = PyData.depthAll ys + 2 := by simp only [PyData.depth, PyData.depthAll]; omega
      refine ⟨_, rfl, _, rfl, _, _, _, _, rfl, rfl, SqT.of hpt1, atI_nat (j := 0) rfl, d, d0, ai, _, B, xi, ys, rfl, hD1, by omega, aiS.1, aiS.2, hai1, hxi, hl2, by omega, oky, by omega,
        fun p H2 dr c2 hD2 hdr ksq hun => ?_⟩
      have c12 := c1.trans c2
      have hf2 := c2 _ _ fd fd0 hf1
      refine ⟨_, rfl, _, _, _, _, rfl, rfl, SqT.of (c2 _ _ ptS.1 ptS.2 hpt1), atI_nat (j := 1) rfl, (by show 2 ≤ sizeLine; decide), fun tp htp => ?_⟩
      have st := same_new htp (.tup [.ref p, .int t])
      refine ⟨_, _, _, rfl, rfl, st _ _ hf2, Nat.lt_of_le_of_lt flen (by decide), ?_⟩
      have dm : ∀ x, H1 x = none → H x = none := dom_of (c1.hid (S := [d, d0]) (by simp) (by simp)) (fun x hx => by
        simp only [List.mem_cons, List.not_mem_nil, or_false] at hx
        rcases hx with rfl | rfl
        · exact hD1.at.1
        · exact hD1.at.2.1)
      have dm2 : ∀ x, H2 x = none → H x = none := dom_of (c12.hid (S := [d, d0]) (by simp) (by simp)) (fun x hx => by
        simp only [List.mem_cons, List.not_mem_nil, or_false] at hx
        rcases hx with rfl | rfl
        · exact hD2.at.1
        · exact hD2.at.2.1)
      have ntf : tp ≠ f := fun z => by rw [z, hf2] at htp; cases htp
      have nb : ∀ o, Hid [f] (New H (upd (upd H2 tp (.tup [.ref p, .int t])) f o)) tp = some (.tup [.ref p, .int t]) := fun o => by
        rw [hid_out (by simpa using ntf), new_at (dm2 _ htp), upd_ne ntf, upd_same]
      have mv : ∀ o, Same (Hid [f] (New H H2)) (Hid [f] (New H (upd (upd H2 tp (.tup [.ref p, .int t])) f o))) := fun o => (Same.hid (new_of st)).trans (newf_upd _)
      have inn := (hdr.mono (newf_dom dm (by rw [hf1]; exact fun z => nomatch z))).mono (mv (.lst (fs ++ [.ref tp])))
      refine ⟨fs ++ [.ref tp], dd ++ [.tuple [dr, .int t]], _, rfl, (c12.same st).updn hf _, upd_same, ?_, ?_, ((hD2.same st).upd fd fd0).mono (by omega)⟩
      · exact ((hdd.mono (Same.hid (new_step hS (c2.hid (S := [d, d0]) (by simp) (by simp))))).mono (mv _)).append (.cons (.tup (nb _) (.cons inn (.cons (.int t) .nil))) .nil)
      · rw [undPs_append, und, tk]
        simp only [undPs, undP, hun]
  · rintro σ H1 ⟨fs, dd, s3, rfl, c1, hf1, hdd, und, hD1⟩
    have full : ds.take xs.length = ds := List.take_of_length_le (by rw [hds.length]; exact Nat.le_refl _)
    rw [full] at und hD1
    refine ⟨_, rfl, d, d0, _, 2, rfl, hD1, by omega, by omega, by omega, fun r H2 r0 r1 c2 hD2 => ⟨rfl, _, rfl, ?_⟩⟩
    have c12 := c1.trans c2
    have hf2 := c2 _ _ fd fd0 hf1
    have hdd2 := hdd.mono (Same.hid (new_step hS (c2.hid (S := [d, d0]) (by simp) (by simp))))
    refine ite2 (fun _ => ?_) (fun _ => ?_)
    · refine ⟨_, rfl, f, _, rfl, .inl ⟨SqL.of hf2, fun tp htp => ?_⟩⟩
      have st := same_new htp (.tup fs)
      have dm2 : ∀ x, H2 x = none → H x = none := dom_of (c12.hid (S := [d, d0]) (by simp) (by simp)) (fun x hx => by
        simp only [List.mem_cons, List.not_mem_nil, or_false] at hx
        rcases hx with rfl | rfl
        · exact hD2.at.1
        · exact hD2.at.2.1)
      exact q tp _ (.tuple dd) (c12.same st) (hD2.same st) (.tup (by rw [new_at (dm2 _ htp)]; exact upd_same) ((hdd2.mono hid_same).mono (new_of st))) rfl (by simp only [undR, und])
    · exact ⟨_, rfl, q f _ (.list dd) c12 hD2 (.lst (by rw [new_at hf]; exact hf2) (hdd2.mono hid_same)) rfl (by simp only [undR, und])⟩
end
end K00

set_option Elab.async false
set_option linter.all false
set_option maxRecDepth 100000
set_option maxHeartbeats 4000000
namespace MC
open PySem PySem.Spec L2
/-! ### displays of written data: new objects of just this form -/
def tD (c : PyData) : TE := fun _ H Q => ∀ v H', Same H H' → DD (New H H') v c → Q v H'
def tDs (cs : List PyData) : TA := fun _ H Q => ∀ vs H', Same H H' → DDs (New H H') vs cs → Q vs H'
theorem PE.weak {X : Cx} {e : Expr} {t t' : TE} (h : PE X e t) (w : ∀ σ H Q, t' σ H Q → t σ H Q) : PE X e t' := ⟨fun pins s σ H Q I q => h.run pins s σ H Q I (w σ H Q q)⟩
theorem PA.weak {X : Cx} {es : List Expr} {t t' : TA} (h : PA X es t) (w : ∀ σ H Q, t' σ H Q → t σ H Q) : PA X es t' := ⟨fun pos pins s σ H Q I q => h.run pos pins s σ H Q I (w σ H Q q)⟩
section
variable {X : Cx} {pos p2 p3 : Pos}
theorem pd_int {i : Int} {j} : PE X (.Constant (.int i) j pos) (tD (.int i)) := PE.weak pe_int fun σ H Q q => q _ H (Same.refl H) (.int i)
theorem pd_str {x : Str} {j} : PE X (.Constant (.str x) j pos) (tD (.str x)) := PE.weak pe_str fun σ H Q q => q _ H (Same.refl H) (.str x)
theorem pd_bl {b : Bool} {j} : PE X (.Constant (.bool b) j pos) (tD (.bool b)) := PE.weak pe_bl fun σ H Q q => q _ H (Same.refl H) (.bl b)
theorem pd_non {j} : PE X (.Constant .none j pos) (tD .none) := PE.weak pe_non fun σ H Q q => q _ H (Same.refl H) .non
theorem pd_neg {i : Int} {j} : PE X (.UnaryOp .USub (.Constant (.int i) j p2) pos) (tD (.int (-i))) := PE.weak (pe_un un_neg pe_int) fun σ H Q q => ⟨_, rfl, q _ H (Same.refl H) (.int _)⟩
theorem pd_pow {a b : Int} {j k} (h : CPow a b) : PE X (.BinOp (.Constant (.int a) j p2) .Pow (.Constant (.int b) k p3) pos) (tD (.int (a ^ b.toNat))) :=
  PE.weak (pe_op op_pow pe_int pe_int) fun σ H Q q => ⟨_, _, rfl, rfl, h, q _ H (Same.refl H) (.int _)⟩
theorem pd_pow1 {a b c : Int} {j k l p4 p5} (h : CPow a b) : PE X (.BinOp (.BinOp (.Constant (.int a) j p2) .Pow (.Constant (.int b) k p3) p4) .Add (.Constant (.int c) l p5) pos) (tD (.int (a ^ b.toNat + c))) :=
  PE.weak (pe_op op_add (pe_op op_pow pe_int pe_int) pe_int) fun σ H Q q => ⟨_, _, rfl, rfl, h, _, _, rfl, rfl, q _ H (Same.refl H) (.int _)⟩
theorem pd_dict : PE X (.Dict [] [] pos) (tD (.dict [])) := PE.weak pe_dnewK fun σ H Q q p hp => q _ _ (same_new hp _) (.dct0 (by rw [new_at hp]; exact upd_same))
theorem pd_tup {es : List Expr} {cs : List PyData} {x1} (hl : cs.length ≤ 100) (h : PA X es (tDs cs)) : PE X (.Tuple es x1 pos) (tD (.tuple cs)) := PE.weak (pe_tup h) fun σ H Q q vs H' s hd =>
  ⟨by rw [hd.length]; exact Nat.le_trans hl (by decide), fun p hp => q _ _ (s.trans (same_new hp _)) (.tup (by rw [new_at (s.free hp)]; exact upd_same) (hd.mono (new_of (same_new hp _))))⟩
theorem pd_lst {es : List Expr} {cs : List PyData} {x1} (hl : cs.length ≤ 100) (h : PA X es (tDs cs)) : PE X (.List es x1) (tD (.list cs)) := PE.weak (pe_lst h) fun σ H Q q vs H' s hd =>
  ⟨by rw [hd.length]; exact Nat.le_trans hl (by decide), fun p hp => q _ _ (s.trans (same_new hp _)) (.lst (by rw [new_at (s.free hp)]; exact upd_same) (hd.mono (new_of (same_new hp _))))⟩
theorem pds_nil : PA X [] (tDs []) := PA.weak pa_nil fun σ H Q q => q _ H (Same.refl H) .nil
theorem pds_cons {e : Expr} {es : List Expr} {c : PyData} {cs : List PyData} (h : PE X e (tD c)) (hs : PA X es (tDs cs)) (hst : starEach (e :: es) X.env = (false, eval e X.env) :: starEach es X.env := by rfl) : PA X (e :: es) (tDs (c :: cs)) :=
  PA.weak (pa_cons h hs hst) fun σ H Q q v H1 s1 d1 vs H2 s2 d2 => q _ _ (s1.trans s2) (.cons (d1.mono (new_of s2)) (d2.mono (new_dom fun a z => s1.free z)))
end
theorem atI_int {α : Type} {xs : List α} {r : Int} (h0 : 0 ≤ r) (h : r.toNat < xs.length) : atI xs r = some xs[r.toNat] := by
  have := atI_nat (List.getElem?_eq_getElem h)
  rwa [show ((r.toNat : Nat) : Int) = r by omega] at this
theorem ixN_int {n : Nat} {r : Int} (h0 : 0 ≤ r) (h : r < (n : Int)) : ixN n r = some r.toNat := by
  unfold ixN
  rw [if_pos h0, if_pos h]
theorem new_hid {S : List Addr} {H H' : Hp} (hS : ∀ a ∈ S, H a ≠ none) : Same (New H H') (Hid S H') := fun b o h => by
  obtain ⟨h1, h2⟩ := new_some h
  rw [hid_out (fun z => hS b z h1)]; exact h2
end MC
namespace K00
open PySem PySem.Spec L2 MC
open PyProof.Rows hiding St
def odds0 : List PyData := [.none, .bool true, .int 0, .int 3, .int (-1), .str "", .str "A", .str "ab1", .str "abcdefghi", .str "a b", .tuple [], .list [], .dict [], .tuple [.str "a"], .list [.str "a"], .tuple [.str "a", .int 2], .str "a,"]
def odds1 : List PyData := [.tuple [.list [.str "a"], .int 0], .tuple [.list [.str "a"], .int (10 ^ (30 : Int).toNat + 1)], .tuple [.list [.str "a"], .int (10 ^ (30 : Int).toNat)], .tuple [.list [], .int 2], .tuple [.tuple [], .int 1], .tuple [.list [.str "a"], .bool true]]
def odds2 : List PyData := [.tuple [.list [.str "a"], .str "2"], .tuple [.list [.str "a"], .int (-3)], .tuple [.list [.str "a"], .int 2, .int 3], .list [.list [.str "a"], .int 2], .tuple [.list [.int 3], .int 2], .tuple [.tuple [.str "a", .str "b"], .int 2], .tuple [.str "ab", .int 5]]
def odds3 : List PyData := [.tuple [.int 2, .list [.str "a"]], .tuple [.list [.str "a"], .none], .list [.list [.str "a"]]]
def oddsAll : List PyData := odds0 ++ odds1 ++ odds2 ++ odds3
def fine (c : PyData) : Bool := okD c && decide (c.depth ≤ 3) && decide (wD c ≤ 6)
theorem odds_fine : oddsAll.all fine = true := by decide +kernel
theorem odds_len : oddsAll.length = 33 := by decide +kernel
def spOdd : Sp := fun vs H Q _ => ∃ (d d0 : Addr) (N : Nat), vs = [.ref d] ∧ Dice H d d0 N ∧ N ≤ 10 ^ 11 ∧
  ∀ v H' dv, Chg d d0 H H' → Dice H' d d0 (N + 1) → DD (New H H') v dv → fine dv = true → Q v H'
section
variable {P : Program} {w : World} {K : PySem.W.Frag} {mg : Str → Option Value} {base : Heap}
variable {f_l_roll f_l_odd f_l_bent : Addr} {fd_l_roll fd_l_odd fd_l_bent : FuncData}
theorem ok_odd (T : Txt K mg) (G_l_roll : FnOk P w K mg base CX0 1 f_l_roll fd_l_roll ["_law_dice_here", "_law_many"] spRoll) (O_l_roll : Own K mg "_law_roll" s_l_roll f_l_roll fd_l_roll ["_law_dice_here", "_law_many"]) (O_l_odd : Own K mg "_law_odd" s_l_odd f_l_odd fd_l_odd ["_law_dice_here"]) : FnOk P w K mg base CX0 2 f_l_odd fd_l_odd ["_law_dice_here"] spOdd := by
  refine O_l_odd.F.ok sc_l_odd (fun vs H Q E h => by obtain ⟨d, d0, N, rfl, _⟩ := h; rfl) (fun cdv A outer s H vs Q E hr h => ?_)
  obtain ⟨d, d0, N, rfl, hD, hN, q⟩ := h
  refine ⟨_, (pss_cons (ps_set (i := 1) sc_l_odd.nd rfl (Or.inl rfl) (pd_lst (by decide) (pds_cons pd_non (pds_cons pd_bl (pds_cons pd_int (pds_cons pd_int (pds_cons pd_neg (pds_cons pd_str (pds_cons pd_str (pds_cons pd_str (pds_cons pd_str (pds_cons pd_str (pds_cons (pd_tup (by decide) pds_nil) (pds_cons (pd_lst (by decide) pds_nil) (pds_cons pd_dict (pds_cons (pd_tup (by decide) (pds_cons pd_str pds_nil)) (pds_cons (pd_lst (by decide) (pds_cons pd_str pds_nil)) (pds_cons (pd_tup (by decide) (pds_cons pd_str (pds_cons pd_int pds_nil))) (pds_cons pd_str pds_nil)))))))))))))))))))
    (pss_cons (ps_set (i := 1) sc_l_odd.nd rfl (Or.inl rfl) (pe_op op_cat (pv 1) (pd_lst (by decide) (pds_cons (pd_tup (by decide) (pds_cons (pd_lst (by decide) (pds_cons pd_str pds_nil)) (pds_cons pd_int pds_nil))) (pds_cons (pd_tup (by decide) (pds_cons (pd_lst (by decide) (pds_cons pd_str pds_nil)) (pds_cons (pd_pow1 ⟨by decide, by decide, by decide⟩) pds_nil))) (pds_cons (pd_tup (by decide) (pds_cons (pd_lst (by decide) (pds_cons pd_str pds_nil)) (pds_cons (pd_pow ⟨by decide, by decide, by decide⟩) pds_nil))) (pds_cons (pd_tup (by decide) (pds_cons (pd_lst (by decide) pds_nil) (pds_cons pd_int pds_nil))) (pds_cons (pd_tup (by decide) (pds_cons (pd_tup (by decide) pds_nil) (pds_cons pd_int pds_nil))) (pds_cons (pd_tup (by decide) (pds_cons (pd_lst (by decide) (pds_cons pd_str pds_nil)) (pds_cons pd_bl pds_nil))) pds_nil)))))))))
    (pss_cons (ps_set (i := 1) sc_l_odd.nd rfl (Or.inl rfl) (pe_op op_cat (pv 1) (pd_lst (by decide) (pds_cons (pd_tup (by decide) (pds_cons (pd_lst (by decide) (pds_cons pd_str pds_nil)) (pds_cons pd_str pds_nil))) (pds_cons (pd_tup (by decide) (pds_cons (pd_lst (by decide) (pds_cons pd_str pds_nil)) (pds_cons pd_neg pds_nil))) (pds_cons (pd_tup (by decide) (pds_cons (pd_lst (by decide) (pds_cons pd_str pds_nil)) (pds_cons pd_int (pds_cons pd_int pds_nil)))) (pds_cons (pd_lst (by decide) (pds_cons (pd_lst (by decide) (pds_cons pd_str pds_nil)) (pds_cons pd_int pds_nil))) (pds_cons (pd_tup (by decide) (pds_cons (pd_lst (by decide) (pds_cons pd_int pds_nil)) (pds_cons pd_int pds_nil))) (pds_cons (pd_tup (by decide) (pds_cons (pd_tup (by decide) (pds_cons pd_str (pds_cons pd_str pds_nil))) (pds_cons pd_int pds_nil))) (pds_cons (pd_tup (by decide) (pds_cons pd_str (pds_cons pd_int pds_nil))) pds_nil))))))))))
    (pss_cons (ps_set (i := 1) sc_l_odd.nd rfl (Or.inl rfl) (pe_op op_cat (pv 1) (pd_lst (by decide) (pds_cons (pd_tup (by decide) (pds_cons pd_int (pds_cons (pd_lst (by decide) (pds_cons pd_str pds_nil)) pds_nil))) (pds_cons (pd_tup (by decide) (pds_cons (pd_lst (by decide) (pds_cons pd_str pds_nil)) (pds_cons pd_non pds_nil))) (pds_cons (pd_lst (by decide) (pds_cons (pd_lst (by decide) (pds_cons pd_str pds_nil)) pds_nil)) pds_nil))))))
    (pss_one (ps_ret (pe_ix (k_ix_list (K := K) rfl) (pv 1) (pe_call G_l_roll (hr.mono (by omega)) rfl O_l_roll.m O_l_roll.F.kp O_l_roll.b .nil pass0 (pa_cons (pv 0) (pa_cons (pe_callB (k_len_seq (K := K) rfl) (by rfl) T.n_len (by decide +kernel) (pa_cons (pv 1) pa_nil)) pa_nil))) (fun _ _ => rfl)))))))), ?_⟩
  obtain ⟨nd, nd0, ndd⟩ := hD.at
  intro v0 H0 s0 e0
  cases e0 with
  | @lst l0 xs0 _ h0 hs0 =>
  have h0' := (new_some h0).2
  refine ⟨_, rfl, fun v1 H1 s1 e1 => ?_⟩
  cases e1 with
  | @lst l1 xs1 _ h1 hs1 =>
  have h1' := (new_some h1).2
  have m01 := hs0.mono (new_of s1)
  have m1 := hs1.mono (new_dom (H0 := H) fun a z => s0.free z)
  have l01 := m01.append m1
  refine ⟨_, _, _, _, rfl, rfl, s1 _ _ h0', h1', ?_, fun p1 hp1 => ?_⟩
  · rw [hs0.length, hs1.length]; decide
  have t1 := (s0.trans s1).trans (same_new hp1 (.lst (xs0 ++ xs1)))
  have n1 := l01.mono (new_of (same_new hp1 (.lst (xs0 ++ xs1))))
  have e1' : upd H1 p1 (.lst (xs0 ++ xs1)) p1 = some (.lst (xs0 ++ xs1)) := upd_same
  generalize upd H1 p1 (.lst (xs0 ++ xs1)) = H2 at t1 n1 e1'
  refine ⟨_, rfl, fun v2 H3 s3 e3 => ?_⟩
  cases e3 with
  | @lst l2 xs2 _ h2 hs2 =>
  have h2' := (new_some h2).2
  have l02 := (n1.mono (new_of s3)).append (hs2.mono (new_dom (H0 := H) fun a z => t1.free z))
  refine ⟨_, _, _, _, rfl, rfl, s3 _ _ e1', h2', ?_, fun p2 hp2 => ?_⟩
  · rw [n1.length, hs2.length]; decide
  have t2 := (t1.trans s3).trans (same_new hp2 (.lst (xs0 ++ xs1 ++ xs2)))
  have n2 := l02.mono (new_of (same_new hp2 (.lst (xs0 ++ xs1 ++ xs2))))
  have e2' : upd H3 p2 (.lst (xs0 ++ xs1 ++ xs2)) p2 = some (.lst (xs0 ++ xs1 ++ xs2)) := upd_same
  generalize upd H3 p2 (.lst (xs0 ++ xs1 ++ xs2)) = H4 at t2 n2 e2'
  refine ⟨_, rfl, fun v3 H5 s5 e5 => ?_⟩
  cases e5 with
  | @lst l3 xs3 _ h3 hs3 =>
  have h3' := (new_some h3).2
  have l03 := (n2.mono (new_of s5)).append (hs3.mono (new_dom (H0 := H) fun a z => t2.free z))
  refine ⟨_, _, _, _, rfl, rfl, s5 _ _ e2', h3', ?_, fun p3 hp3 => ?_⟩
  · rw [n2.length, hs3.length]; decide
  have t3 := (t2.trans s5).trans (same_new hp3 (.lst (xs0 ++ xs1 ++ xs2 ++ xs3)))
  have n3 : DDs (New H (upd H5 p3 (.lst (xs0 ++ xs1 ++ xs2 ++ xs3)))) (xs0 ++ xs1 ++ xs2 ++ xs3) oddsAll := l03.mono (new_of (same_new hp3 (.lst (xs0 ++ xs1 ++ xs2 ++ xs3))))
  have p30 : H p3 = none := (t2.trans s5).free hp3
  have e3' : upd H5 p3 (.lst (xs0 ++ xs1 ++ xs2 ++ xs3)) p3 = some (.lst (xs0 ++ xs1 ++ xs2 ++ xs3)) := upd_same
  generalize upd H5 p3 (.lst (xs0 ++ xs1 ++ xs2 ++ xs3)) = H6 at t3 n3 e3'
  have ln := n3.length
  rw [odds_len] at ln
  refine ⟨_, rfl, _, rfl, _, rfl, _, _, rfl, .inl (SqL.of e3'), d, d0, N, _, rfl, hD.same t3, by omega, by omega, by omega, fun r H7 r0 r1 c7 d7 => ?_⟩
  rw [ln] at r1
  have rl : r.toNat < (xs0 ++ xs1 ++ xs2 ++ xs3).length := by omega
  obtain ⟨dv, hdv, hd⟩ := n3.get (List.getElem?_eq_getElem rl)
  refine ⟨_, _, _, (xs0 ++ xs1 ++ xs2 ++ xs3)[r.toNat], rfl, rfl, SqL.of (c7 _ _ (fun z => nd (z ▸ p30)) (fun z => nd0 (z ▸ p30)) e3'), atI_int r0 rl, ?_⟩
  · refine q _ _ dv ((Chg.of t3).trans c7) d7 (hd.mono (new_step (S := [d, d0]) ?_ (c7.hid (by simp) (by simp)))) (List.all_eq_true.mp odds_fine _ (List.mem_of_getElem? hdv))
    intro x hx
    simp only [List.mem_cons, List.not_mem_nil, or_false] at hx
    rcases hx with rfl | rfl
    · exact nd
    · exact nd0
end
end K00

set_option Elab.async false
set_option linter.all false
set_option maxRecDepth 100000
set_option maxHeartbeats 4000000
namespace MC
open PySem PySem.Spec L2
theorem cut_pre' (xs : List V) (k : Int) (h0 : 0 ≤ k) : cutV xs none (some k) = xs.take k.toNat := by
  have e : k = ((k.toNat : Nat) : Int) := by omega
  rw [e]
  unfold cutV
  rw [HT.sIx_none, HT.sIx_nat]
  simp only [Nat.sub_zero, List.drop_zero, Int.toNat_natCast]
  by_cases h : k.toNat ≤ xs.length
  · rw [Nat.min_eq_left h]
  · rw [Nat.min_eq_right (by omega), List.take_of_length_le (Nat.le_refl _), List.take_of_length_le (by omega)]
theorem cut_post' (xs : List V) (k : Int) (h0 : 0 ≤ k) : cutV xs (some k) none = xs.drop k.toNat := by
  have e : k = ((k.toNat : Nat) : Int) := by omega
  rw [e]
  unfold cutV
  rw [HT.sIx_none, HT.sIx_nat]
  simp only [Int.toNat_natCast]
  by_cases h : k.toNat ≤ xs.length
  · rw [Nat.min_eq_left h]
    exact List.take_of_length_le (by rw [List.length_drop]; exact Nat.le_refl _)
  · rw [Nat.min_eq_right (by omega), List.drop_of_length_le (show xs.length ≤ k.toNat by omega), List.drop_of_length_le (Nat.le_refl _), List.take_nil]
theorem wDs_split (xs : List PyData) (k : Nat) : wDs (xs.take k) + wDs (xs.drop k) = wDs xs := by
  rw [← wDs_append, List.take_append_drop]
theorem oks_take {xs : List PyData} (h : oksD xs = true) (k : Nat) : oksD (xs.take k) = true ∧ oksD (xs.drop k) = true := by
  rw [← List.take_append_drop k xs, oksD_append, Bool.and_eq_true] at h
  exact h
theorem dep_take (xs : List PyData) (k : Nat) : PyData.depthAll (xs.take k) ≤ PyData.depthAll xs ∧ PyData.depthAll (xs.drop k) ≤ PyData.depthAll xs := by
  have := depthAll_append (xs.take k) (xs.drop k)
  rw [List.take_append_drop] at this
  omega
theorem dep_set {xs : List PyData} {j : Nat} {e : PyData} {m : Nat} (h : PyData.depthAll xs ≤ m) (he : e.depth ≤ m) : PyData.depthAll (xs.set j e) ≤ m := by
  induction xs generalizing j with
  | nil => exact h
  | cons x xs ih =>
    simp only [PyData.depthAll] at h
    cases j with
    | zero => simp only [List.set, PyData.depthAll]; omega
    | succ j => have := ih (j := j) (by omega); simp only [List.set, PyData.depthAll]; omega
theorem oks_set {xs : List PyData} {j : Nat} {e : PyData} (h : oksD xs = true) (he : okD e = true) : oksD (xs.set j e) = true := by
  induction xs generalizing j with
  | nil => exact h
  | cons x xs ih =>
    simp only [oksD, Bool.and_eq_true] at h
    cases j with
    | zero => simp only [List.set, oksD, he, h.2, Bool.and_self]
    | succ j => simp only [List.set, oksD, h.1, ih h.2, Bool.and_self]
theorem wDs_set {xs : List PyData} {j : Nat} {e d : PyData} (h : xs[j]? = some d) : wDs (xs.set j e) + wD d = wDs xs + wD e := by
  induction xs generalizing j with
  | nil => simp at h
  | cons x xs ih =>
    cases j with
    | zero => simp at h; subst h; simp only [List.set, wDs]; omega
    | succ j => have := ih (j := j) (by simpa using h); simp only [List.set, wDs]; omega
end MC
namespace K00
open PySem PySem.Spec L2 MC
open PyProof.Rows hiding St
def spBent (n : Nat) : Sp := fun vs H Q _ => ∃ (d d0 : Addr) (N : Nat) (S : List Addr) (x : V) (dx : PyData), vs = [.ref d, x] ∧ Dice H d d0 N ∧ N + 6 * n ≤ 10 ^ 11 ∧ d ∈ S ∧ d0 ∈ S ∧ (∀ a ∈ S, H a ≠ none) ∧ DD (Hid S H) x dx ∧ okD dx = true ∧
  dx.depth < n ∧ wD dx ≤ 1000 ∧ ∀ v H' dv, Chg d d0 H H' → Dice H' d d0 (N + 6 * n) → DD (Hid S H') v dv → okD dv = true → dv.depth ≤ dx.depth + 3 → wD dv ≤ wD dx + 6 → Q v H'
section
variable {P : Program} {w : World} {K : PySem.W.Frag} {mg : Str → Option Value} {base : Heap}
variable {f_l_roll f_l_odd f_l_bent : Addr} {fd_l_roll fd_l_odd fd_l_bent : FuncData}
theorem bent_none : FnOk P w K mg base CX0 2 f_l_bent fd_l_bent ["_law_dice_here", "_law_thing"] (spBent 0) := by
  have no : ∀ vs H Q E, ¬ spBent 0 vs H Q E := fun vs H Q E h => by
    obtain ⟨d, d0, N, S, x, dx, _, _, _, _, _, _, _, _, h0, _⟩ := h
    exact absurd h0 (Nat.not_lt_zero _)
  exact ⟨fun vs H Q E h => absurd h (no vs H Q E), fun A outer s H args us vs Q E _ _ _ _ h => absurd h (no vs H Q E)⟩
theorem bent_step {n : Nat} (T : Txt K mg) (G_l_roll : FnOk P w K mg base CX0 1 f_l_roll fd_l_roll ["_law_dice_here", "_law_many"] spRoll) (G_l_odd : FnOk P w K mg base CX0 2 f_l_odd fd_l_odd ["_law_dice_here"] spOdd) (O_l_roll : Own K mg "_law_roll" s_l_roll f_l_roll fd_l_roll ["_law_dice_here", "_law_many"]) (O_l_odd : Own K mg "_law_odd" s_l_odd f_l_odd fd_l_odd ["_law_dice_here"]) (O_l_bent : Own K mg "_law_bent" s_l_bent f_l_bent fd_l_bent ["_law_dice_here", "_law_thing"])
    (G_l_bent : FnOk P w K mg base CX0 (n + 2) f_l_bent fd_l_bent ["_law_dice_here", "_law_thing"] (spBent n)) : FnOk P w K mg base CX0 (n + 2 + 1) f_l_bent fd_l_bent ["_law_dice_here", "_law_thing"] (spBent (n + 1)) := by
  refine O_l_bent.F.ok sc_l_bent (fun vs H Q E h => by obtain ⟨d, d0, N, S, x, dx, rfl, _⟩ := h; rfl) (fun cdv A outer s H vs Q E hr h => ?_)
  obtain ⟨d, d0, N, S, x, dx, rfl, hD, hN, hdS, hd0S, hS, hx, hok, hdp, hw, q⟩ := h
  refine ⟨_, (pss_cons (ps_if (PW.pt (pw_or (pt_not (pt_val (pe_callB (k_isiT (K := K) rfl) (by rfl) T.n_isinstance (by decide +kernel) (pa_cons (pv 1) (pa_cons (pe_tup (pa_cons (pe_bltn (v := .ty "list") (by rfl) T.n_list (by decide +kernel) rfl) (pa_cons (pe_bltn (v := .ty "tuple") (by rfl) T.n_tuple (by decide +kernel) rfl) pa_nil))) pa_nil))))) (pw_or1 (pt_cmpR op_eq (pe_call G_l_roll (hr.mono (by omega)) rfl O_l_roll.m O_l_roll.F.kp O_l_roll.b .nil pass0 (pa_cons (pv 0) (pa_cons pe_int pa_nil))) pe_int (nomark _)))))
    (pss_one (ps_ret (pe_call G_l_odd (hr.mono (by omega)) rfl O_l_odd.m O_l_odd.F.kp O_l_odd.b .nil pass0 (pa_cons (pv 0) pa_nil))))
    pss_nil)
    (pss_cons (ps_set (i := 2) sc_l_bent.nd rfl (Or.inl rfl) (pe_callTy (k_list_of (K := K) rfl) (by rfl) T.n_list (by decide +kernel) (pa_cons (pv 1) pa_nil)))
    (pss_cons (ps_set (i := 3) sc_l_bent.nd rfl (Or.inl rfl) (pe_call G_l_roll (hr.mono (by omega)) rfl O_l_roll.m O_l_roll.F.kp O_l_roll.b .nil pass0 (pa_cons (pv 0) (pa_cons (pe_op op_add (pe_callB (k_len_seq (K := K) rfl) (by rfl) T.n_len (by decide +kernel) (pa_cons (pv 2) pa_nil)) pe_int) pa_nil))))
    (pss_cons (ps_set (i := 4) sc_l_bent.nd rfl (Or.inl rfl) (pe_call G_l_roll (hr.mono (by omega)) rfl O_l_roll.m O_l_roll.F.kp O_l_roll.b .nil pass0 (pa_cons (pv 0) (pa_cons pe_int pa_nil))))
    (pss_cons (ps_if (PW.pt (pw_and (pt_cmpR op_lt (pv 3) (pe_callB (k_len_seq (K := K) rfl) (by rfl) T.n_len (by decide +kernel) (pa_cons (pv 2) pa_nil)) (nomark _)) (pw_and1 (pt_cmpR op_gt (pv 4) pe_int (nomark _)))))
    (pss_one (ps_asg (pe_call G_l_bent (hr.mono (by omega)) rfl O_l_bent.m O_l_bent.F.kp O_l_bent.b .nil pass0 (pa_cons (pv 0) (pa_cons (pe_ix (k_ix_list (K := K) rfl) (pv 2) (pv 3) (fun _ _ => rfl)) pa_nil))) (pg_sub (pv 2) (pv 3) set_list)))
    (pss_one (ps_if (pt_cmpR op_eq (pv 4) pe_int (nomark _))
    (pss_one (ps_set (i := 2) sc_l_bent.nd rfl (Or.inl rfl) (pe_op op_cat (pe_slice (k_sl_list (K := K) rfl) (pv 2) po_none (po_some (pv 3))) (pe_slice (k_sl_list (K := K) rfl) (pv 2) (po_some (pe_op op_add (pv 3) pe_int)) po_none))))
    (pss_one (ps_set (i := 2) sc_l_bent.nd rfl (Or.inl rfl) (pe_op op_cat (pe_op op_cat (pe_slice (k_sl_list (K := K) rfl) (pv 2) po_none (po_some (pv 3))) (pe_lst (pa_cons (pe_call G_l_odd (hr.mono (by omega)) rfl O_l_odd.m O_l_odd.F.kp O_l_odd.b .nil pass0 (pa_cons (pv 0) pa_nil)) pa_nil))) (pe_slice (k_sl_list (K := K) rfl) (pv 2) (po_some (pv 3)) po_none)))))))
    (pss_one (ps_ret (pe_ifExp (pt_cmpR op_eq (pe_callB (k_isi (K := K) rfl) (by rfl) T.n_isinstance (by decide +kernel) (pa_cons (pv 1) (pa_cons (pe_bltn (v := .ty "tuple") (by rfl) T.n_tuple (by decide +kernel) rfl) pa_nil))) (pe_cmpR op_gt (pe_call G_l_roll (hr.mono (by omega)) rfl O_l_roll.m O_l_roll.F.kp O_l_roll.b .nil pass0 (pa_cons (pv 0) (pa_cons pe_int pa_nil))) pe_int (nomark _)) (nomark _)) (pe_callTy (k_tuple_of (K := K) rfl) (by rfl) T.n_tuple (by decide +kernel) (pa_cons (pv 2) pa_nil)) (pv 2))))))))), ?_⟩
  obtain ⟨nd, nd0, ndd⟩ := hD.at
  have hSk : ∀ a ∈ S, ∀ H', Chg d d0 H H' → ∀ {M}, Dice H' d d0 M → H' a ≠ none := fun a ha H' c M hM z => by
    by_cases h1 : a = d
    · exact hM.at.1 (h1 ▸ z)
    by_cases h2 : a = d0
    · exact hM.at.2.1 (h2 ▸ z)
    cases e : H a with
    | none => exact hS a ha e
    | some o => rw [c _ _ h1 h2 e] at z; cases z
  -- isinstance(thing, (list, tuple))
  refine ⟨_, rfl, (by show 2 ≤ sizeLine; decide), fun p hp => ⟨_, _, _, _, _, _, rfl, upd_same, cl_seq, ty_of ((hx.mono hid_same).mono (same_new hp _)), kit_seq, _, rfl, ?_⟩⟩
  have s1 := same_new hp (.tup [.ty "list", .ty "tuple"])
  have hD1 := hD.same s1
  have hx1 := hx.mono (Same.hid (S := S) s1)
  have c01 := Chg.of (d := d) (d0 := d0) s1
  generalize upd H p (.tup [.ty "list", .ty "tuple"]) = H1 at s1 hD1 hx1 c01
  have odd : ∀ H2 M, Chg d d0 H H2 → Dice H2 d d0 M → M ≤ N + 5 → spOdd [.ref d] H2 (fun v H' => Q v H') (fun _ _ _ => False) := fun H2 M c hM hle =>
    ⟨d, d0, M, rfl, hM, by omega, fun v H' dv c' hD' hd hf => by
      unfold fine at hf
      simp only [Bool.and_eq_true, decide_eq_true_eq] at hf
      exact q v H' dv (c.trans c') (hD'.mono (by omega)) (hd.mono (new_hid fun a ha => hSk a ha H2 c hM)) hf.1.1 (by omega) (by have := wD_pos dx; omega)⟩
  refine ite2 (fun k1 => ?_) (fun k1 => ?_)
  · exact ⟨_, rfl, odd H1 N c01 hD1 (by omega)⟩
  have ks : dSeq dx = true := by simpa using k1
  refine ⟨_, rfl, d, d0, _, 6, rfl, hD1, by omega, by omega, by omega, fun r1 H2 r10 r11 c2 hD2 => ⟨rfl, _, rfl, ?_⟩⟩
  have c02 := c01.trans c2
  refine ite2 (fun k2 => ?_) (fun k2 => ?_)
  · exact ⟨_, rfl, odd H2 _ c02 hD2 (by omega)⟩
  -- found = list(thing)
  have hx2 := hx1.mono (c2.hid (S := S) hdS hd0S)
  obtain ⟨a, xs, rfl, hxs, hds⟩ := hx2.seq ks
  obtain ⟨aS, ha⟩ : a ∉ S ∧ SqX H2 a xs := by
    rcases hxs with h | h
    · exact ⟨(hid_some h).1, .inl (hid_some h).2⟩
    · exact ⟨(hid_some h).1, .inr (hid_some h).2⟩
  have dxs := depth_elems ks
  have wxs := wD_elems dx
  have oks := okD_elems hok
  have ln := hds.length
  have lw := len_wDs (elemsD dx)
  have hW : wD dx = 1 + wDs (elemsD dx) := by cases dx <;> first | (simp only [elemsD, wD]; done) | cases ks
  refine ⟨_, rfl, a, _, rfl, ha.lt, fun f hf => ?_⟩
  have s3 := same_new hf (.lst xs)
  have ef : upd H2 f (.lst xs) f = some (.lst xs) := upd_same
  have hD3 := hD2.same s3
  have mS : ∀ a ∈ S, a ∈ f :: S := fun a h => List.mem_cons_of_mem _ h
  have moreF : Same (Hid S H2) (Hid (f :: S) H2) := hid_more fun b hb => (List.mem_cons.mp hb).elim (fun z => .inr (by rw [z]; exact hf)) .inl
  have hds3 := (hds.mono moreF).mono (Same.hid (S := f :: S) s3)
  have hx3 := (hx2.mono moreF).mono (Same.hid (S := f :: S) s3)
  have c03 := c02.same s3
  have fS : f ∉ S := fun z => hSk f z H2 c02 hD2 hf
  have f0 : H f = none := by
    cases e : H f with
    | none => rfl
    | some o => rw [c02 _ _ (fun z => fS (by rw [z]; exact hdS)) (fun z => fS (by rw [z]; exact hd0S)) e] at hf; cases hf
  generalize upd H2 f (.lst xs) = H3 at s3 ef hD3 hds3 hx3 c03
  have fd : f ≠ d := fun z => fS (by rw [z]; exact hdS)
  have fd0 : f ≠ d0 := fun z => fS (by rw [z]; exact hd0S)
  -- at, way
  refine ⟨_, rfl, _, rfl, _, _, rfl, .inl (SqL.of ef), _, _, rfl, rfl, d, d0, _, _, rfl, hD3, by omega, by omega, by omega, fun ra H4 ra0 ra1 c4 hD4 => ?_⟩
  refine ⟨_, rfl, d, d0, _, 6, rfl, hD4, by omega, by omega, by omega, fun rw H5 rw0 rw1 c5 hD5 => ?_⟩
  have ef5 := c5 _ _ fd fd0 (c4 _ _ fd fd0 ef)
  have c45 := (c4.hid (S := f :: S) (mS _ hdS) (mS _ hd0S)).trans (c5.hid (mS _ hdS) (mS _ hd0S))
  have hds5 := hds3.mono c45
  have hx5 := hx3.mono c45
  have c05 := (c03.trans c4).trans c5
  refine ⟨_, rfl, _, rfl, _, _, rfl, .inl (SqL.of ef5), _, _, rfl, rfl, _, rfl, ?_⟩
  have dropS : ∀ {H' : Hp} {p : Addr} {M}, Chg d d0 H H' → Dice H' d d0 M → H' p = none → p ∉ S ∧ H p = none := fun {H' p M} c hM hp => by
    have pS : p ∉ S := fun z => hSk p z H' c hM hp
    refine ⟨pS, ?_⟩
    cases e : H p with
    | none => rfl
    | some o => rw [c _ _ (fun z => pS (by rw [z]; exact hdS)) (fun z => pS (by rw [z]; exact hd0S)) e] at hp; cases hp
  have dpx := dep_take (elemsD dx) ra.toNat
  have dpx1 := dep_take (elemsD dx) (ra + 1).toNat
  have okx := oks_take oks ra.toNat
  have okx1 := oks_take oks (ra + 1).toNat
  have wx := wDs_split (elemsD dx) ra.toNat
  have wx1 := wDs_split (elemsD dx) (ra + 1).toNat
  refine ite2 (fun k3 => ?_) (fun k3 => ?_)
  · have k3' : ra < (xs.length : Int) := by simpa using k3
    refine ⟨_, rfl, _, _, rfl, rfl, _, rfl, ?_⟩
    refine ite2 (fun k4 => ?_) (fun k4 => ?_)
    · -- one within is bent
      have rl : ra.toNat < xs.length := by omega
      obtain ⟨de, hde, hdv⟩ := hds5.get (List.getElem?_eq_getElem rl)
      have dle := depth_le hde
      have wle := wD_le hde
      refine ⟨_, rfl, _, rfl, _, rfl, _, _, _, _, rfl, rfl, SqL.of ef5, atI_int ra0 rl, d, d0, _, f :: S, _, de, rfl, hD5, by omega, List.mem_cons_of_mem _ hdS, List.mem_cons_of_mem _ hd0S, ?_, hdv, oksD_get oks hde, by omega, by omega,
        fun v' H6 dv c6 hD6 hdv6 okv depv wv => ⟨_, rfl, _, rfl, _, _, _, ra.toNat, rfl, rfl, c6 _ _ fd fd0 ef5, ixN_int ra0 k3', ?_⟩⟩
      · intro z hz
        rcases List.mem_cons.mp hz with rfl | hz
        · rw [ef5]; exact fun z => nomatch z
        · exact hSk z hz H5 c05 hD5
      have c6h := c6.hid (S := f :: S) (mS _ hdS) (mS _ hd0S)
      have U : Same (Hid (f :: S) H6) (Hid S (upd H6 f (.lst (xs.set ra.toNat v')))) := (hid_upd (Same.refl _) List.mem_cons_self _).trans (hid_less mS)
      have hesz := (DDs.set hdv6 ra.toNat (hds5.mono c6h)).mono U
      have hxz := (hx5.mono c6h).mono U
      have hDz := hD6.upd (o := .lst (xs.set ra.toNat v')) fd fd0
      have c0z := (c05.trans c6).updn f0 (.lst (xs.set ra.toNat v'))
      have hfz : upd H6 f (.lst (xs.set ra.toNat v')) f = some (.lst (xs.set ra.toNat v')) := upd_same
      have okz := oks_set (j := ra.toNat) oks okv
      have dpz := dep_set (j := ra.toNat) (e := dv) (m := dx.depth + 2) (show PyData.depthAll (elemsD dx) ≤ dx.depth + 2 by omega) (by omega)
      have wz := wDs_set (e := dv) hde
      generalize upd H6 f (.lst (xs.set ra.toNat v')) = H7 at hesz hxz hDz c0z hfz
      generalize (elemsD dx).set ra.toNat dv = esz at hesz okz dpz wz
      generalize xs.set ra.toNat v' = vsz at hesz hfz
      have hg : ∃ g, g = f := ⟨f, rfl⟩
      obtain ⟨g, eg⟩ := hg
      subst f
      have g0 := f0
      -- what is told
      refine ⟨_, rfl, _, _, _, _, _, rfl, .ty _, ty_of (hxz.mono hid_same), kI_tuple, _, rfl, d, d0, _, 8, rfl, hDz, by omega, by omega, by omega, fun r8 H6 r80 r81 c6 hD6 => ⟨_, _, rfl, rfl, rfl, _, rfl, ?_⟩⟩
      have hf6 := c6 _ _ (fun z => nd (z ▸ g0)) (fun z => nd0 (z ▸ g0)) hfz
      have hes6 := hesz.mono (c6.hid (S := S) hdS hd0S)
      have c06 := c0z.trans c6
      have gS : g ∉ S := fun z => hS _ z g0
      refine ite2 (fun _ => ?_) (fun _ => ?_)
      · refine ⟨_, rfl, g, _, rfl, .inl ⟨SqL.of hf6, fun tp htp => ?_⟩⟩
        have st := same_new htp (.tup vsz)
        have tpS : tp ∉ S := fun z => hSk _ z H6 c06 hD6 htp
        exact q _ _ (.tuple esz) (c06.same st) ((hD6.same st).mono (by omega)) (.tup (by rw [hid_out tpS]; exact upd_same) (hes6.mono (Same.hid st))) (by simp only [okD]; exact okz) (by simp only [PyData.depth]; omega) (by simp only [wD]; omega)
      · exact ⟨_, rfl, q _ _ (.list esz) c06 (hD6.mono (by omega)) (.lst (by rw [hid_out gS]; exact hf6) hes6) (by simp only [okD]; exact okz) (by simp only [PyData.depth]; omega) (by simp only [wD]; omega)⟩
    · refine ⟨_, rfl, rfl, _, rfl, ?_⟩
      refine ite2 (fun k5 => ?_) (fun k5 => ?_)
      · refine ⟨_, rfl, _, rfl, _, rfl, _, _, rfl, SqL.of ef5, fun p1 hp1 => ?_⟩
        rw [cut_pre' _ _ ra0]
        have t1 := same_new (H := H5) hp1 (.lst (xs.take ra.toNat))
        have e1 : upd H5 p1 (.lst (xs.take ra.toNat)) p1 = some (.lst (xs.take ra.toNat)) := upd_same
        have ef6 := t1 _ _ ef5
        generalize upd H5 p1 (.lst (xs.take ra.toNat)) = H6 at t1 e1 ef6
        refine ⟨_, rfl, _, rfl, _, _, rfl, rfl, _, rfl, _, _, rfl, SqL.of ef6, fun p2 hp2 => ?_⟩
        rw [cut_post' _ _ (by omega)]
        have t2 := same_new (H := H6) hp2 (.lst (xs.drop (ra + 1).toNat))
        have e2 : upd H6 p2 (.lst (xs.drop (ra + 1).toNat)) p2 = some (.lst (xs.drop (ra + 1).toNat)) := upd_same
        have e12 := t2 _ _ e1
        generalize upd H6 p2 (.lst (xs.drop (ra + 1).toNat)) = H7 at t2 e2 e12
        refine ⟨_, _, _, _, rfl, rfl, e12, e2, ?_, fun g hg => ?_⟩
        · have : (xs.take ra.toNat).length ≤ xs.length := by rw [List.length_take]; omega
          have : (xs.drop (ra + 1).toNat).length ≤ xs.length := by rw [List.length_drop]; omega
          show _ ≤ (_ : Nat)
          have z : (10 : Nat) ^ 5 ≤ sizeLine := by decide
          omega
        have t12 := t1.trans t2
        obtain ⟨gS0, g0⟩ := dropS (c05.same t12) (hD5.same t12) hg
        have t3 := t12.trans (same_new hg (.lst (xs.take ra.toNat ++ xs.drop (ra + 1).toNat)))
        have hfz : upd H7 g (.lst (xs.take ra.toNat ++ xs.drop (ra + 1).toNat)) g = some (.lst (xs.take ra.toNat ++ xs.drop (ra + 1).toNat)) := upd_same
        have mz := (Same.hid (S := f :: S) t3).trans (hid_less mS)
        have hesz := ((hds5.take ra.toNat).append (hds5.drop (ra + 1).toNat)).mono mz
        have hxz := hx5.mono mz
        have hDz := hD5.same t3
        have c0z := c05.same t3
        have okz : oksD ((elemsD dx).take ra.toNat ++ (elemsD dx).drop (ra + 1).toNat) = true := by rw [oksD_append, okx.1, okx1.2]; rfl
        have dpz := depthAll_append ((elemsD dx).take ra.toNat) ((elemsD dx).drop (ra + 1).toNat)
        have wz := wDs_append ((elemsD dx).take ra.toNat) ((elemsD dx).drop (ra + 1).toNat)
        have w3 := wDs_split (List.drop ra.toNat (elemsD dx)) 1
        rw [List.drop_drop, show ra.toNat + 1 = (ra + 1).toNat by omega] at w3
        generalize (elemsD dx).take ra.toNat ++ (elemsD dx).drop (ra + 1).toNat = esz at hesz okz dpz wz
        generalize upd H7 g (.lst (xs.take ra.toNat ++ xs.drop (ra + 1).toNat)) = H8 at hfz t3 hesz hxz hDz c0z mz
        generalize xs.take ra.toNat ++ xs.drop (ra + 1).toNat = vsz at hesz hfz
        -- what is told
        refine ⟨_, rfl, _, _, _, _, _, rfl, .ty _, ty_of (hxz.mono hid_same), kI_tuple, _, rfl, d, d0, _, 8, rfl, hDz, by omega, by omega, by omega, fun r8 H6 r80 r81 c6 hD6 => ⟨_, _, rfl, rfl, rfl, _, rfl, ?_⟩⟩
        have hf6 := c6 _ _ (fun z => nd (z ▸ g0)) (fun z => nd0 (z ▸ g0)) hfz
        have hes6 := hesz.mono (c6.hid (S := S) hdS hd0S)
        have c06 := c0z.trans c6
        have gS : g ∉ S := fun z => hS _ z g0
        refine ite2 (fun _ => ?_) (fun _ => ?_)
        · refine ⟨_, rfl, g, _, rfl, .inl ⟨SqL.of hf6, fun tp htp => ?_⟩⟩
          have st := same_new htp (.tup vsz)
          have tpS : tp ∉ S := fun z => hSk _ z H6 c06 hD6 htp
          exact q _ _ (.tuple esz) (c06.same st) ((hD6.same st).mono (by omega)) (.tup (by rw [hid_out tpS]; exact upd_same) (hes6.mono (Same.hid st))) (by simp only [okD]; exact okz) (by simp only [PyData.depth]; omega) (by simp only [wD]; omega)
        · exact ⟨_, rfl, q _ _ (.list esz) c06 (hD6.mono (by omega)) (.lst (by rw [hid_out gS]; exact hf6) hes6) (by simp only [okD]; exact okz) (by simp only [PyData.depth]; omega) (by simp only [wD]; omega)⟩
      · refine ⟨_, rfl, _, rfl, _, rfl, _, _, rfl, SqL.of ef5, fun p1 hp1 => ?_⟩
        rw [cut_pre' _ _ ra0]
        have t1 := same_new (H := H5) hp1 (.lst (xs.take ra.toNat))
        have e1 : upd H5 p1 (.lst (xs.take ra.toNat)) p1 = some (.lst (xs.take ra.toNat)) := upd_same
        have ef6 := t1 _ _ ef5
        obtain ⟨p1S, p10⟩ := dropS c05 hD5 hp1
        generalize upd H5 p1 (.lst (xs.take ra.toNat)) = H6 at t1 e1 ef6
        refine ⟨_, rfl, d, d0, _, rfl, hD5.same t1, by omega, fun v H7 dv c7 hD7 hd7 hf7 => ⟨(by show 1 ≤ sizeLine; decide), fun p2 hp2 => ?_⟩⟩
        have e17 := c7 _ _ (fun z => p1S (by rw [z]; exact hdS)) (fun z => p1S (by rw [z]; exact hd0S)) e1
        have ef7 := c7 _ _ fd fd0 ef6
        have t2 := same_new (H := H7) hp2 (.lst [v])
        have e2 : upd H7 p2 (.lst [v]) p2 = some (.lst [v]) := upd_same
        have e18 := t2 _ _ e17
        have ef8 := t2 _ _ ef7
        have hS7 : ∀ a ∈ f :: S, H6 a ≠ none := fun z hz => by
          rcases List.mem_cons.mp hz with rfl | hz
          · rw [ef6]; exact fun z => nomatch z
          · exact hSk z hz H6 (c05.same t1) (hD5.same t1)
        have hd8 := ((hd7.mono (new_hid hS7)).mono (Same.hid (S := f :: S) t2))
        have c58 := ((Same.hid (S := f :: S) t1).trans (c7.hid (mS _ hdS) (mS _ hd0S))).trans (Same.hid t2)
        have hds8 := hds5.mono c58
        have hx8 := hx5.mono c58
        have hD8 := hD7.same t2
        have c08 := ((c05.same t1).trans c7).same t2
        have hv8 : DDs (Hid (f :: S) (upd H7 p2 (.lst [v]))) [v] [dv] := .cons hd8 .nil
        generalize upd H7 p2 (.lst [v]) = H8 at t2 e2 e18 ef8 hds8 hx8 hD8 c08 hv8
        have l1 : (xs.take ra.toNat).length ≤ xs.length := by rw [List.length_take]; omega
        have l2 : (xs.drop ra.toNat).length ≤ xs.length := by rw [List.length_drop]; omega
        have zz : (10 : Nat) ^ 5 ≤ sizeLine := by decide
        refine ⟨_, _, _, _, rfl, rfl, e18, e2, (by simp only [List.length_cons, List.length_nil]; omega), fun p3 hp3 => ?_⟩
        have t3 := same_new (H := H8) hp3 (.lst (xs.take ra.toNat ++ [v]))
        have e3 : upd H8 p3 (.lst (xs.take ra.toNat ++ [v])) p3 = some (.lst (xs.take ra.toNat ++ [v])) := upd_same
        have ef9 := t3 _ _ ef8
        generalize upd H8 p3 (.lst (xs.take ra.toNat ++ [v])) = H9 at t3 e3 ef9
        refine ⟨_, rfl, _, rfl, _, rfl, _, _, rfl, SqL.of ef9, fun p4 hp4 => ?_⟩
        rw [cut_post' _ _ ra0]
        have t4 := same_new (H := H9) hp4 (.lst (xs.drop ra.toNat))
        have e4 : upd H9 p4 (.lst (xs.drop ra.toNat)) p4 = some (.lst (xs.drop ra.toNat)) := upd_same
        have e34 := t4 _ _ e3
        generalize upd H9 p4 (.lst (xs.drop ra.toNat)) = H10 at t4 e4 e34
        refine ⟨_, _, _, _, rfl, rfl, e34, e4, (by simp only [List.length_append, List.length_cons, List.length_nil]; omega), fun g hg => ?_⟩
        have t34 := t3.trans t4
        obtain ⟨gS0, g0⟩ := dropS (c08.same t34) (hD8.same t34) hg
        have t5 := t34.trans (same_new hg (.lst (xs.take ra.toNat ++ [v] ++ xs.drop ra.toNat)))
        have hfz : upd H10 g (.lst (xs.take ra.toNat ++ [v] ++ xs.drop ra.toNat)) g = some (.lst (xs.take ra.toNat ++ [v] ++ xs.drop ra.toNat)) := upd_same
        have mz := (Same.hid (S := f :: S) t5).trans (hid_less mS)
        have hesz := (((hds8.take ra.toNat).append hv8).append (hds8.drop ra.toNat)).mono mz
        have hxz := hx8.mono mz
        have hDz := hD8.same t5
        have c0z := c08.same t5
        unfold fine at hf7
        simp only [Bool.and_eq_true, decide_eq_true_eq] at hf7
        have okz : oksD ((elemsD dx).take ra.toNat ++ [dv] ++ (elemsD dx).drop ra.toNat) = true := by rw [oksD_append, oksD_append, okx.1, okx.2]; simp only [oksD, hf7.1.1, Bool.and_self]
        have dp1 := depthAll_append ((elemsD dx).take ra.toNat ++ [dv]) ((elemsD dx).drop ra.toNat)
        have dp2 := depthAll_append ((elemsD dx).take ra.toNat) [dv]
        have dp3 : PyData.depthAll [dv] ≤ dv.depth := by simp only [PyData.depthAll]; omega
        have wz := wDs_append ((elemsD dx).take ra.toNat ++ [dv]) ((elemsD dx).drop ra.toNat)
        have wz2 := wDs_append ((elemsD dx).take ra.toNat) [dv]
        have wz3 : wDs [dv] = wD dv := by simp only [wDs]; omega
        generalize (elemsD dx).take ra.toNat ++ [dv] ++ (elemsD dx).drop ra.toNat = esz at hesz okz dp1 wz
        generalize upd H10 g (.lst (xs.take ra.toNat ++ [v] ++ xs.drop ra.toNat)) = H11 at hfz t5 hesz hxz hDz c0z mz
        generalize xs.take ra.toNat ++ [v] ++ xs.drop ra.toNat = vsz at hesz hfz
        -- what is told
        refine ⟨_, rfl, _, _, _, _, _, rfl, .ty _, ty_of (hxz.mono hid_same), kI_tuple, _, rfl, d, d0, _, 8, rfl, hDz, by omega, by omega, by omega, fun r8 H6 r80 r81 c6 hD6 => ⟨_, _, rfl, rfl, rfl, _, rfl, ?_⟩⟩
        have hf6 := c6 _ _ (fun z => nd (z ▸ g0)) (fun z => nd0 (z ▸ g0)) hfz
        have hes6 := hesz.mono (c6.hid (S := S) hdS hd0S)
        have c06 := c0z.trans c6
        have gS : g ∉ S := fun z => hS _ z g0
        refine ite2 (fun _ => ?_) (fun _ => ?_)
        · refine ⟨_, rfl, g, _, rfl, .inl ⟨SqL.of hf6, fun tp htp => ?_⟩⟩
          have st := same_new htp (.tup vsz)
          have tpS : tp ∉ S := fun z => hSk _ z H6 c06 hD6 htp
          exact q _ _ (.tuple esz) (c06.same st) ((hD6.same st).mono (by omega)) (.tup (by rw [hid_out tpS]; exact upd_same) (hes6.mono (Same.hid st))) (by simp only [okD]; exact okz) (by simp only [PyData.depth]; omega) (by simp only [wD]; omega)
        · exact ⟨_, rfl, q _ _ (.list esz) c06 (hD6.mono (by omega)) (.lst (by rw [hid_out gS]; exact hf6) hes6) (by simp only [okD]; exact okz) (by simp only [PyData.depth]; omega) (by simp only [wD]; omega)⟩
  · refine ite2 (fun z => Bool.noConfusion z) (fun _ => ?_)
    · refine ⟨_, rfl, rfl, _, rfl, ?_⟩
      refine ite2 (fun k5 => ?_) (fun k5 => ?_)
      · refine ⟨_, rfl, _, rfl, _, rfl, _, _, rfl, SqL.of ef5, fun p1 hp1 => ?_⟩
        rw [cut_pre' _ _ ra0]
        have t1 := same_new (H := H5) hp1 (.lst (xs.take ra.toNat))
        have e1 : upd H5 p1 (.lst (xs.take ra.toNat)) p1 = some (.lst (xs.take ra.toNat)) := upd_same
        have ef6 := t1 _ _ ef5
        generalize upd H5 p1 (.lst (xs.take ra.toNat)) = H6 at t1 e1 ef6
        refine ⟨_, rfl, _, rfl, _, _, rfl, rfl, _, rfl, _, _, rfl, SqL.of ef6, fun p2 hp2 => ?_⟩
        rw [cut_post' _ _ (by omega)]
        have t2 := same_new (H := H6) hp2 (.lst (xs.drop (ra + 1).toNat))
        have e2 : upd H6 p2 (.lst (xs.drop (ra + 1).toNat)) p2 = some (.lst (xs.drop (ra + 1).toNat)) := upd_same
        have e12 := t2 _ _ e1
        generalize upd H6 p2 (.lst (xs.drop (ra + 1).toNat)) = H7 at t2 e2 e12
        refine ⟨_, _, _, _, rfl, rfl, e12, e2, ?_, fun g hg => ?_⟩
        · have : (xs.take ra.toNat).length ≤ xs.length := by rw [List.length_take]; omega
          have : (xs.drop (ra + 1).toNat).length ≤ xs.length := by rw [List.length_drop]; omega
          show _ ≤ (_ : Nat)
          have z : (10 : Nat) ^ 5 ≤ sizeLine := by decide
          omega
        have t12 := t1.trans t2
        obtain ⟨gS0, g0⟩ := dropS (c05.same t12) (hD5.same t12) hg
        have t3 := t12.trans (same_new hg (.lst (xs.take ra.toNat ++ xs.drop (ra + 1).toNat)))
        have hfz : upd H7 g (.lst (xs.take ra.toNat ++ xs.drop (ra + 1).toNat)) g = some (.lst (xs.take ra.toNat ++ xs.drop (ra + 1).toNat)) := upd_same
        have mz := (Same.hid (S := f :: S) t3).trans (hid_less mS)
        have hesz := ((hds5.take ra.toNat).append (hds5.drop (ra + 1).toNat)).mono mz
        have hxz := hx5.mono mz
        have hDz := hD5.same t3
        have c0z := c05.same t3
        have okz : oksD ((elemsD dx).take ra.toNat ++ (elemsD dx).drop (ra + 1).toNat) = true := by rw [oksD_append, okx.1, okx1.2]; rfl
        have dpz := depthAll_append ((elemsD dx).take ra.toNat) ((elemsD dx).drop (ra + 1).toNat)
        have wz := wDs_append ((elemsD dx).take ra.toNat) ((elemsD dx).drop (ra + 1).toNat)
        have w3 := wDs_split (List.drop ra.toNat (elemsD dx)) 1
        rw [List.drop_drop, show ra.toNat + 1 = (ra + 1).toNat by omega] at w3
        generalize (elemsD dx).take ra.toNat ++ (elemsD dx).drop (ra + 1).toNat = esz at hesz okz dpz wz
        generalize upd H7 g (.lst (xs.take ra.toNat ++ xs.drop (ra + 1).toNat)) = H8 at hfz t3 hesz hxz hDz c0z mz
        generalize xs.take ra.toNat ++ xs.drop (ra + 1).toNat = vsz at hesz hfz
        -- what is told
        refine ⟨_, rfl, _, _, _, _, _, rfl, .ty _, ty_of (hxz.mono hid_same), kI_tuple, _, rfl, d, d0, _, 8, rfl, hDz, by omega, by omega, by omega, fun r8 H6 r80 r81 c6 hD6 => ⟨_, _, rfl, rfl, rfl, _, rfl, ?_⟩⟩
        have hf6 := c6 _ _ (fun z => nd (z ▸ g0)) (fun z => nd0 (z ▸ g0)) hfz
        have hes6 := hesz.mono (c6.hid (S := S) hdS hd0S)
        have c06 := c0z.trans c6
        have gS : g ∉ S := fun z => hS _ z g0
        refine ite2 (fun _ => ?_) (fun _ => ?_)
        · refine ⟨_, rfl, g, _, rfl, .inl ⟨SqL.of hf6, fun tp htp => ?_⟩⟩
          have st := same_new htp (.tup vsz)
          have tpS : tp ∉ S := fun z => hSk _ z H6 c06 hD6 htp
          exact q _ _ (.tuple esz) (c06.same st) ((hD6.same st).mono (by omega)) (.tup (by rw [hid_out tpS]; exact upd_same) (hes6.mono (Same.hid st))) (by simp only [okD]; exact okz) (by simp only [PyData.depth]; omega) (by simp only [wD]; omega)
        · exact ⟨_, rfl, q _ _ (.list esz) c06 (hD6.mono (by omega)) (.lst (by rw [hid_out gS]; exact hf6) hes6) (by simp only [okD]; exact okz) (by simp only [PyData.depth]; omega) (by simp only [wD]; omega)⟩
      · refine ⟨_, rfl, _, rfl, _, rfl, _, _, rfl, SqL.of ef5, fun p1 hp1 => ?_⟩
        rw [cut_pre' _ _ ra0]
        have t1 := same_new (H := H5) hp1 (.lst (xs.take ra.toNat))
        have e1 : upd H5 p1 (.lst (xs.take ra.toNat)) p1 = some (.lst (xs.take ra.toNat)) := upd_same
        have ef6 := t1 _ _ ef5
        obtain ⟨p1S, p10⟩ := dropS c05 hD5 hp1
        generalize upd H5 p1 (.lst (xs.take ra.toNat)) = H6 at t1 e1 ef6
        refine ⟨_, rfl, d, d0, _, rfl, hD5.same t1, by omega, fun v H7 dv c7 hD7 hd7 hf7 => ⟨(by show 1 ≤ sizeLine; decide), fun p2 hp2 => ?_⟩⟩
        have e17 := c7 _ _ (fun z => p1S (by rw [z]; exact hdS)) (fun z => p1S (by rw [z]; exact hd0S)) e1
        have ef7 := c7 _ _ fd fd0 ef6
        have t2 := same_new (H := H7) hp2 (.lst [v])
        have e2 : upd H7 p2 (.lst [v]) p2 = some (.lst [v]) := upd_same
        have e18 := t2 _ _ e17
        have ef8 := t2 _ _ ef7
        have hS7 : ∀ a ∈ f :: S, H6 a ≠ none := fun z hz => by
          rcases List.mem_cons.mp hz with rfl | hz
          · rw [ef6]; exact fun z => nomatch z
          · exact hSk z hz H6 (c05.same t1) (hD5.same t1)
        have hd8 := ((hd7.mono (new_hid hS7)).mono (Same.hid (S := f :: S) t2))
        have c58 := ((Same.hid (S := f :: S) t1).trans (c7.hid (mS _ hdS) (mS _ hd0S))).trans (Same.hid t2)
        have hds8 := hds5.mono c58
        have hx8 := hx5.mono c58
        have hD8 := hD7.same t2
        have c08 := ((c05.same t1).trans c7).same t2
        have hv8 : DDs (Hid (f :: S) (upd H7 p2 (.lst [v]))) [v] [dv] := .cons hd8 .nil
        generalize upd H7 p2 (.lst [v]) = H8 at t2 e2 e18 ef8 hds8 hx8 hD8 c08 hv8
        have l1 : (xs.take ra.toNat).length ≤ xs.length := by rw [List.length_take]; omega
        have l2 : (xs.drop ra.toNat).length ≤ xs.length := by rw [List.length_drop]; omega
        have zz : (10 : Nat) ^ 5 ≤ sizeLine := by decide
        refine ⟨_, _, _, _, rfl, rfl, e18, e2, (by simp only [List.length_cons, List.length_nil]; omega), fun p3 hp3 => ?_⟩
        have t3 := same_new (H := H8) hp3 (.lst (xs.take ra.toNat ++ [v]))
        have e3 : upd H8 p3 (.lst (xs.take ra.toNat ++ [v])) p3 = some (.lst (xs.take ra.toNat ++ [v])) := upd_same
        have ef9 := t3 _ _ ef8
        generalize upd H8 p3 (.lst (xs.take ra.toNat ++ [v])) = H9 at t3 e3 ef9
        refine ⟨_, rfl, _, rfl, _, rfl, _, _, rfl, SqL.of ef9, fun p4 hp4 => ?_⟩
        rw [cut_post' _ _ ra0]
        have t4 := same_new (H := H9) hp4 (.lst (xs.drop ra.toNat))
        have e4 : upd H9 p4 (.lst (xs.drop ra.toNat)) p4 = some (.lst (xs.drop ra.toNat)) := upd_same
        have e34 := t4 _ _ e3
        generalize upd H9 p4 (.lst (xs.drop ra.toNat)) = H10 at t4 e4 e34
        refine ⟨_, _, _, _, rfl, rfl, e34, e4, (by simp only [List.length_append, List.length_cons, List.length_nil]; omega), fun g hg => ?_⟩
        have t34 := t3.trans t4
        obtain ⟨gS0, g0⟩ := dropS (c08.same t34) (hD8.same t34) hg
        have t5 := t34.trans (same_new hg (.lst (xs.take ra.toNat ++ [v] ++ xs.drop ra.toNat)))
        have hfz : upd H10 g (.lst (xs.take ra.toNat ++ [v] ++ xs.drop ra.toNat)) g = some (.lst (xs.take ra.toNat ++ [v] ++ xs.drop ra.toNat)) := upd_same
        have mz := (Same.hid (S := f :: S) t5).trans (hid_less mS)
        have hesz := (((hds8.take ra.toNat).append hv8).append (hds8.drop ra.toNat)).mono mz
        have hxz := hx8.mono mz
        have hDz := hD8.same t5
        have c0z := c08.same t5
        unfold fine at hf7
        simp only [Bool.and_eq_true, decide_eq_true_eq] at hf7
        have okz : oksD ((elemsD dx).take ra.toNat ++ [dv] ++ (elemsD dx).drop ra.toNat) = true := by rw [oksD_append, oksD_append, okx.1, okx.2]; simp only [oksD, hf7.1.1, Bool.and_self]
        have dp1 := depthAll_append ((elemsD dx).take ra.toNat ++ [dv]) ((elemsD dx).drop ra.toNat)
        have dp2 := depthAll_append ((elemsD dx).take ra.toNat) [dv]
        have dp3 : PyData.depthAll [dv] ≤ dv.depth := by simp only [PyData.depthAll]; omega
        have wz := wDs_append ((elemsD dx).take ra.toNat ++ [dv]) ((elemsD dx).drop ra.toNat)
        have wz2 := wDs_append ((elemsD dx).take ra.toNat) [dv]
        have wz3 : wDs [dv] = wD dv := by simp only [wDs]; omega
        generalize (elemsD dx).take ra.toNat ++ [dv] ++ (elemsD dx).drop ra.toNat = esz at hesz okz dp1 wz
        generalize upd H10 g (.lst (xs.take ra.toNat ++ [v] ++ xs.drop ra.toNat)) = H11 at hfz t5 hesz hxz hDz c0z mz
        generalize xs.take ra.toNat ++ [v] ++ xs.drop ra.toNat = vsz at hesz hfz
        -- what is told
        refine ⟨_, rfl, _, _, _, _, _, rfl, .ty _, ty_of (hxz.mono hid_same), kI_tuple, _, rfl, d, d0, _, 8, rfl, hDz, by omega, by omega, by omega, fun r8 H6 r80 r81 c6 hD6 => ⟨_, _, rfl, rfl, rfl, _, rfl, ?_⟩⟩
        have hf6 := c6 _ _ (fun z => nd (z ▸ g0)) (fun z => nd0 (z ▸ g0)) hfz
        have hes6 := hesz.mono (c6.hid (S := S) hdS hd0S)
        have c06 := c0z.trans c6
        have gS : g ∉ S := fun z => hS _ z g0
        refine ite2 (fun _ => ?_) (fun _ => ?_)
        · refine ⟨_, rfl, g, _, rfl, .inl ⟨SqL.of hf6, fun tp htp => ?_⟩⟩
          have st := same_new htp (.tup vsz)
          have tpS : tp ∉ S := fun z => hSk _ z H6 c06 hD6 htp
          exact q _ _ (.tuple esz) (c06.same st) ((hD6.same st).mono (by omega)) (.tup (by rw [hid_out tpS]; exact upd_same) (hes6.mono (Same.hid st))) (by simp only [okD]; exact okz) (by simp only [PyData.depth]; omega) (by simp only [wD]; omega)
        · exact ⟨_, rfl, q _ _ (.list esz) c06 (hD6.mono (by omega)) (.lst (by rw [hid_out gS]; exact hf6) hes6) (by simp only [okD]; exact okz) (by simp only [PyData.depth]; omega) (by simp only [wD]; omega)⟩
end
end K00

set_option Elab.async false
set_option linter.all false
set_option maxRecDepth 100000
set_option maxHeartbeats 4000000
namespace MC
open PySem PySem.Spec L2
theorem abc_sign (c : Nat) : decide (c ∈ (Str.ofString "abcdefghijklmnopqrstuvwxyz").cps.toList) = isSign c := by
  have e : (Str.ofString "abcdefghijklmnopqrstuvwxyz").cps.toList = List.range' 97 26 := by decide +kernel
  rw [e]
  unfold isSign
  rw [← Bool.decide_and]
  exact decide_eq_decide.mpr (by rw [List.mem_range'_1]; omega)
theorem dNil_empty (d : PyData) : dNil d = (emptyL d || emptyT d) := by
  cases d with
  | list xs => cases xs <;> rfl
  | tuple xs => cases xs <;> rfl
  | _ => rfl
theorem filt_more {α : Type} (p : α → Bool) {l : List α} {i : Nat} {x : α} (h : l[i]? = some x) : (l.take (i + 1)).filter p = (l.take i).filter p ++ (if p x = true then [x] else []) := by
  rw [take_more h, List.filter_append, List.filter_cons, List.filter_nil]
theorem filt_len {α : Type} (p : α → Bool) (l : List α) (i : Nat) : ((l.take i).filter p).length ≤ l.length :=
  Nat.le_trans (List.length_filter_le _ _) (by rw [List.length_take]; exact Nat.min_le_right _ _)
theorem filt_none {α : Type} (p : α → Bool) (l : List α) : (l.filter fun x => !p x).isEmpty = l.all p := by
  induction l with
  | nil => rfl
  | cons x xs ih =>
    rw [List.filter_cons, List.all_cons]
    cases e : p x <;> simp [ih]
end MC
namespace K00
open PySem PySem.Spec L2 MC
open PyProof.Rows hiding St
section
variable {P : Program} {w : World} {K : PySem.W.Frag} {mg : Str → Option Value} {base : Heap}
variable {f_l_is_thing f_l_is_part f_l_is_row : Addr} {fd_l_is_thing fd_l_is_part fd_l_is_row : FuncData}
theorem ok_l_is_thing (T : Txt K mg) (O_l_is_thing : Own K mg "_law_is_thing" s_l_is_thing f_l_is_thing fd_l_is_thing ["_law_thing"]) : FnOk P w K mg base CX0 1 f_l_is_thing fd_l_is_thing ["_law_thing"] (spD thingD) := by
  refine O_l_is_thing.F.ok sc_l_is_thing spD_len (fun cdv A outer s H vs Q E hr h => ?_)
  obtain ⟨x, d, rfl, hd, hok, hdp, hwd, q⟩ := h
  have hu1 : (A.deeper (envOfC "_law_is_thing" (defScope s_l_is_thing) s.heap.objs.size f_l_is_thing cdv)).units < cLine := by have := hr.un; omega
  refine ⟨_, (pss_cons (ps_if (PW.pt (pw_or (pt_not (pt_val (pe_callB (k_isi (K := K) rfl) (by rfl) T.n_isinstance (by decide +kernel) (pa_cons (pv 0) (pa_cons (pe_bltn (v := .ty "str") (by rfl) T.n_str (by decide +kernel) rfl) pa_nil))))) (pw_or (pt_cmpR op_lt (pe_callB (k_len_str (K := K) rfl) (by rfl) T.n_len (by decide +kernel) (pa_cons (pv 0) pa_nil)) pe_int (nomark _)) (pw_or1 (pt_cmpR op_gt (pe_callB (k_len_str (K := K) rfl) (by rfl) T.n_len (by decide +kernel) (pa_cons (pv 0) pa_nil)) pe_int (nomark _))))))
    (pss_one (ps_ret pe_bl))
    pss_nil)
    (pss_one (ps_ret (pe_cmpR (k_eqNil (K := K) rfl hu1) (pe_lc (own := [("_law_sign", 1)]) rfl sc_l_is_thing.nd (pi_str (pv 0)) (blkOk_by (own := [("_law_sign", 1)]) (N := ["_law_thing", "_law_sign"]) (sc := defScope s_l_is_thing) (by decide +kernel)) (fun _ _ _ _ _ => (pg_name (i := 1) sc_l_is_thing.nd rfl (Or.inl rfl))) (fun _ _ _ _ _ => pts_one (pt_cmpR op_notIn_sign (pv 1) pe_str (by rfl))) (fun _ _ _ _ _ => (pv 1))) (pe_lst pa_nil) (nomark _))))), ?_⟩
  refine ⟨_, rfl, _, _, _, _, _, rfl, .ty _, ty_of hd, kI_str, _, rfl, ?_⟩
  refine ite2 (fun c => ?_) (fun c => ?_)
  · have q := q H (Same.refl H)
    have e : thingD d = false := by cases d <;> first | rfl | simp [dStr] at c
    rw [e] at q
    exact iteT q
  have k : dStr d = true := by simpa using c
  cases hd with
  | str z =>
    have hz : z.length ≤ 9 := by simp only [okD, Bool.and_eq_true, decide_eq_true_eq] at hok; exact hok.1
    have hz2 : z.length ≤ sizeLine := Nat.le_trans hz (by decide)
    have bad : ¬ (1 ≤ z.length ∧ z.length ≤ 8) → Q (.bl false) H := fun e => by
      have q := q H (Same.refl H)
      have e2 : thingD (.str z) = false := by
        simp only [thingD, isThingS, Bool.and_eq_false_iff, decide_eq_false_iff_not]
        by_cases h1 : 1 ≤ z.length
        · by_cases h2 : z.length ≤ 8
          · exact absurd ⟨h1, h2⟩ e
          · exact .inl (.inr h2)
        · exact .inl (.inl h1)
      rw [e2] at q
      exact q
    refine ⟨_, rfl, z, rfl, hz2, _, _, rfl, rfl, _, rfl, ?_⟩
    refine ite2 (fun c1 => ?_) (fun c1 => ?_)
    · exact iteT (bad (by simp at c1; omega))
    refine ⟨_, rfl, z, rfl, hz2, _, _, rfl, rfl, _, rfl, ?_⟩
    refine ite2 (fun c2 => ?_) (fun c2 => ?_)
    · exact bad (by simp at c2; omega)
    have l1 : 1 ≤ z.length := by simp at c1; omega
    have l2 : z.length ≤ 8 := by simp at c2; omega
    refine ⟨_, rfl, z, rfl, fun D hD => lc_str (fun i H' => Same H H' ∧ H' D = some (.lst (((z.cps.toList.take i).filter fun c => !isSign c).map fun c => V.str ⟨#[c]⟩))) ⟨same_new hD _, upd_same⟩ ?_ ?_⟩
    · rintro i c H1 e ⟨s1, h1⟩
      have e' : z.cps.toList[i]? = some c := by simpa using e
      have fm := filt_more (fun c => !isSign c) e'
      refine ⟨rfl, ?_⟩
      refine ⟨_, rfl, c, _, rfl, rfl, _, rfl, ?_⟩
      rw [abc_sign]
      refine ite2 (fun c3 => ?_) (fun c3 => ?_)
      · refine ⟨_, rfl, _, h1, ?_, same_mut s1 hD _, ?_⟩
        · rw [List.length_map]
          have l := filt_len (fun c => !isSign c) z.cps.toList i
          have l3 : z.cps.toList.length ≤ 9 := by rw [Array.length_toList]; exact hz
          exact Nat.lt_of_le_of_lt (Nat.le_trans l l3) (by decide)
        · rw [upd_same, fm, if_pos c3, List.map_append]
          rfl
      · refine ⟨s1, ?_⟩
        rw [fm, if_neg c3, List.append_nil]
        exact h1
    · rintro H1 ⟨s1, h1⟩
      have full : z.cps.toList.take z.cps.size = z.cps.toList := List.take_of_length_le (by simp)
      rw [full] at h1
      refine ⟨Nat.zero_le _, fun p hp => ⟨_, _, _, rfl, rfl, SqL.of (same_new hp _ _ _ h1), upd_same, ?_⟩⟩
      have q := q _ (s1.trans (same_new hp (.lst [])))
      have e2 : thingD (.str z) = ((z.cps.toList.filter fun c => !isSign c).map fun c => V.str ⟨#[c]⟩).isEmpty := by
        rw [List.isEmpty_map, filt_none]
        simp only [thingD, isThingS, l1, l2]
        rfl
      rw [e2] at q
      exact q
  | _ => cases k
def spDm (m : Nat) (g : PyData → Bool) : Sp := fun vs H Q _ => ∃ x d, vs = [x] ∧ DD H x d ∧ okD d = true ∧ d.depth < m ∧ d.depth ≤ 60 ∧ wD d ≤ 2000 ∧ ∀ H', Same H H' → Q (.bl (g d)) H'
theorem spDm_len {m : Nat} {g : PyData → Bool} : ∀ vs H Q E, spDm m g vs H Q E → vs.length = 1 := fun vs H Q E h => by
  obtain ⟨x, d, rfl, _⟩ := h
  rfl
theorem spDm_no {g : PyData → Bool} : ∀ vs H Q E, ¬ spDm 0 g vs H Q E := fun vs H Q E h => by
  obtain ⟨x, d, _, _, _, h0, _⟩ := h
  exact absurd h0 (Nat.not_lt_zero _)
theorem part_step {m : Nat} (T : Txt K mg) (G_l_is_thing : FnOk P w K mg base CX0 1 f_l_is_thing fd_l_is_thing ["_law_thing"] (spD thingD)) (O_l_is_thing : Own K mg "_law_is_thing" s_l_is_thing f_l_is_thing fd_l_is_thing ["_law_thing"]) (O_l_is_row : Own K mg "_law_is_row" s_l_is_row f_l_is_row fd_l_is_row ["_law_thing"]) (O_l_is_part : Own K mg "_law_is_part" s_l_is_part f_l_is_part fd_l_is_part ["_law_part"])
    (G_l_is_row : FnOk P w K mg base CX0 (m + 2) f_l_is_row fd_l_is_row ["_law_thing"] (spDm m rowD)) : FnOk P w K mg base CX0 (m + 2 + 1) f_l_is_part fd_l_is_part ["_law_part"] (spDm (m + 1) partD) := by
  refine O_l_is_part.F.ok sc_l_is_part spDm_len (fun cdv A outer s H vs Q E hr h => ?_)
  obtain ⟨x, d, rfl, hd, hok, hdm, hdp, hwd, q⟩ := h
  have hu1 : (A.deeper (envOfC "_law_is_part" (defScope s_l_is_part) s.heap.objs.size f_l_is_part cdv)).units + 1 < cLine := by have := hr.un; omega
  have hn : ∃ o, K.lookup sysModules = some o := T.sys
  refine ⟨_, (pss_cons (ps_if (pt_not (pt_val (pe_callB (k_isi (K := K) rfl) (by rfl) T.n_isinstance (by decide +kernel) (pa_cons (pv 0) (pa_cons (pe_bltn (v := .ty "tuple") (by rfl) T.n_tuple (by decide +kernel) rfl) pa_nil)))))
    (pss_one (ps_ret (pe_call G_l_is_thing (hr.mono (by omega)) rfl O_l_is_thing.m O_l_is_thing.F.kp O_l_is_thing.b .nil pass0 (pa_cons (pv 0) pa_nil))))
    pss_nil)
    (pss_cons (ps_if (PW.pt (pw_or (pt_cmpR op_ne (pe_callB (k_len_seq (K := K) rfl) (by rfl) T.n_len (by decide +kernel) (pa_cons (pv 0) pa_nil)) pe_int (nomark _)) (pw_or (pt_not (pt_val (pe_callB (k_isi (K := K) rfl) (by rfl) T.n_isinstance (by decide +kernel) (pa_cons (pe_ix (k_ix_tup (K := K) rfl) (pv 0) pe_int (fun _ _ => rfl)) (pa_cons (pe_bltn (v := .ty "int") (by rfl) T.n_int (by decide +kernel) rfl) pa_nil))))) (pw_or1 (pt_val (pe_callB (k_isi (K := K) rfl) (by rfl) T.n_isinstance (by decide +kernel) (pa_cons (pe_ix (k_ix_tup (K := K) rfl) (pv 0) pe_int (fun _ _ => rfl)) (pa_cons (pe_bltn (v := .ty "bool") (by rfl) T.n_bool (by decide +kernel) rfl) pa_nil))))))))
    (pss_one (ps_ret pe_bl))
    pss_nil)
    (pss_one (ps_ret (pe_and (pe_chain op_le op_le pe_int (pe_ix (k_ix_tup (K := K) rfl) (pv 0) pe_int (fun _ _ => rfl)) (pe_op op_pow pe_int pe_int)) (pe_and (pe_cmpR (op_notInE hu1 hn) (pe_ix (k_ix_tup (K := K) rfl) (pv 0) pe_int (fun _ _ => rfl)) (pe_lst (pa_cons (pe_lst pa_nil) (pa_cons (pe_tup pa_nil) pa_nil))) (by rfl)) (pe_one (pe_call G_l_is_row (hr.mono (by omega)) rfl O_l_is_row.m O_l_is_row.F.kp O_l_is_row.b .nil pass0 (pa_cons (pe_ix (k_ix_tup (K := K) rfl) (pv 0) pe_int (fun _ _ => rfl)) pa_nil))))))))), ?_⟩
  refine ⟨_, rfl, _, _, _, _, _, rfl, .ty _, ty_of hd, kI_tuple, _, rfl, ?_⟩
  refine ite2 (fun c => ?_) (fun c => ?_)
  · have ct : dTup d = false := by simpa using c
    have e : partD d = thingD d := by
      rw [partD_eq, if_neg]
      rw [show againD d = false by cases d <;> first | rfl | cases ct]
      exact fun z => nomatch z
    rw [e] at q
    exact ⟨_, rfl, x, d, rfl, hd, hok, hdp, hwd, q⟩
  have ct : dTup d = true := by simpa using c
  cases hd with
  | @tup a xs ds ha hs =>
    refine ⟨_, rfl, _, _, rfl, .inr (SqT.of ha), rfl, _, rfl, ?_⟩
    refine ite2 (fun c2 => ?_) (fun c2 => ?_)
    · have e : partD (.tuple ds) = false := by
        unfold partD
        split
        · rename_i z e
          injection e
        · rename_i r t e
          injection e with e
          rw [e] at hs
          have l := hs.length
          simp [l] at c2
        · rfl
      have q := q H (Same.refl H)
      rw [e] at q
      exact iteT q
    have l2 : xs.length = 2 := by
      simp only [Bool.not_eq_true', decide_eq_false_iff_not, Decidable.not_not, V.int.injEq] at c2
      omega
    match xs, ds, hs, l2 with
    | [v1, v2], [d1, d2], .cons h1 (.cons h2 .nil), _ =>
      have hok2 : okD d1 = true ∧ okD d2 = true := by simpa [okD, oksD] using hok
      have hdp1 : d1.depth < m ∧ d1.depth ≤ 60 := by simp only [PyData.depth, PyData.depthAll] at hdm hdp; omega
      have hw1 : wD d1 ≤ 2000 := by simp only [wD, wDs] at hwd; omega
      have no : ∀ (e : partD (.tuple [d1, d2]) = false) {H'}, Same H H' → Q (.bl false) H' := fun e {H'} s => by
        have q := q H' s
        rw [e] at q
        exact q
      have g1 := atI_nat (xs := [v1, v2]) (j := 1) rfl
      have g0 := atI_nat (xs := [v1, v2]) (j := 0) rfl
      refine ⟨_, rfl, _, _, _, _, rfl, rfl, SqT.of ha, g1, _, _, _, _, _, rfl, .ty _, ty_of h2, kI_int, _, rfl, ?_⟩
      refine ite2 (fun c3 => ?_) (fun c3 => ?_)
      · exact iteT (no (by cases d2 <;> first | rfl | simp [dInt] at c3) (Same.refl H))
      refine ⟨_, rfl, _, _, _, _, rfl, rfl, SqT.of ha, g1, _, _, _, _, _, rfl, .ty _, ty_of h2, kI_bool, _, rfl, ?_⟩
      refine ite2 (fun c4 => ?_) (fun c4 => ?_)
      · exact no (by cases d2 <;> first | rfl | simp [dBool] at c4) (Same.refl H)
      cases h2 with
      | int t =>
        refine ⟨_, rfl, _, _, _, _, rfl, rfl, SqT.of ha, g1, _, _, rfl, rfl, _, rfl, ?_⟩
        refine ite2 (fun c5 => ?_) (fun c5 => ?_)
        · refine ⟨_, _, rfl, rfl, ⟨by decide, by decide, by decide⟩, _, _, rfl, rfl, _, rfl, ?_⟩
          refine ite2 (fun c6 => ?_) (fun c6 => ?_)
          · have tk : timesOk t = true := by
              have h5 : (1 : Int) ≤ t := by simpa using c5
              have h6 : t ≤ 1000000000000000000000000000000 := by
                have := of_decide_eq_true c6
                exact this
              simp [timesOk, h5, h6]
            refine ⟨_, rfl, _, _, _, _, rfl, rfl, SqT.of ha, g0, Nat.zero_le _, fun p hp => ⟨Nat.zero_le _, fun r hr => ⟨(by show 2 ≤ sizeLine; decide), fun b hb => ?_⟩⟩⟩
            have s1 := same_new hp (.lst [])
            have s2 := same_new hr (.tup [])
            have s3 := same_new hb (.lst [.ref p, .ref r])
            have s123 := s1.trans (s2.trans s3)
            refine ⟨d1, b, p, r, rfl, upd_same, s3 _ _ (s2 _ _ upd_same), s3 _ _ upd_same, h1.mono s123, _, rfl, ?_⟩
            rw [← dNil_empty]
            have ha' := s123 _ _ ha
            refine ite2 (fun c7 => ?_) (fun c7 => ?_)
            · refine ⟨_, rfl, _, _, _, _, rfl, rfl, SqT.of ha', g0, v1, d1, rfl, h1.mono s123, hok2.1, hdp1.1, hdp1.2, hw1, fun H' s4 => ?_⟩
              have q := q H' (s123.trans s4)
              have e : partD (.tuple [d1, .int t]) = rowD d1 := by
                show (timesOk t && !dNil d1 && rowD d1) = rowD d1
                rw [tk, c7]; rfl
              rw [e] at q
              exact q
            · refine no ?_ s123
              show (timesOk t && !dNil d1 && rowD d1) = false
              rw [Bool.not_eq_true] at c7
              rw [tk, c7]; rfl
          · refine no ?_ (Same.refl H)
            show (timesOk t && !dNil d1 && rowD d1) = false
            have h6 : ¬ t ≤ 1000000000000000000000000000000 := fun z => c6 (decide_eq_true z)
            rw [show timesOk t = false by simp [timesOk, h6]]
            rfl
        · refine ⟨_, rfl, ?_⟩
          refine ite2 (fun z => nomatch z) (fun _ => ?_)
          refine no ?_ (Same.refl H)
          show (timesOk t && !dNil d1 && rowD d1) = false
          have h5 : ¬ (1 : Int) ≤ t := by simpa using c5
          rw [show timesOk t = false by simp [timesOk, h5]]
          rfl
      | bl b => simp [dBool] at c4
      | _ => simp [dInt] at c3
  | _ => cases ct
theorem row_is_step {m : Nat} (T : Txt K mg) (O_l_is_part : Own K mg "_law_is_part" s_l_is_part f_l_is_part fd_l_is_part ["_law_part"]) (O_l_is_row : Own K mg "_law_is_row" s_l_is_row f_l_is_row fd_l_is_row ["_law_thing"])
    (G_l_is_part : FnOk P w K mg base CX0 (m + 2) f_l_is_part fd_l_is_part ["_law_part"] (spDm m partD)) : FnOk P w K mg base CX0 (m + 2 + 1) f_l_is_row fd_l_is_row ["_law_thing"] (spDm (m + 1) rowD) := by
  refine O_l_is_row.F.ok sc_l_is_row spDm_len (fun cdv A outer s H vs Q E hr h => ?_)
  obtain ⟨x, d, rfl, hd, hok, hdm, hdp, hwd, q⟩ := h
  have hu1 : (A.deeper (envOfC "_law_is_row" (defScope s_l_is_row) s.heap.objs.size f_l_is_row cdv)).units < cLine := by have := hr.un; omega
  refine ⟨_, (pss_one (ps_ret (pe_and (pe_callB (k_isiT (K := K) rfl) (by rfl) T.n_isinstance (by decide +kernel) (pa_cons (pv 0) (pa_cons (pe_tup (pa_cons (pe_bltn (v := .ty "list") (by rfl) T.n_list (by decide +kernel) rfl) (pa_cons (pe_bltn (v := .ty "tuple") (by rfl) T.n_tuple (by decide +kernel) rfl) pa_nil))) pa_nil))) (pe_one (pe_cmpR (k_eqNil (K := K) rfl hu1) (pe_lc (own := [("_law_part", 1)]) rfl sc_l_is_row.nd (k_seq (K := K) rfl (pv 0)) (blkOk_by (own := [("_law_part", 1)]) (N := ["_law_thing", "_law_part"]) (sc := defScope s_l_is_row) (by decide +kernel)) (fun _ _ _ _ _ => (pg_name (i := 1) sc_l_is_row.nd rfl (Or.inl rfl))) (fun _ _ _ _ _ => pts_one (pt_not (pt_val (pe_call G_l_is_part (hr.mono (by omega)) rfl O_l_is_part.m O_l_is_part.F.kp O_l_is_part.b .nil pass0 (pa_cons (pv 1) pa_nil))))) (fun _ _ _ _ _ => (pv 1))) (pe_lst pa_nil) (nomark _)))))), ?_⟩
  refine ⟨_, rfl, (by show 2 ≤ sizeLine; decide), fun p hp => ?_⟩
  have s0 := same_new hp (.tup [.ty "list", .ty "tuple"])
  refine ⟨_, _, _, _, _, _, rfl, upd_same, cl_seq, ty_of (hd.mono s0), kit_seq, _, rfl, ?_⟩
  refine ite2 (fun c => ?_) (fun c => ?_)
  case refine_2 =>
    have q := q _ s0
    rw [rowD_seq (by simpa using c)] at q
    exact q
  have k0 : dSeq d = true := by simpa using c
  obtain ⟨a, xs, rfl, hx, hxs⟩ := (hd.mono s0).seq k0
  generalize upd H p (.tup [.ty "list", .ty "tuple"]) = H1 at s0 hx hxs
  have hps := okD_elems hok
  have we := wD_elems d
  have de := depth_elems k0
  have ln := hxs.length
  have lw := len_wDs (elemsD d)
  refine ⟨_, rfl, lc_seqD (K := K) (xs := xs) hx (fun D i H' => Same H1 H' ∧ ∃ acc, H' D = some (.lst acc) ∧ acc.length ≤ i ∧ acc.isEmpty = partsD ((elemsD d).take i)) (fun D hD => ⟨same_new hD _, [], upd_same, Nat.le_refl _, rfl⟩) ?_ ?_ ?_⟩
  · rintro D i H' hD hi ⟨s1, _⟩
    rcases hx with hx | hx
    · exact (s1 _ _ hx).trans hx.symm
    · exact (s1 _ _ hx).trans hx.symm
  · rintro D i xv H2 hD hi ⟨s1, acc, hacc, lacc, eacc⟩
    obtain ⟨dv, hdv, hdd⟩ := hxs.get hi
    have okv := oksD_get hps hdv
    have wv := wD_le hdv
    have dv1 := depth_le hdv
    have tk : (elemsD d).take (i + 1) = (elemsD d).take i ++ [dv] := take_more hdv
    have il := (List.getElem?_eq_some_iff.mp hi).1
    refine ⟨rfl, ?_⟩
    refine ⟨_, rfl, xv, dv, rfl, hdd.mono s1, okv, by omega, by omega, by omega, fun H3 s3 => ⟨_, rfl, ?_⟩⟩
    have e1 : partsD ((elemsD d).take (i + 1)) = (partsD ((elemsD d).take i) && partD dv) := by
      rw [tk, partsD_eq, List.all_append, ← partsD_eq]
      simp
    refine ite2 (fun c3 => ?_) (fun c3 => ?_)
    · refine ⟨_, rfl, acc, s3 _ _ hacc, Nat.lt_of_le_of_lt (show acc.length ≤ 2000 by omega) (by decide), same_mut (s1.trans s3) hD _, _, upd_same, ?_, ?_⟩
      · rw [List.length_append]; exact Nat.add_le_add_right lacc 1
      · rw [e1, show partD dv = false by simpa using c3]
        simp
    · refine ⟨s1.trans s3, acc, s3 _ _ hacc, by omega, ?_⟩
      rw [e1, show partD dv = true by simpa using c3, Bool.and_true]
      exact eacc
  · rintro D H2 hD ⟨s1, acc, hacc, lacc, eacc⟩
    have full : (elemsD d).take xs.length = elemsD d := List.take_of_length_le (by rw [ln]; exact Nat.le_refl _)
    rw [full] at eacc
    refine ⟨Nat.zero_le _, fun p2 hp2 => ⟨_, _, _, rfl, rfl, SqL.of (same_new hp2 _ _ _ hacc), upd_same, ?_⟩⟩
    have q := q _ (s0.trans (s1.trans (same_new hp2 (.lst []))))
    rw [rowD_elems k0, ← eacc] at q
    exact q
theorem part_row (T : Txt K mg) (G_l_is_thing : FnOk P w K mg base CX0 1 f_l_is_thing fd_l_is_thing ["_law_thing"] (spD thingD)) (O_l_is_thing : Own K mg "_law_is_thing" s_l_is_thing f_l_is_thing fd_l_is_thing ["_law_thing"]) (O_l_is_row : Own K mg "_law_is_row" s_l_is_row f_l_is_row fd_l_is_row ["_law_thing"]) (O_l_is_part : Own K mg "_law_is_part" s_l_is_part f_l_is_part fd_l_is_part ["_law_part"]) :
    ∀ m, FnOk P w K mg base CX0 (m + 2) f_l_is_part fd_l_is_part ["_law_part"] (spDm m partD) ∧ FnOk P w K mg base CX0 (m + 2) f_l_is_row fd_l_is_row ["_law_thing"] (spDm m rowD)
  | 0 => ⟨⟨fun vs H Q E h => absurd h (spDm_no vs H Q E), fun A outer s H args us vs Q E _ _ _ _ h => absurd h (spDm_no vs H Q E)⟩, ⟨fun vs H Q E h => absurd h (spDm_no vs H Q E), fun A outer s H args us vs Q E _ _ _ _ h => absurd h (spDm_no vs H Q E)⟩⟩
  | m + 1 => ⟨part_step T G_l_is_thing O_l_is_thing O_l_is_row O_l_is_part (part_row T G_l_is_thing O_l_is_thing O_l_is_row O_l_is_part m).2, row_is_step T O_l_is_part O_l_is_row (part_row T G_l_is_thing O_l_is_thing O_l_is_row O_l_is_part m).1⟩
end
end K00

set_option Elab.async false
set_option linter.all false
set_option maxRecDepth 100000
set_option maxHeartbeats 4000000
namespace MC
open PySem PySem.Spec L2
theorem sqL_more {K : PySem.W.Frag} {H H' : Hp} {a : Addr} {xs : List V} (e : Same H H') (h : SqL K H a xs) : SqL K H' a xs := by
  rcases h with (h | ⟨o, h⟩) | h
  · exact SqL.of (e _ _ h)
  · exact .inl (.inr ⟨o, e _ _ h⟩)
  · exact .inr h
end MC
namespace K00
open PySem PySem.Spec L2 MC
open PyProof.Rows hiding St
def spLaw (K : PySem.W.Frag) : Sp := fun vs H Q _ => ∃ (a : Addr) (ns : List Int), vs = [.ref a] ∧ SqL K H a (ns.map V.int) ∧ ns.length ≤ 63 ∧ ∀ H', Q (.bl true) H'
section
variable {P : Program} {w : World} {K : PySem.W.Frag} {mg : Str → Option Value} {base : Heap}
variable {f_is_thing f_is_row f_l_dice f_l_roll f_l_names f_l_row f_l_dressed f_l_odd f_l_bent f_l_is_thing f_l_is_row f_law : Addr} {fd_is_thing fd_is_row fd_l_dice fd_l_roll fd_l_names fd_l_row fd_l_dressed fd_l_odd fd_l_bent fd_l_is_thing fd_l_is_row fd_law : FuncData}
theorem ok_law (T : Txt K mg) (G_is_thing : FnOk P w K mg base CX0 2 f_is_thing fd_is_thing ["thing"] (spD thingD)) (G_is_row : FnOk P w K mg base CX0 3 f_is_row fd_is_row ["thing"] (spD rowD))
    (G_l_dice : FnOk P w K mg base CX0 1 f_l_dice fd_l_dice ["_law_script"] (spDice K)) (G_l_roll : FnOk P w K mg base CX0 1 f_l_roll fd_l_roll ["_law_dice_here", "_law_many"] spRoll)
    (G_l_names : FnOk P w K mg base CX0 2 f_l_names fd_l_names ["_law_dice_here", "_law_many"] spNames) (G_l_row : FnOk P w K mg base CX0 6 f_l_row fd_l_row ["_law_dice_here", "_law_names_here", "_law_plan", "_law_layers"] (spRow 5))
    (G_l_dressed : FnOk P w K mg base CX0 6 f_l_dressed fd_l_dressed ["_law_dice_here", "_law_line"] (spDress 5)) (G_l_odd : FnOk P w K mg base CX0 2 f_l_odd fd_l_odd ["_law_dice_here"] spOdd)
    (G_l_bent : FnOk P w K mg base CX0 15 f_l_bent fd_l_bent ["_law_dice_here", "_law_thing"] (spBent 13)) (G_l_is_thing : FnOk P w K mg base CX0 1 f_l_is_thing fd_l_is_thing ["_law_thing"] (spD thingD))
    (G_l_is_row : FnOk P w K mg base CX0 18 f_l_is_row fd_l_is_row ["_law_thing"] (spDm 16 rowD))
    (O_is_thing : Own K mg "is_thing" s_is_thing f_is_thing fd_is_thing ["thing"]) (O_is_row : Own K mg "is_row" s_is_row f_is_row fd_is_row ["thing"]) (O_l_dice : Own K mg "_law_dice" s_l_dice f_l_dice fd_l_dice ["_law_script"]) (O_l_roll : Own K mg "_law_roll" s_l_roll f_l_roll fd_l_roll ["_law_dice_here", "_law_many"]) (O_l_names : Own K mg "_law_names" s_l_names f_l_names fd_l_names ["_law_dice_here", "_law_many"]) (O_l_row : Own K mg "_law_row" s_l_row f_l_row fd_l_row ["_law_dice_here", "_law_names_here", "_law_plan", "_law_layers"]) (O_l_dressed : Own K mg "_law_dressed" s_l_dressed f_l_dressed fd_l_dressed ["_law_dice_here", "_law_line"]) (O_l_odd : Own K mg "_law_odd" s_l_odd f_l_odd fd_l_odd ["_law_dice_here"]) (O_l_bent : Own K mg "_law_bent" s_l_bent f_l_bent fd_l_bent ["_law_dice_here", "_law_thing"]) (O_l_is_thing : Own K mg "_law_is_thing" s_l_is_thing f_l_is_thing fd_l_is_thing ["_law_thing"]) (O_l_is_row : Own K mg "_law_is_row" s_l_is_row f_l_is_row fd_l_is_row ["_law_thing"]) (O_law : Own K mg "law" s_law f_law fd_law ["_law_script"]) : FnA Clean P w K mg base CX0 20 f_law fd_law ["_law_script"] (spLaw K) := by
  refine FunA.ok O_law.F sc_law (fun vs H Q E h => by obtain ⟨a, ns, rfl, _⟩ := h; rfl) (fun cdv A outer s H vs Q E hg0 hr h => ?_)
  obtain ⟨a, ns, rfl, hS, hl, q⟩ := h
  have hg : (A.deeper (envOfC "law" (defScope s_law) s.heap.objs.size f_law cdv)).guards = some [] := hg0
  have hu : (A.deeper (envOfC "law" (defScope s_law) s.heap.objs.size f_law cdv)).units + 200 < cLine := by have := hr.un; omega
  have hn : ∃ o, K.lookup sysModules = some o := T.sys
  refine ⟨_, (pss_cons (ps_set (i := 1) sc_law.nd rfl (Or.inl rfl) (pe_call G_l_dice (hr.mono (by omega)) rfl O_l_dice.m O_l_dice.F.kp O_l_dice.b .nil pass0 (pa_cons (pv 0) pa_nil)))
    (pss_cons (ps_for PassesOwn.never rfl (pi_range1 (by rfl) T.n_range (pa_cons (pe_op op_add pe_int (pe_callB (call_min2 rfl) (by rfl) T.n_min (by decide +kernel) (pa_cons pe_int (pa_cons (pe_callB (k_len_seq (K := K) rfl) (by rfl) T.n_len (by decide +kernel) (pa_cons (pv 0) pa_nil)) pa_nil)))) pa_nil)) (pg_name (i := 2) sc_law.nd rfl (Or.inl rfl))
    (pss_cons (ps_set (i := 3) sc_law.nd rfl (Or.inl rfl) (pe_call G_l_names (hr.mono (by omega)) rfl O_l_names.m O_l_names.F.kp O_l_names.b .nil pass0 (pa_cons (pv 1) (pa_cons (pe_op op_add pe_int (pe_call G_l_roll (hr.mono (by omega)) rfl O_l_roll.m O_l_roll.F.kp O_l_roll.b .nil pass0 (pa_cons (pv 1) (pa_cons pe_int pa_nil)))) pa_nil))))
    (pss_cons (ps_set (i := 4) sc_law.nd rfl (Or.inl rfl) (pe_call G_l_dressed (hr.mono (by omega)) rfl O_l_dressed.m O_l_dressed.F.kp O_l_dressed.b .nil pass0 (pa_cons (pv 1) (pa_cons (pe_call G_l_row (hr.mono (by omega)) rfl O_l_row.m O_l_row.F.kp O_l_row.b .nil pass0 (pa_cons (pv 1) (pa_cons (pv 3) (pa_cons (pe_lst (pa_cons pe_int (pa_cons (pe_op op_pow pe_int pe_int) pa_nil))) (pa_cons pe_int pa_nil))))) pa_nil))))
    (pss_cons (ps_set (i := 5) sc_law.nd rfl (Or.inl rfl) (pe_lst (pa_cons (pv 4) (pa_cons (pe_call G_l_bent (hr.mono (by omega)) rfl O_l_bent.m O_l_bent.F.kp O_l_bent.b .nil pass0 (pa_cons (pv 1) (pa_cons (pv 4) pa_nil))) (pa_cons (pe_call G_l_bent (hr.mono (by omega)) rfl O_l_bent.m O_l_bent.F.kp O_l_bent.b .nil pass0 (pa_cons (pv 1) (pa_cons (pe_call G_l_bent (hr.mono (by omega)) rfl O_l_bent.m O_l_bent.F.kp O_l_bent.b .nil pass0 (pa_cons (pv 1) (pa_cons (pv 4) pa_nil))) pa_nil))) (pa_cons (pe_call G_l_odd (hr.mono (by omega)) rfl O_l_odd.m O_l_odd.F.kp O_l_odd.b .nil pass0 (pa_cons (pv 1) pa_nil)) (pa_cons (pe_ix (k_ix_list (K := K) rfl) (pv 3) pe_int (fun _ _ => rfl)) pa_nil)))))))
    (pss_one (ps_for PassesOwn.never rfl (k_list (K := K) rfl (pv 5)) (pg_name (i := 6) sc_law.nd rfl (Or.inl rfl))
    (pss_cons (ps_set (i := 7) sc_law.nd rfl (Or.inl rfl) (pe_callB (call_repr hg hu hn) (by rfl) T.n_repr (by decide +kernel) (pa_cons (pv 6) pa_nil)))
    (pss_cons (ps_set (i := 8) sc_law.nd rfl (Or.inl rfl) (pe_lst (pa_cons (pe_call G_is_row (hr.mono (by omega)) rfl O_is_row.m O_is_row.F.kp O_is_row.b .nil pass0 (pa_cons (pv 6) pa_nil)) (pa_cons (pe_call G_is_thing (hr.mono (by omega)) rfl O_is_thing.m O_is_thing.F.kp O_is_thing.b .nil pass0 (pa_cons (pv 6) pa_nil)) pa_nil))))
    (pss_one (ps_if (PW.pt (pw_or (pt_cmpR op_ne (pe_callB (call_repr hg hu hn) (by rfl) T.n_repr (by decide +kernel) (pa_cons (pv 8) pa_nil)) (pe_callB (call_repr hg hu hn) (by rfl) T.n_repr (by decide +kernel) (pa_cons (pe_lst (pa_cons (pe_call G_l_is_row (hr.mono (by omega)) rfl O_l_is_row.m O_l_is_row.F.kp O_l_is_row.b .nil pass0 (pa_cons (pv 6) pa_nil)) (pa_cons (pe_call G_l_is_thing (hr.mono (by omega)) rfl O_l_is_thing.m O_l_is_thing.F.kp O_l_is_thing.b .nil pass0 (pa_cons (pv 6) pa_nil)) pa_nil))) pa_nil)) (nomark _)) (pw_or1 (pt_cmpR op_ne (pe_callB (call_repr hg hu hn) (by rfl) T.n_repr (by decide +kernel) (pa_cons (pv 6) pa_nil)) (pv 7) (nomark _)))))
    (pss_one (ps_ret pe_bl))
    pss_nil))))))))))
    (pss_one (ps_ret (pe_and (pe_cmpR op_isBl (pe_call G_is_row (hr.mono (by omega)) rfl O_is_row.m O_is_row.F.kp O_is_row.b .nil pass0 (pa_cons (pe_lst pa_nil) pa_nil)) pe_bl (nomark _)) (pe_and (pe_cmpR op_isBl (pe_call G_is_row (hr.mono (by omega)) rfl O_is_row.m O_is_row.F.kp O_is_row.b .nil pass0 (pa_cons (pe_tup pa_nil) pa_nil)) pe_bl (nomark _)) (pe_one (pe_cmpR op_isBl (pe_call G_is_thing (hr.mono (by omega)) rfl O_is_thing.m O_is_thing.F.kp O_is_thing.b .nil pass0 (pa_cons (pe_lst pa_nil) pa_nil)) pe_bl (nomark _))))))))), ?_⟩
  -- the dice
  refine ⟨_, rfl, a, ns, rfl, hS, hl, fun d d0 H1 s1 dn d0n hD => ?_⟩
  refine ⟨_, rfl, _, _, rfl, .inl (sqL_more s1 hS), _, _, rfl, _, _, rfl, rfl, _, rfl, ?_, ?_, ?_⟩
  · rw [List.length_map]; by_cases z : ((ns.length : Nat) : Int) < 9
    · rw [if_pos z]; omega
    · rw [if_neg z]; omega
  · rw [List.length_map]; by_cases z : ((ns.length : Nat) : Int) < 9
    · rw [if_pos z]; omega
    · rw [if_neg z]; omega
  have n12 : (3 + (if ((ns.map V.int).length : Int) < 9 then ((ns.map V.int).length : Int) else 9)).toNat ≤ 12 := by
    by_cases z : ((ns.map V.int).length : Int) < 9
    · rw [if_pos z]; omega
    · rw [if_neg z]; omega
  generalize (3 + (if ((ns.map V.int).length : Int) < 9 then ((ns.map V.int).length : Int) else 9)).toNat = n at n12
  refine for_range (lo := 0) (n := n) (fun i σ H' => ∃ (s2 s3 s4 s5 s6 s7 s8 : Option V), σ = [some (.ref a), some (.ref d), s2, s3, s4, s5, s6, s7, s8] ∧ Dice H' d d0 (i * 60000)) ⟨_, _, _, _, _, _, _, rfl, by simpa using hD⟩ ?_ ?_
  · rintro i σ H2 hi ⟨s2, s3, s4, s5, s6, s7, s8, rfl, hD2⟩
    have i12 : i < 12 := by omega
    obtain ⟨nd, nd0, ndd⟩ := hD2.at
    have hS2 : ∀ x ∈ [d, d0], H2 x ≠ none := by
      intro x hx
      simp only [List.mem_cons, List.not_mem_nil, or_false] at hx
      rcases hx with rfl | rfl
      · exact nd
      · exact nd0
    -- the names
    refine ⟨_, rfl, _, rfl, d, d0, _, 12, rfl, hD2, by omega, by omega, by omega, fun r1 H3 r10 r11 c3 hD3 => ⟨_, _, rfl, rfl, d, d0, _, _, rfl, hD3, by omega, by omega, by omega, fun nm H4 ys ynl yok ynd nmn c4 hnm nnd nnd0 hD4 => ?_⟩⟩
    have c24 := c3.trans c4
    obtain ⟨y0, yr, rfl⟩ : ∃ y0 yr, ys = y0 :: yr := by
      cases ys with
      | nil => simp at ynl; omega
      | cons y0 yr => exact ⟨_, _, rfl⟩
    generalize hys : y0 :: yr = ys at hnm ynl yok ynd
    -- a row in lists
    refine ⟨_, rfl, _, rfl, _, rfl, _, _, rfl, rfl, ⟨by decide, by decide, by decide⟩, (by show 2 ≤ sizeLine; decide), fun pl hpl => ?_⟩
    have plnd : pl ≠ d0 := fun z => hD4.at.2.1 (by rw [← z]; exact hpl)
    have t4 := same_new (H := H4) hpl (.lst [.int 60, .int (10 ^ (30 : Int).toNat)])
    have epl : upd H4 pl (.lst [.int 60, .int (10 ^ (30 : Int).toNat)]) pl = some (.lst [.int 60, .int (10 ^ (30 : Int).toNat)]) := upd_same
    have hnm5 := t4 _ _ hnm
    have hD5 := hD4.same t4
    have c25 := c24.same t4
    generalize upd H4 pl (.lst [.int 60, .int (10 ^ (30 : Int).toNat)]) = H5 at t4 epl hnm5 hD5 c25
    have r4 : rolls 4 = 51840 := by decide
    have hS5 : ∀ x ∈ [d, d0], H5 x ≠ none := by
      intro x hx
      simp only [List.mem_cons, List.not_mem_nil, or_false] at hx
      rcases hx with rfl | rfl
      · exact hD5.at.1
      · exact hD5.at.2.1
    refine ⟨d, d0, nm, pl, _, 4, ys, 60, (10 ^ (30 : Int).toNat), rfl, plnd, hD5, by omega, by decide, by decide, hnm5, (by rw [← hys]; exact List.cons_ne_nil _ _), by omega, yok, epl, by decide, by decide, by decide, by decide, fun rp H6 ds a' u6 hD6 hpl6 a0 a1 hd6 line6 oks6 w6 dp6 len6 => ?_⟩
    obtain ⟨rxs, hrp, hds6⟩ : ∃ rxs, New H5 H6 rp = some (.lst rxs) ∧ DDs (New H5 H6) rxs ds := by
      cases hd6 with
      | lst h hs => exact ⟨_, h, hs⟩
    have rp0 := (new_some hrp).1
    have hrp6 := (new_some hrp).2
    have rpd : rp ≠ d := fun z => hD5.at.1 (by rw [← z]; exact rp0)
    have rpd0 : rp ≠ d0 := fun z => hD5.at.2.1 (by rw [← z]; exact rp0)
    have hds6' := hds6.mono (new_hid hS5)
    refine ⟨d, d0, rp, _, _, rxs, ds, rfl, hD6, by omega, rpd, rpd0, hrp6, hds6', line6, by omega, oks6, by omega, fun ln H7 dd c7 hD7 hd7 kdd und => ?_⟩
    have hS6 : ∀ x ∈ [d, d0], H6 x ≠ none := by
      intro x hx
      simp only [List.mem_cons, List.not_mem_nil, or_false] at hx
      rcases hx with rfl | rfl
      · exact hD6.at.1
      · exact hD6.at.2.1
    have hS7 : ∀ x ∈ [d, d0], H7 x ≠ none := by
      intro x hx
      simp only [List.mem_cons, List.not_mem_nil, or_false] at hx
      rcases hx with rfl | rfl
      · exact hD7.at.1
      · exact hD7.at.2.1
    have hln7 := hd7.mono (new_hid hS6)
    obtain ⟨fo, fw, fd⟩ := undR_facts dd
    rw [und] at fo fw fd
    simp only [okD] at fo
    simp only [wD] at fw
    simp only [PyData.depth] at fd
    have okdd : okD dd = true := by rw [← fo]; exact oks6
    have inS : d ∈ [d, d0] := by simp
    have in0S : d0 ∈ [d, d0] := by simp
    -- the five things
    refine ⟨_, rfl, _, rfl, _, rfl, d, d0, _, [d, d0], _, dd, rfl, hD7, by omega, inS, in0S, hS7, hln7, okdd, by omega, by omega, fun b1 H8 e1 c8 hD8 hb1 okb1 dpb1 wb1 => ?_⟩
    have hS8 : ∀ x ∈ [d, d0], H8 x ≠ none := by
      intro x hx
      simp only [List.mem_cons, List.not_mem_nil, or_false] at hx
      rcases hx with rfl | rfl
      · exact hD8.at.1
      · exact hD8.at.2.1
    have hln8 := hln7.mono (c8.hid (S := [d, d0]) inS in0S)
    refine ⟨_, rfl, _, rfl, _, rfl, d, d0, _, [d, d0], _, dd, rfl, hD8, by omega, inS, in0S, hS8, hln8, okdd, by omega, by omega, fun b2 H9 e2 c9 hD9 hb2 okb2 dpb2 wb2 => ?_⟩
    have hS9 : ∀ x ∈ [d, d0], H9 x ≠ none := by
      intro x hx
      simp only [List.mem_cons, List.not_mem_nil, or_false] at hx
      rcases hx with rfl | rfl
      · exact hD9.at.1
      · exact hD9.at.2.1
    refine ⟨d, d0, _, [d, d0], _, e2, rfl, hD9, by omega, inS, in0S, hS9, hb2, okb2, by omega, by omega, fun b3 H10 e3 c10 hD10 hb3 okb3 dpb3 wb3 => ?_⟩
    refine ⟨_, rfl, d, d0, _, rfl, hD10, by omega, fun o H11 eo c11 hD11 hbo fo => ?_⟩
    have hS10 : ∀ x ∈ [d, d0], H10 x ≠ none := by
      intro x hx
      simp only [List.mem_cons, List.not_mem_nil, or_false] at hx
      rcases hx with rfl | rfl
      · exact hD10.at.1
      · exact hD10.at.2.1
    unfold fine at fo
    simp only [Bool.and_eq_true, decide_eq_true_eq] at fo
    have hnm6 : H6 nm = some (.lst (ys.map V.str)) := by
      have nmS : nm ∉ [d, d0, pl] := by
        have nnp : nm ≠ pl := fun z => by rw [z] at hnm; rw [hpl] at hnm; cases hnm
        simp [nnd, nnd0, nnp]
      have z := u6 nm _ (by rw [hid_out nmS]; exact hnm5)
      rw [hid_out nmS] at z
      exact z
    have hnm11 := c11 _ _ nnd nnd0 (c10 _ _ nnd nnd0 (c9 _ _ nnd nnd0 (c8 _ _ nnd nnd0 (c7 _ _ nnd nnd0 hnm6))))
    have hbo' := hbo.mono (new_hid hS10)
    have m11 := c11.hid (S := [d, d0]) inS in0S
    have m10 := (c10.hid (S := [d, d0]) inS in0S).trans m11
    have m9 := (c9.hid (S := [d, d0]) inS in0S).trans m10
    refine ⟨_, rfl, _, _, _, _, rfl, rfl, SqL.of hnm11, (by rw [← hys]; exact atI_nat (j := 0) rfl), (by show 5 ≤ sizeLine; decide), fun sm hsm => ?_⟩
    have hvs : DDs (Hid [d, d0] H11) [.ref ln, b1, b3, o, .str y0] [dd, e1, e3, eo, .str y0] :=
      .cons (hln8.mono m9) (.cons (hb1.mono m9) (.cons (hb3.mono m11) (.cons hbo' (.cons (.str _) .nil))))
    have ty0 : isThingS y0 = true := by
      have z := yok
      rw [← hys, List.all_cons, Bool.and_eq_true] at z
      exact z.1
    have hall : ∀ x ∈ [dd, e1, e3, eo, PyData.str y0], okD x = true ∧ x.depth < 16 ∧ wD x ≤ 1000 := by
      intro x hx
      simp only [List.mem_cons, List.not_mem_nil, or_false] at hx
      rcases hx with rfl | rfl | rfl | rfl | rfl
      · exact ⟨okdd, by omega, by omega⟩
      · exact ⟨okb1, by omega, by omega⟩
      · exact ⟨okb3, by omega, by omega⟩
      · exact ⟨fo.1.1, by omega, by omega⟩
      · exact ⟨okS ty0, by simp only [PyData.depth]; omega, by simp only [wD]; omega⟩
    have s11 := same_new hsm (.lst [.ref ln, b1, b3, o, .str y0])
    have esm : upd H11 sm (.lst [.ref ln, b1, b3, o, .str y0]) sm = some (.lst [.ref ln, b1, b3, o, .str y0]) := upd_same
    have hvs := hvs.mono ((Same.hid (S := [d, d0]) s11).trans hid_same)
    have hD12 := hD11.same s11
    generalize upd H11 sm (.lst [.ref ln, b1, b3, o, .str y0]) = H12 at s11 esm hvs hD12
    generalize [V.ref ln, b1, b3, o, .str y0] = vs at esm hvs
    generalize [dd, e1, e3, eo, PyData.str y0] = es at hvs hall
    refine ⟨_, rfl, sm, rfl, ⟨_, SqL.of esm⟩, ?_⟩
    refine for_list (K := K) (a := sm) (xs := vs) (fun j σ H' => ∃ (s6 s7 s8 : Option V), σ = [some (.ref a), some (.ref d), some (.int (0 + (i : Int))), some (.ref nm), some (.ref ln), some (.ref sm), s6, s7, s8] ∧ Same H12 H') ⟨_, _, _, rfl, Same.refl _⟩ (fun j σ H' _ z => ?_) ?_ ?_
    · obtain ⟨_, _, _, _, z⟩ := z
      exact SqL.of (z _ _ esm)
    · rintro j v σ H13 hj ⟨s6, s7, s8, rfl, t13⟩
      obtain ⟨dv, hdv, hdd⟩ := hvs.get hj
      obtain ⟨okv, dpv, wv⟩ := hall dv (List.mem_of_getElem? hdv)
      have hd13 := hdd.mono t13
      have showv := okD_showable dv okv
      have fitv := shown_fits okv (by omega)
      refine ⟨_, rfl, v, dv, rfl, hd13, showv, by omega, fitv, ?_⟩
      refine ⟨_, rfl, v, dv, rfl, hd13, okv, by omega, by omega, fun H14 s14 => ⟨_, rfl, v, dv, rfl, hd13.mono s14, okv, by omega, by omega, fun H15 s15 => ⟨(by show 2 ≤ sizeLine; decide), fun tl htl => ?_⟩⟩⟩
      have t15 := s14.trans s15
      have hd15 := hd13.mono t15
      have u16 := same_new (H := H15) htl (.lst [.bl (rowD dv), .bl (thingD dv)])
      have etl : upd H15 tl (.lst [.bl (rowD dv), .bl (thingD dv)]) tl = some (.lst [.bl (rowD dv), .bl (thingD dv)]) := upd_same
      have hd16 := hd15.mono u16
      have t16 := t13.trans (t15.trans u16)
      generalize upd H15 tl (.lst [.bl (rowD dv), .bl (thingD dv)]) = H16 at u16 etl hd16 t16
      have okp : okD (.list [.bool (rowD dv), .bool (thingD dv)]) = true := rfl
      have fitp := shown_fits okp (by simp only [wD, wDs]; omega)
      have showp := okD_showable _ okp
      have dpp : (PyData.list [.bool (rowD dv), .bool (thingD dv)]).depth ≤ 100 := by simp only [PyData.depth, PyData.depthAll]; omega
      refine ⟨_, rfl, _, _, rfl, .lst etl (.cons (.bl _) (.cons (.bl _) .nil)), showp, dpp, fitp, ?_⟩
      refine ⟨_, rfl, v, dv, rfl, hd16, okv, dpv, by omega, by omega, fun H17 s17 => ⟨_, rfl, v, dv, rfl, hd16.mono s17, okv, by omega, by omega, fun H18 s18 => ⟨(by show 2 ≤ sizeLine; decide), fun l2 hl2 => ?_⟩⟩⟩
      have t18 := s17.trans s18
      have u19 := same_new (H := H18) hl2 (.lst [.bl (rowD dv), .bl (thingD dv)])
      have hd19 := (hd16.mono t18).mono u19
      have t19 := t16.trans (t18.trans u19)
      refine ⟨_, _, rfl, .lst upd_same (.cons (.bl _) (.cons (.bl _) .nil)), showp, dpp, fitp, ?_⟩
      generalize upd H18 l2 (.lst [.bl (rowD dv), .bl (thingD dv)]) = H19 at u19 hd19 t19
      refine ⟨rfl, _, rfl, ?_⟩
      refine ite2 (fun z => absurd z (by simp)) (fun _ => ?_)
      refine ⟨_, rfl, v, dv, rfl, hd19, showv, by omega, fitv, _, rfl, rfl, _, rfl, ?_⟩
      refine ite2 (fun z => absurd z (by simp)) (fun _ => ?_)
      exact ⟨_, _, _, rfl, t19⟩
    · rintro σ H13 ⟨s6, s7, s8, rfl, t13⟩
      exact ⟨_, _, _, _, _, _, _, rfl, (hD12.same t13).mono (by rw [Nat.succ_mul]; omega)⟩
  · rintro σ H2 ⟨s2, s3, s4, s5, s6, s7, s8, rfl, hD2⟩
    refine ⟨Nat.zero_le _, fun p1 hp1 => ⟨_, .list [], rfl, .lst upd_same .nil, rfl, by decide, by decide, fun H3 s3 => ⟨_, _, rfl, rfl, _, rfl, ?_⟩⟩⟩
    refine ite2 (fun _ => ?_) (fun z => absurd (by decide +kernel) z)
    refine ⟨Nat.zero_le _, fun p2 hp2 => ⟨_, .tuple [], rfl, .tup upd_same .nil, rfl, by decide, by decide, fun H4 s4 => ⟨_, _, rfl, rfl, _, rfl, ?_⟩⟩⟩
    refine ite2 (fun _ => ?_) (fun z => absurd (by decide +kernel) z)
    refine ⟨Nat.zero_le _, fun p3 hp3 => ⟨_, .list [], rfl, .lst upd_same .nil, rfl, by decide, by decide, fun H5 s5 => ⟨_, _, rfl, rfl, ?_⟩⟩⟩
    exact q H5
end
end K00

set_option Elab.async false
set_option linter.all false
set_option maxRecDepth 100000
set_option maxHeartbeats 4000000
namespace K00
open PySem PySem.Spec L2 MC
open PyProof.Rows hiding St
theorem bent_all {P : Program} {w : World} {K : PySem.W.Frag} {mg : Str → Option Value} {base : Heap} {f_l_roll f_l_odd f_l_bent : Addr} {fd_l_roll fd_l_odd fd_l_bent : FuncData} (T : Txt K mg) (G_l_roll : FnOk P w K mg base CX0 1 f_l_roll fd_l_roll ["_law_dice_here", "_law_many"] spRoll) (G_l_odd : FnOk P w K mg base CX0 2 f_l_odd fd_l_odd ["_law_dice_here"] spOdd) (O_l_roll : Own K mg "_law_roll" s_l_roll f_l_roll fd_l_roll ["_law_dice_here", "_law_many"]) (O_l_odd : Own K mg "_law_odd" s_l_odd f_l_odd fd_l_odd ["_law_dice_here"]) (O_l_bent : Own K mg "_law_bent" s_l_bent f_l_bent fd_l_bent ["_law_dice_here", "_law_thing"]) :
    ∀ n, FnOk P w K mg base CX0 (n + 2) f_l_bent fd_l_bent ["_law_dice_here", "_law_thing"] (spBent n)
  | 0 => bent_none
  | n + 1 => bent_step T G_l_roll G_l_odd O_l_roll O_l_odd O_l_bent (bent_all T G_l_roll G_l_odd O_l_roll O_l_odd O_l_bent n)
theorem all_mk {l : PySem.W.OpenLaw} {w : World} {K : PySem.W.Frag} {h : Heap} {mg : Str → Option Value} {fa : Addr} (X : K.In h) (G : h.Ns mainGlobals mg) (hfa : mg "law" = some (.ref fa))
    {f_is_whole : Addr} {f_is_thing : Addr} {f_are_things : Addr} {f_are_small : Addr} {f_is_row : Addr} {f_looks_again : Addr} {f_l_dice : Addr} {f_l_roll : Addr} {f_l_names : Addr} {f_l_row : Addr} {f_l_dressed : Addr} {f_l_odd : Addr} {f_l_bent : Addr} {f_l_is_thing : Addr} {f_l_is_part : Addr} {f_l_is_row : Addr} {f_law : Addr} {od_is_whole an_is_whole : Option Addr} {od_is_thing an_is_thing : Option Addr} {od_are_things an_are_things : Option Addr} {od_are_small an_are_small : Option Addr} {od_is_row an_is_row : Option Addr} {od_looks_again an_looks_again : Option Addr} {od_l_dice an_l_dice : Option Addr} {od_l_roll an_l_roll : Option Addr} {od_l_names an_l_names : Option Addr} {od_l_row an_l_row : Option Addr} {od_l_dressed an_l_dressed : Option Addr} {od_l_odd an_l_odd : Option Addr} {od_l_bent an_l_bent : Option Addr} {od_l_is_thing an_l_is_thing : Option Addr} {od_l_is_part an_l_is_part : Option Addr} {od_l_is_row an_l_is_row : Option Addr} {od_law an_law : Option Addr} {sl_is_whole : Array (Option Value)} {sl_is_thing : Array (Option Value)} {sl_are_things : Array (Option Value)} {sl_are_small : Array (Option Value)} {sl_is_row : Array (Option Value)} {sl_looks_again : Array (Option Value)} {sl_l_dice : Array (Option Value)} {sl_l_roll : Array (Option Value)} {sl_l_names : Array (Option Value)} {sl_l_row : Array (Option Value)} {sl_l_dressed : Array (Option Value)} {sl_l_odd : Array (Option Value)} {sl_l_bent : Array (Option Value)} {sl_l_is_thing : Array (Option Value)} {sl_l_is_part : Array (Option Value)} {sl_l_is_row : Array (Option Value)} {sl_law : Array (Option Value)} {oc_is_whole kV_is_whole dc_is_whole pm_is_whole cd_is_whole ct_is_whole : Value} {oc_is_thing kV_is_thing dc_is_thing pm_is_thing cd_is_thing ct_is_thing : Value} {oc_are_things kV_are_things dc_are_things pm_are_things cd_are_things ct_are_things : Value} {oc_are_small kV_are_small dc_are_small pm_are_small cd_are_small ct_are_small : Value} {oc_is_row kV_is_row dc_is_row pm_is_row cd_is_row ct_is_row : Value} {oc_looks_again kV_looks_again dc_looks_again pm_looks_again cd_looks_again ct_looks_again : Value} {oc_l_dice kV_l_dice dc_l_dice pm_l_dice cd_l_dice ct_l_dice : Value} {oc_l_roll kV_l_roll dc_l_roll pm_l_roll cd_l_roll ct_l_roll : Value} {oc_l_names kV_l_names dc_l_names pm_l_names cd_l_names ct_l_names : Value} {oc_l_row kV_l_row dc_l_row pm_l_row cd_l_row ct_l_row : Value} {oc_l_dressed kV_l_dressed dc_l_dressed pm_l_dressed cd_l_dressed ct_l_dressed : Value} {oc_l_odd kV_l_odd dc_l_odd pm_l_odd cd_l_odd ct_l_odd : Value} {oc_l_bent kV_l_bent dc_l_bent pm_l_bent cd_l_bent ct_l_bent : Value} {oc_l_is_thing kV_l_is_thing dc_l_is_thing pm_l_is_thing cd_l_is_thing ct_l_is_thing : Value} {oc_l_is_part kV_l_is_part dc_l_is_part pm_l_is_part cd_l_is_part ct_l_is_part : Value} {oc_l_is_row kV_l_is_row dc_l_is_row pm_l_is_row cd_l_is_row ct_l_is_row : Value} {oc_law kV_law dc_law pm_law cd_law ct_law : Value} {t_LONGEST_THING : Nat} {t_MOST_TIMES : Nat} {t_DEEPEST_ROW : Nat} {osys : Obj}
    (a_is_whole : PySem.W.nsIn K mainGlobals "is_whole" = some (some (.ref f_is_whole))) (l_is_whole : K.lookup f_is_whole = some ⟨oc_is_whole, od_is_whole, .func (PySem.W.fnOf "is_whole" "is_whole" (defArgs s_is_whole) (defBody s_is_whole) (defScope s_is_whole) .none kV_is_whole dc_is_whole pm_is_whole an_is_whole cd_is_whole ct_is_whole), sl_is_whole⟩) (w_is_whole : PySem.W.codeIn K cd_is_whole "is_whole" = true) (k_is_whole : PySem.W.keepIn K (.ref f_is_whole) = true)
    (a_is_thing : PySem.W.nsIn K mainGlobals "is_thing" = some (some (.ref f_is_thing))) (l_is_thing : K.lookup f_is_thing = some ⟨oc_is_thing, od_is_thing, .func (PySem.W.fnOf "is_thing" "is_thing" (defArgs s_is_thing) (defBody s_is_thing) (defScope s_is_thing) .none kV_is_thing dc_is_thing pm_is_thing an_is_thing cd_is_thing ct_is_thing), sl_is_thing⟩) (w_is_thing : PySem.W.codeIn K cd_is_thing "is_thing" = true) (k_is_thing : PySem.W.keepIn K (.ref f_is_thing) = true)
    (a_are_things : PySem.W.nsIn K mainGlobals "are_things" = some (some (.ref f_are_things))) (l_are_things : K.lookup f_are_things = some ⟨oc_are_things, od_are_things, .func (PySem.W.fnOf "are_things" "are_things" (defArgs s_are_things) (defBody s_are_things) (defScope s_are_things) .none kV_are_things dc_are_things pm_are_things an_are_things cd_are_things ct_are_things), sl_are_things⟩) (w_are_things : PySem.W.codeIn K cd_are_things "are_things" = true) (k_are_things : PySem.W.keepIn K (.ref f_are_things) = true)
    (a_are_small : PySem.W.nsIn K mainGlobals "are_small" = some (some (.ref f_are_small))) (l_are_small : K.lookup f_are_small = some ⟨oc_are_small, od_are_small, .func (PySem.W.fnOf "are_small" "are_small" (defArgs s_are_small) (defBody s_are_small) (defScope s_are_small) .none kV_are_small dc_are_small pm_are_small an_are_small cd_are_small ct_are_small), sl_are_small⟩) (w_are_small : PySem.W.codeIn K cd_are_small "are_small" = true) (k_are_small : PySem.W.keepIn K (.ref f_are_small) = true)
    (a_is_row : PySem.W.nsIn K mainGlobals "is_row" = some (some (.ref f_is_row))) (l_is_row : K.lookup f_is_row = some ⟨oc_is_row, od_is_row, .func (PySem.W.fnOf "is_row" "is_row" (defArgs s_is_row) (defBody s_is_row) (defScope s_is_row) .none kV_is_row dc_is_row pm_is_row an_is_row cd_is_row ct_is_row), sl_is_row⟩) (w_is_row : PySem.W.codeIn K cd_is_row "is_row" = true) (k_is_row : PySem.W.keepIn K (.ref f_is_row) = true)
    (a_looks_again : PySem.W.nsIn K mainGlobals "_looks_again" = some (some (.ref f_looks_again))) (l_looks_again : K.lookup f_looks_again = some ⟨oc_looks_again, od_looks_again, .func (PySem.W.fnOf "_looks_again" "_looks_again" (defArgs s_looks_again) (defBody s_looks_again) (defScope s_looks_again) .none kV_looks_again dc_looks_again pm_looks_again an_looks_again cd_looks_again ct_looks_again), sl_looks_again⟩) (w_looks_again : PySem.W.codeIn K cd_looks_again "_looks_again" = true) (k_looks_again : PySem.W.keepIn K (.ref f_looks_again) = true)
    (a_l_dice : PySem.W.nsIn K mainGlobals "_law_dice" = some (some (.ref f_l_dice))) (l_l_dice : K.lookup f_l_dice = some ⟨oc_l_dice, od_l_dice, .func (PySem.W.fnOf "_law_dice" "_law_dice" (defArgs s_l_dice) (defBody s_l_dice) (defScope s_l_dice) .none kV_l_dice dc_l_dice pm_l_dice an_l_dice cd_l_dice ct_l_dice), sl_l_dice⟩) (w_l_dice : PySem.W.codeIn K cd_l_dice "_law_dice" = true) (k_l_dice : PySem.W.keepIn K (.ref f_l_dice) = true)
    (a_l_roll : PySem.W.nsIn K mainGlobals "_law_roll" = some (some (.ref f_l_roll))) (l_l_roll : K.lookup f_l_roll = some ⟨oc_l_roll, od_l_roll, .func (PySem.W.fnOf "_law_roll" "_law_roll" (defArgs s_l_roll) (defBody s_l_roll) (defScope s_l_roll) .none kV_l_roll dc_l_roll pm_l_roll an_l_roll cd_l_roll ct_l_roll), sl_l_roll⟩) (w_l_roll : PySem.W.codeIn K cd_l_roll "_law_roll" = true) (k_l_roll : PySem.W.keepIn K (.ref f_l_roll) = true)
    (a_l_names : PySem.W.nsIn K mainGlobals "_law_names" = some (some (.ref f_l_names))) (l_l_names : K.lookup f_l_names = some ⟨oc_l_names, od_l_names, .func (PySem.W.fnOf "_law_names" "_law_names" (defArgs s_l_names) (defBody s_l_names) (defScope s_l_names) .none kV_l_names dc_l_names pm_l_names an_l_names cd_l_names ct_l_names), sl_l_names⟩) (w_l_names : PySem.W.codeIn K cd_l_names "_law_names" = true) (k_l_names : PySem.W.keepIn K (.ref f_l_names) = true)
    (a_l_row : PySem.W.nsIn K mainGlobals "_law_row" = some (some (.ref f_l_row))) (l_l_row : K.lookup f_l_row = some ⟨oc_l_row, od_l_row, .func (PySem.W.fnOf "_law_row" "_law_row" (defArgs s_l_row) (defBody s_l_row) (defScope s_l_row) .none kV_l_row dc_l_row pm_l_row an_l_row cd_l_row ct_l_row), sl_l_row⟩) (w_l_row : PySem.W.codeIn K cd_l_row "_law_row" = true) (k_l_row : PySem.W.keepIn K (.ref f_l_row) = true)
    (a_l_dressed : PySem.W.nsIn K mainGlobals "_law_dressed" = some (some (.ref f_l_dressed))) (l_l_dressed : K.lookup f_l_dressed = some ⟨oc_l_dressed, od_l_dressed, .func (PySem.W.fnOf "_law_dressed" "_law_dressed" (defArgs s_l_dressed) (defBody s_l_dressed) (defScope s_l_dressed) .none kV_l_dressed dc_l_dressed pm_l_dressed an_l_dressed cd_l_dressed ct_l_dressed), sl_l_dressed⟩) (w_l_dressed : PySem.W.codeIn K cd_l_dressed "_law_dressed" = true) (k_l_dressed : PySem.W.keepIn K (.ref f_l_dressed) = true)
    (a_l_odd : PySem.W.nsIn K mainGlobals "_law_odd" = some (some (.ref f_l_odd))) (l_l_odd : K.lookup f_l_odd = some ⟨oc_l_odd, od_l_odd, .func (PySem.W.fnOf "_law_odd" "_law_odd" (defArgs s_l_odd) (defBody s_l_odd) (defScope s_l_odd) .none kV_l_odd dc_l_odd pm_l_odd an_l_odd cd_l_odd ct_l_odd), sl_l_odd⟩) (w_l_odd : PySem.W.codeIn K cd_l_odd "_law_odd" = true) (k_l_odd : PySem.W.keepIn K (.ref f_l_odd) = true)
    (a_l_bent : PySem.W.nsIn K mainGlobals "_law_bent" = some (some (.ref f_l_bent))) (l_l_bent : K.lookup f_l_bent = some ⟨oc_l_bent, od_l_bent, .func (PySem.W.fnOf "_law_bent" "_law_bent" (defArgs s_l_bent) (defBody s_l_bent) (defScope s_l_bent) .none kV_l_bent dc_l_bent pm_l_bent an_l_bent cd_l_bent ct_l_bent), sl_l_bent⟩) (w_l_bent : PySem.W.codeIn K cd_l_bent "_law_bent" = true) (k_l_bent : PySem.W.keepIn K (.ref f_l_bent) = true)
    (a_l_is_thing : PySem.W.nsIn K mainGlobals "_law_is_thing" = some (some (.ref f_l_is_thing))) (l_l_is_thing : K.lookup f_l_is_thing = some ⟨oc_l_is_thing, od_l_is_thing, .func (PySem.W.fnOf "_law_is_thing" "_law_is_thing" (defArgs s_l_is_thing) (defBody s_l_is_thing) (defScope s_l_is_thing) .none kV_l_is_thing dc_l_is_thing pm_l_is_thing an_l_is_thing cd_l_is_thing ct_l_is_thing), sl_l_is_thing⟩) (w_l_is_thing : PySem.W.codeIn K cd_l_is_thing "_law_is_thing" = true) (k_l_is_thing : PySem.W.keepIn K (.ref f_l_is_thing) = true)
    (a_l_is_part : PySem.W.nsIn K mainGlobals "_law_is_part" = some (some (.ref f_l_is_part))) (l_l_is_part : K.lookup f_l_is_part = some ⟨oc_l_is_part, od_l_is_part, .func (PySem.W.fnOf "_law_is_part" "_law_is_part" (defArgs s_l_is_part) (defBody s_l_is_part) (defScope s_l_is_part) .none kV_l_is_part dc_l_is_part pm_l_is_part an_l_is_part cd_l_is_part ct_l_is_part), sl_l_is_part⟩) (w_l_is_part : PySem.W.codeIn K cd_l_is_part "_law_is_part" = true) (k_l_is_part : PySem.W.keepIn K (.ref f_l_is_part) = true)
    (a_l_is_row : PySem.W.nsIn K mainGlobals "_law_is_row" = some (some (.ref f_l_is_row))) (l_l_is_row : K.lookup f_l_is_row = some ⟨oc_l_is_row, od_l_is_row, .func (PySem.W.fnOf "_law_is_row" "_law_is_row" (defArgs s_l_is_row) (defBody s_l_is_row) (defScope s_l_is_row) .none kV_l_is_row dc_l_is_row pm_l_is_row an_l_is_row cd_l_is_row ct_l_is_row), sl_l_is_row⟩) (w_l_is_row : PySem.W.codeIn K cd_l_is_row "_law_is_row" = true) (k_l_is_row : PySem.W.keepIn K (.ref f_l_is_row) = true)
    (a_law : PySem.W.nsIn K mainGlobals "law" = some (some (.ref f_law))) (l_law : K.lookup f_law = some ⟨oc_law, od_law, .func (PySem.W.fnOf "law" "law" (defArgs s_law) (defBody s_law) (defScope s_law) .none kV_law dc_law pm_law an_law cd_law ct_law), sl_law⟩) (w_law : PySem.W.codeIn K cd_law "law" = true) (k_law : PySem.W.keepIn K (.ref f_law) = true)
    (z_isinstance : PySem.W.nsIn K mainGlobals "isinstance" = some none)
    (z_int : PySem.W.nsIn K mainGlobals "int" = some none)
    (z_bool : PySem.W.nsIn K mainGlobals "bool" = some none)
    (z_str : PySem.W.nsIn K mainGlobals "str" = some none)
    (z_list : PySem.W.nsIn K mainGlobals "list" = some none)
    (z_tuple : PySem.W.nsIn K mainGlobals "tuple" = some none)
    (z_len : PySem.W.nsIn K mainGlobals "len" = some none)
    (z_all : PySem.W.nsIn K mainGlobals "all" = some none)
    (z_range : PySem.W.nsIn K mainGlobals "range" = some none)
    (z_min : PySem.W.nsIn K mainGlobals "min" = some none)
    (z_repr : PySem.W.nsIn K mainGlobals "repr" = some none)
    (q_LONGEST_THING : PySem.W.nsIn K mainGlobals "LONGEST_THING" = some (some (.int 8 t_LONGEST_THING)))
    (q_MOST_TIMES : PySem.W.nsIn K mainGlobals "MOST_TIMES" = some (some (.int 1000000000000000000000000000000 t_MOST_TIMES)))
    (q_DEEPEST_ROW : PySem.W.nsIn K mainGlobals "DEEPEST_ROW" = some (some (.int 2000000 t_DEEPEST_ROW)))
    (q_sys : K.lookup sysModules = some osys) :
    ∃ fd : FuncData, (∀ (s : Shared) (v : Value), BindsTo s fd ⟨[v], []⟩ [("_law_script", v)]) ∧ ∀ base : Heap, K.In base → base.Ns mainGlobals mg → FnA Clean l.prog w K mg base CX0 20 fa fd ["_law_script"] (spLaw K) := by
  have e := hfa.symm.trans (PySem.W.mg_of X G a_law)
  cases e
  have T : Txt K mg := ⟨PySem.W.mg_none_of X G z_isinstance, PySem.W.mg_none_of X G z_int, PySem.W.mg_none_of X G z_bool, PySem.W.mg_none_of X G z_str, PySem.W.mg_none_of X G z_list, PySem.W.mg_none_of X G z_tuple, PySem.W.mg_none_of X G z_len, PySem.W.mg_none_of X G z_all, PySem.W.mg_none_of X G z_range, PySem.W.mg_none_of X G z_min, PySem.W.mg_none_of X G z_repr, ⟨_, PySem.W.mg_of X G q_LONGEST_THING⟩, ⟨_, PySem.W.mg_of X G q_MOST_TIMES⟩, ⟨_, PySem.W.mg_of X G q_DEEPEST_ROW⟩, ⟨_, q_sys⟩⟩
  have F_is_whole := fun_mk (st := s_is_whole) l_is_whole w_is_whole k_is_whole
  have O_is_whole : Own K mg "is_whole" s_is_whole _ _ ["value"] := ⟨F_is_whole, PySem.W.mg_of X G a_is_whole, F_is_whole.binds (ps := ["value"]) fun _ _ _ _ _ _ us hl => match us, hl with | [_], _ => rfl⟩
  have F_is_thing := fun_mk (st := s_is_thing) l_is_thing w_is_thing k_is_thing
  have O_is_thing : Own K mg "is_thing" s_is_thing _ _ ["thing"] := ⟨F_is_thing, PySem.W.mg_of X G a_is_thing, F_is_thing.binds (ps := ["thing"]) fun _ _ _ _ _ _ us hl => match us, hl with | [_], _ => rfl⟩
  have F_are_things := fun_mk (st := s_are_things) l_are_things w_are_things k_are_things
  have O_are_things : Own K mg "are_things" s_are_things _ _ ["values"] := ⟨F_are_things, PySem.W.mg_of X G a_are_things, F_are_things.binds (ps := ["values"]) fun _ _ _ _ _ _ us hl => match us, hl with | [_], _ => rfl⟩
  have F_are_small := fun_mk (st := s_are_small) l_are_small w_are_small k_are_small
  have O_are_small : Own K mg "are_small" s_are_small _ _ ["signs"] := ⟨F_are_small, PySem.W.mg_of X G a_are_small, F_are_small.binds (ps := ["signs"]) fun _ _ _ _ _ _ us hl => match us, hl with | [_], _ => rfl⟩
  have F_is_row := fun_mk (st := s_is_row) l_is_row w_is_row k_is_row
  have O_is_row : Own K mg "is_row" s_is_row _ _ ["thing"] := ⟨F_is_row, PySem.W.mg_of X G a_is_row, F_is_row.binds (ps := ["thing"]) fun _ _ _ _ _ _ us hl => match us, hl with | [_], _ => rfl⟩
  have F_looks_again := fun_mk (st := s_looks_again) l_looks_again w_looks_again k_looks_again
  have O_looks_again : Own K mg "_looks_again" s_looks_again _ _ ["part"] := ⟨F_looks_again, PySem.W.mg_of X G a_looks_again, F_looks_again.binds (ps := ["part"]) fun _ _ _ _ _ _ us hl => match us, hl with | [_], _ => rfl⟩
  have F_l_dice := fun_mk (st := s_l_dice) l_l_dice w_l_dice k_l_dice
  have O_l_dice : Own K mg "_law_dice" s_l_dice _ _ ["_law_script"] := ⟨F_l_dice, PySem.W.mg_of X G a_l_dice, F_l_dice.binds (ps := ["_law_script"]) fun _ _ _ _ _ _ us hl => match us, hl with | [_], _ => rfl⟩
  have F_l_roll := fun_mk (st := s_l_roll) l_l_roll w_l_roll k_l_roll
  have O_l_roll : Own K mg "_law_roll" s_l_roll _ _ ["_law_dice_here", "_law_many"] := ⟨F_l_roll, PySem.W.mg_of X G a_l_roll, F_l_roll.binds (ps := ["_law_dice_here", "_law_many"]) fun _ _ _ _ _ _ us hl => match us, hl with | [_, _], _ => rfl⟩
  have F_l_names := fun_mk (st := s_l_names) l_l_names w_l_names k_l_names
  have O_l_names : Own K mg "_law_names" s_l_names _ _ ["_law_dice_here", "_law_many"] := ⟨F_l_names, PySem.W.mg_of X G a_l_names, F_l_names.binds (ps := ["_law_dice_here", "_law_many"]) fun _ _ _ _ _ _ us hl => match us, hl with | [_, _], _ => rfl⟩
  have F_l_row := fun_mk (st := s_l_row) l_l_row w_l_row k_l_row
  have O_l_row : Own K mg "_law_row" s_l_row _ _ ["_law_dice_here", "_law_names_here", "_law_plan", "_law_layers"] := ⟨F_l_row, PySem.W.mg_of X G a_l_row, F_l_row.binds (ps := ["_law_dice_here", "_law_names_here", "_law_plan", "_law_layers"]) fun _ _ _ _ _ _ us hl => match us, hl with | [_, _, _, _], _ => rfl⟩
  have F_l_dressed := fun_mk (st := s_l_dressed) l_l_dressed w_l_dressed k_l_dressed
  have O_l_dressed : Own K mg "_law_dressed" s_l_dressed _ _ ["_law_dice_here", "_law_line"] := ⟨F_l_dressed, PySem.W.mg_of X G a_l_dressed, F_l_dressed.binds (ps := ["_law_dice_here", "_law_line"]) fun _ _ _ _ _ _ us hl => match us, hl with | [_, _], _ => rfl⟩
  have F_l_odd := fun_mk (st := s_l_odd) l_l_odd w_l_odd k_l_odd
  have O_l_odd : Own K mg "_law_odd" s_l_odd _ _ ["_law_dice_here"] := ⟨F_l_odd, PySem.W.mg_of X G a_l_odd, F_l_odd.binds (ps := ["_law_dice_here"]) fun _ _ _ _ _ _ us hl => match us, hl with | [_], _ => rfl⟩
  have F_l_bent := fun_mk (st := s_l_bent) l_l_bent w_l_bent k_l_bent
  have O_l_bent : Own K mg "_law_bent" s_l_bent _ _ ["_law_dice_here", "_law_thing"] := ⟨F_l_bent, PySem.W.mg_of X G a_l_bent, F_l_bent.binds (ps := ["_law_dice_here", "_law_thing"]) fun _ _ _ _ _ _ us hl => match us, hl with | [_, _], _ => rfl⟩
  have F_l_is_thing := fun_mk (st := s_l_is_thing) l_l_is_thing w_l_is_thing k_l_is_thing
  have O_l_is_thing : Own K mg "_law_is_thing" s_l_is_thing _ _ ["_law_thing"] := ⟨F_l_is_thing, PySem.W.mg_of X G a_l_is_thing, F_l_is_thing.binds (ps := ["_law_thing"]) fun _ _ _ _ _ _ us hl => match us, hl with | [_], _ => rfl⟩
  have F_l_is_part := fun_mk (st := s_l_is_part) l_l_is_part w_l_is_part k_l_is_part
  have O_l_is_part : Own K mg "_law_is_part" s_l_is_part _ _ ["_law_part"] := ⟨F_l_is_part, PySem.W.mg_of X G a_l_is_part, F_l_is_part.binds (ps := ["_law_part"]) fun _ _ _ _ _ _ us hl => match us, hl with | [_], _ => rfl⟩
  have F_l_is_row := fun_mk (st := s_l_is_row) l_l_is_row w_l_is_row k_l_is_row
  have O_l_is_row : Own K mg "_law_is_row" s_l_is_row _ _ ["_law_thing"] := ⟨F_l_is_row, PySem.W.mg_of X G a_l_is_row, F_l_is_row.binds (ps := ["_law_thing"]) fun _ _ _ _ _ _ us hl => match us, hl with | [_], _ => rfl⟩
  have F_law := fun_mk (st := s_law) l_law w_law k_law
  have O_law : Own K mg "law" s_law _ _ ["_law_script"] := ⟨F_law, PySem.W.mg_of X G a_law, F_law.binds (ps := ["_law_script"]) fun _ _ _ _ _ _ us hl => match us, hl with | [_], _ => rfl⟩
  refine ⟨PySem.W.fnOf "law" "law" (defArgs s_law) (defBody s_law) (defScope s_law) .none kV_law dc_law pm_law an_law cd_law ct_law, fun s v => .of_eq rfl, fun base _ _ => ?_⟩
  have H_is_whole := ok_is_whole (P := l.prog) (w := w) (base := base) T O_is_whole
  have H_small := ok_are_small (P := l.prog) (w := w) (base := base) T O_are_small
  have H_things := ok_are_things T H_small O_are_small O_are_things
  have H_is_thing := ok_is_thing T H_small O_are_small O_is_thing
  have H_looks := ok_looks_again T H_is_whole O_is_whole O_looks_again
  have H_is_row := ok_is_row T H_things H_looks O_are_things O_looks_again O_is_row
  have H_dice := ok_dice (P := l.prog) (w := w) (base := base) T O_l_dice
  have H_roll := ok_roll (P := l.prog) (w := w) (base := base) T O_l_roll
  have H_names := ok_names T H_roll O_l_roll O_l_names
  have H_row := row_step T H_roll O_l_roll O_l_row (row_step T H_roll O_l_roll O_l_row (row_step T H_roll O_l_roll O_l_row (row_step T H_roll O_l_roll O_l_row (row_step T H_roll O_l_roll O_l_row row_none))))
  have H_dressed := dress_step T H_roll O_l_roll O_l_dressed (dress_step T H_roll O_l_roll O_l_dressed (dress_step T H_roll O_l_roll O_l_dressed (dress_step T H_roll O_l_roll O_l_dressed (dress_step T H_roll O_l_roll O_l_dressed dress_none))))
  have H_odd := ok_odd T H_roll O_l_roll O_l_odd
  have H_bent := bent_all T H_roll H_odd O_l_roll O_l_odd O_l_bent 13
  have H_l_thing := ok_l_is_thing (P := l.prog) (w := w) (base := base) T O_l_is_thing
  have H_pr := part_row T H_l_thing O_l_is_thing O_l_is_row O_l_is_part 16
  exact ok_law T H_is_thing H_is_row H_dice H_roll H_names H_row H_dressed H_odd H_bent H_l_thing H_pr.2 O_is_thing O_is_row O_l_dice O_l_roll O_l_names O_l_row O_l_dressed O_l_odd O_l_bent O_l_is_thing O_l_is_row O_law
theorem walk {l : PySem.W.OpenLaw} {q : Program} {loose : List Str} {XP : (Str → Option Value) → Heap → Prop} {YP : World → Heap → Prop} {d : DefRec} {K : Params → PySem.W.Frag} (hn : l.most = some 63) (hdf : d.params.defaults = [])
    (hY : ∀ (w : World) (h : Heap), YP w h → (K w.params).In h)
    (F : ∀ (w : World) (mg : Str → Option Value) (fa : Addr) (h : Heap), (K w.params).In h → h.Ns mainGlobals mg → mg d.name = some (.ref fa) →
      ∃ fd : FuncData, (∀ (s : Shared) (u : Value), BindsTo s fd ⟨[u], []⟩ [("_law_script", u)]) ∧ ∀ base : Heap, (K w.params).In base → base.Ns mainGlobals mg → FnA Clean l.prog w (K w.params) mg base CX0 20 fa fd ["_law_script"] (spLaw (K w.params))) :
    PySem.W.WalkO q loose XP YP l.row.toRowW d [] (fun f vs => PySem.call f vs) :=
  walk_ofA (n := 63) (k := 20) (x := "_law_script") (sp := fun w => spLaw (K w.params)) hn (by decide) hdf ⟨rfl, by decide, by decide⟩ hY F (fun _ _ a ns hl _ hS => ⟨a, ns, rfl, hS, hl, fun _ => rfl⟩)
end K00
open PySem PySem.W PyProof.Rows in
set_option maxRecDepth 100000 in
set_option maxHeartbeats 0 in
theorem PySem.Challenge.cw_missclock_k00_things_and_rows_holds : PySem.Challenge.rw_missclock_k00_things_and_rows.Holds := by
  w_on; o_law; x_head; (case hw => w_witness2)
  k_fill
  refine K00.walk (l := PySem.Challenge.rw_missclock_k00_things_and_rows) rfl rfl (fun w h Y => PySem.W.kIn_of Y) ?F
  case F =>
    intro w mg fa h KX G hmg
    refine' K00.all_mk KX G hmg ?a_is_whole ?l_is_whole ?w_is_whole ?k_is_whole ?a_is_thing ?l_is_thing ?w_is_thing ?k_is_thing ?a_are_things ?l_are_things ?w_are_things ?k_are_things ?a_are_small ?l_are_small ?w_are_small ?k_are_small ?a_is_row ?l_is_row ?w_is_row ?k_is_row ?a_looks_again ?l_looks_again ?w_looks_again ?k_looks_again ?a_l_dice ?l_l_dice ?w_l_dice ?k_l_dice ?a_l_roll ?l_l_roll ?w_l_roll ?k_l_roll ?a_l_names ?l_l_names ?w_l_names ?k_l_names ?a_l_row ?l_l_row ?w_l_row ?k_l_row ?a_l_dressed ?l_l_dressed ?w_l_dressed ?k_l_dressed ?a_l_odd ?l_l_odd ?w_l_odd ?k_l_odd ?a_l_bent ?l_l_bent ?w_l_bent ?k_l_bent ?a_l_is_thing ?l_l_is_thing ?w_l_is_thing ?k_l_is_thing ?a_l_is_part ?l_l_is_part ?w_l_is_part ?k_l_is_part ?a_l_is_row ?l_l_is_row ?w_l_is_row ?k_l_is_row ?a_law ?l_law ?w_law ?k_law ?z_isinstance ?z_int ?z_bool ?z_str ?z_list ?z_tuple ?z_len ?z_all ?z_range ?z_min ?z_repr ?q_LONGEST_THING ?q_MOST_TIMES ?q_DEEPEST_ROW ?q_sys
    (case a_is_whole => k_is)
    (case l_is_whole => k_is)
    (case w_is_whole => k_is)
    (case k_is_whole => k_is)
    (case a_is_thing => k_is)
    (case l_is_thing => k_is)
    (case w_is_thing => k_is)
    (case k_is_thing => k_is)
    (case a_are_things => k_is)
    (case l_are_things => k_is)
    (case w_are_things => k_is)
    (case k_are_things => k_is)
    (case a_are_small => k_is)
    (case l_are_small => k_is)
    (case w_are_small => k_is)
    (case k_are_small => k_is)
    (case a_is_row => k_is)
    (case l_is_row => k_is)
    (case w_is_row => k_is)
    (case k_is_row => k_is)
    (case a_looks_again => k_is)
    (case l_looks_again => k_is)
    (case w_looks_again => k_is)
    (case k_looks_again => k_is)
    (case a_l_dice => k_is)
    (case l_l_dice => k_is)
    (case w_l_dice => k_is)
    (case k_l_dice => k_is)
    (case a_l_roll => k_is)
    (case l_l_roll => k_is)
    (case w_l_roll => k_is)
    (case k_l_roll => k_is)
    (case a_l_names => k_is)
    (case l_l_names => k_is)
    (case w_l_names => k_is)
    (case k_l_names => k_is)
    (case a_l_row => k_is)
    (case l_l_row => k_is)
    (case w_l_row => k_is)
    (case k_l_row => k_is)
    (case a_l_dressed => k_is)
    (case l_l_dressed => k_is)
    (case w_l_dressed => k_is)
    (case k_l_dressed => k_is)
    (case a_l_odd => k_is)
    (case l_l_odd => k_is)
    (case w_l_odd => k_is)
    (case k_l_odd => k_is)
    (case a_l_bent => k_is)
    (case l_l_bent => k_is)
    (case w_l_bent => k_is)
    (case k_l_bent => k_is)
    (case a_l_is_thing => k_is)
    (case l_l_is_thing => k_is)
    (case w_l_is_thing => k_is)
    (case k_l_is_thing => k_is)
    (case a_l_is_part => k_is)
    (case l_l_is_part => k_is)
    (case w_l_is_part => k_is)
    (case k_l_is_part => k_is)
    (case a_l_is_row => k_is)
    (case l_l_is_row => k_is)
    (case w_l_is_row => k_is)
    (case k_l_is_row => k_is)
    (case a_law => k_is)
    (case l_law => k_is)
    (case w_law => k_is)
    (case k_law => k_is)
    (case z_isinstance => k_is)
    (case z_int => k_is)
    (case z_bool => k_is)
    (case z_str => k_is)
    (case z_list => k_is)
    (case z_tuple => k_is)
    (case z_len => k_is)
    (case z_all => k_is)
    (case z_range => k_is)
    (case z_min => k_is)
    (case z_repr => k_is)
    (case q_LONGEST_THING => k_is)
    (case q_MOST_TIMES => k_is)
    (case q_DEEPEST_ROW => k_is)
    (case q_sys => k_is)
#print axioms PySem.Challenge.cw_missclock_k00_things_and_rows_holds

