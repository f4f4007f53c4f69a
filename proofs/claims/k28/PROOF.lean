import PyProof.Rows.All
import Wide.All
import OpenK.AllK
import Wide.FinOn
import HandS.Base
import HandS.Call
import HandS.List
import HandS.Comp
import HandS.Ends
import HandS.Words
import HandS.Iter
import HandS.Dict
import HandS.IsInst
import HandS.Deep
import HandS.Text
import HandS.Style
import HandS.Wide
import HandS.WordsList
import HandS.StrMore
import HandS.DictComp
import HandS.Walk
import HandS.WordsDict
import HandS.Zip
import KE.GoesMore
import PyProof.Rows.ChunkEnd
import HandS.TupAny
import KE.DataFind
import HandS.More
import HandS.Flow
import HandS.TryOnly
import OpenK.XHead
import PySem.Challenge.RW_missclock_k28_the_plain_rule
set_option Elab.async false
set_option linter.all false
set_option maxRecDepth 100000
set_option maxHeartbeats 4000000
/-! MC: data of any depth over the heap, its repr, comparisons with the empty ones; promises under known guards. -/
namespace MC
open PySem PySem.Spec L2
open PyProof.Rows hiding St

/-! ### data -/
def keyD : Key → PyData
  | .inl i => .int i
  | .inr x => .str x
mutual
inductive DD (H : Hp) : V → PyData → Prop
  | non : DD H .non .none
  | bl (b : Bool) : DD H (.bl b) (.bool b)
  | int (i : Int) : DD H (.int i) (.int i)
  | str (x : Str) : DD H (.str x) (.str x)
  | lst {a : Addr} {xs : List V} {ds : List PyData} (h : H a = some (.lst xs)) (hs : DDs H xs ds) : DD H (.ref a) (.list ds)
  | tup {a : Addr} {xs : List V} {ds : List PyData} (h : H a = some (.tup xs)) (hs : DDs H xs ds) : DD H (.ref a) (.tuple ds)
  | dct0 {a : Addr} (h : H a = some (.dK [])) : DD H (.ref a) (.dict [])
inductive DDs (H : Hp) : List V → List PyData → Prop
  | nil : DDs H [] []
  | cons {v : V} {vs : List V} {d : PyData} {ds : List PyData} (h : DD H v d) (hs : DDs H vs ds) : DDs H (v :: vs) (d :: ds)
end

mutual
theorem DD.mono {H H' : Hp} (e : Same H H') : ∀ {d : PyData} {v : V}, DD H v d → DD H' v d
  | _, _, .non => .non
  | _, _, .bl b => .bl b
  | _, _, .int i => .int i
  | _, _, .str x => .str x
  | _, _, .lst h hs => .lst (e _ _ h) (DDs.mono e hs)
  | _, _, .tup h hs => .tup (e _ _ h) (DDs.mono e hs)
  | _, _, .dct0 h => .dct0 (e _ _ h)
theorem DDs.mono {H H' : Hp} (e : Same H H') : ∀ {ds : List PyData} {vs : List V}, DDs H vs ds → DDs H' vs ds
  | _, _, .nil => .nil
  | _, _, .cons h hs => .cons (DD.mono e h) (DDs.mono e hs)
end
theorem DDs.length {H : Hp} : ∀ {vs : List V} {ds : List PyData}, DDs H vs ds → vs.length = ds.length
  | _, _, .nil => rfl
  | _, _, .cons _ hs => congrArg (· + 1) hs.length
theorem DDs.get {H : Hp} : ∀ {vs : List V} {ds : List PyData}, DDs H vs ds → ∀ {i : Nat} {v : V}, vs[i]? = some v → ∃ d, ds[i]? = some d ∧ DD H v d
  | _, _, .nil, _, _, e => by simp at e
  | _, _, .cons h _, 0, _, e => by simp at e; subst e; exact ⟨_, rfl, h⟩
  | _, _, .cons _ hs, i + 1, v, e => by
    obtain ⟨d, e1, e2⟩ := hs.get (i := i) (v := v) (by simpa using e)
    exact ⟨d, by simpa using e1, e2⟩
theorem DDs.append {H : Hp} : ∀ {vs ws : List V} {ds es : List PyData}, DDs H vs ds → DDs H ws es → DDs H (vs ++ ws) (ds ++ es)
  | _, _, _, _, .nil, k => k
  | _, _, _, _, .cons h hs, k => .cons h (hs.append k)
theorem DDs.take {H : Hp} : ∀ {vs : List V} {ds : List PyData} (n : Nat), DDs H vs ds → DDs H (vs.take n) (ds.take n)
  | _, _, 0, _ => .nil
  | _, _, _ + 1, .nil => .nil
  | _, _, n + 1, .cons h hs => .cons h (DDs.take n hs)
theorem DDs.drop {H : Hp} : ∀ {vs : List V} {ds : List PyData} (n : Nat), DDs H vs ds → DDs H (vs.drop n) (ds.drop n)
  | _, _, 0, r => r
  | _, _, _ + 1, .nil => .nil
  | _, _, n + 1, .cons _ hs => DDs.drop n hs
theorem DDs.set {H : Hp} {v : V} {d : PyData} (r : DD H v d) : ∀ {vs : List V} {ds : List PyData} (i : Nat), DDs H vs ds → DDs H (vs.set i v) (ds.set i d)
  | _, _, _, .nil => .nil
  | _, _, 0, .cons _ hs => .cons r hs
  | _, _, i + 1, .cons h hs => .cons h (DDs.set r i hs)

section
variable {X : Cx} {pins : List (Addr × Obj)} {σ : St} {H : Hp} {s : Shared}
mutual
theorem DD.reads (I : Inv X pins σ H s) : ∀ (d : PyData) (v : V) (u : Value), DD H v d → RelV v u → ∃ as, Reads s.heap u d as ∧ ∀ b ∈ as, H b ≠ none
  | .none, _, _, h, r => by
    cases h; cases r
    exact ⟨_, .none, fun b hb => nomatch hb⟩
  | .bool b, _, _, h, r => by
    cases h; cases r
    exact ⟨_, .bool b, fun b hb => nomatch hb⟩
  | .int i, _, _, h, r => by
    cases h; obtain ⟨t, rfl⟩ := r
    exact ⟨_, .int i t, fun b hb => nomatch hb⟩
  | .str x, _, _, h, r => by
    cases h; obtain ⟨t, rfl⟩ := r
    exact ⟨_, .str x t, fun b hb => nomatch hb⟩
  | .list ds, _, _, h, r => by
    cases h with
    | lst ha hs =>
      cases r
      obtain ⟨_, its, n, rv, ho⟩ := (show ObjOk X.prog X.w H s.heap _ (.lst _) from I.hok _ _ ha)
      obtain ⟨as, hr, hb⟩ := DDs.reads I ds _ its hs rv
      refine ⟨_, .list ho rfl rfl (by simpa using hr), fun b hbm => ?_⟩
      rcases List.mem_cons.mp hbm with rfl | hbm
      · rw [ha]; exact fun z => nomatch z
      · exact hb b hbm
  | .tuple ds, _, _, h, r => by
    cases h with
    | tup ha hs =>
      cases r
      obtain ⟨_, its, rv, o, ho, hc, n, hd⟩ := (show ObjOk X.prog X.w H s.heap _ (.tup _) from I.hok _ _ ha)
      obtain ⟨as, hr, hb⟩ := DDs.reads I ds _ its hs rv
      exact ⟨_, .tuple ho hc hd (by simpa using hr), hb⟩
  | .dict es, _, _, h, r => by
    cases h with
    | dct0 ha =>
      cases r
      obtain ⟨_, _, vs, kv, o, es, ep, ho, hx, hd, _, hm, _⟩ := (show ObjOk X.prog X.w H s.heap _ (.dK _) from I.hok _ _ ha)
      cases kv
      have e0 : es.toList = [] := by
        generalize es.toList = l at hm
        cases hm
        rfl
      refine ⟨_, .dict (kvs := []) ho hx.1 hd (by rw [e0]; exact .nil) (by rw [e0]; exact .nil), fun b hb => ?_⟩
      rw [List.append_nil] at hb
      rw [List.mem_singleton.mp hb, ha]
      exact fun z => nomatch z
theorem DDs.reads (I : Inv X pins σ H s) : ∀ (ds : List PyData) (vs : List V) (us : List Value), DDs H vs ds → Vals vs us → ∃ as, ReadsAll s.heap us ds as ∧ ∀ b ∈ as, H b ≠ none
  | [], _, _, h, r => by
    cases h; cases r
    exact ⟨_, .nil, fun b hb => nomatch hb⟩
  | d :: ds, _, _, h, r => by
    cases h with
    | cons h1 h2 =>
      cases r with
      | cons r1 r2 =>
        obtain ⟨as, q1, b1⟩ := DD.reads I d _ _ h1 r1
        obtain ⟨bs, q2, b2⟩ := DDs.reads I ds _ _ h2 r2
        exact ⟨_, .cons q1 q2, fun b hb => (List.mem_append.mp hb).elim (b1 b) (b2 b)⟩
end
end

/-! ### repr -/
section
variable {X : Cx}
def rRepr : List V → Hp → VK → Prop := fun xs H Q => ∃ x d, xs = [x] ∧ DD H x d ∧ d.showable = true ∧ d.depth ≤ 100 ∧ d.shown.length ≤ sizeLine ∧ Q (.str d.shown) H
theorem flatD {H : Hp} {x : V} {d : PyData} (h : DD H x d) : (∃ a, x = .ref a) ∨ (x = .non ∧ d = .none) ∨ (∃ b, x = .bl b ∧ d = .bool b) ∨ (∃ i, x = .int i ∧ d = .int i) ∨ ∃ z, x = .str z ∧ d = .str z := by
  cases h with
  | non => exact .inr (.inl ⟨rfl, rfl⟩)
  | bl b => exact .inr (.inr (.inl ⟨b, rfl, rfl⟩))
  | int i => exact .inr (.inr (.inr (.inl ⟨i, rfl, rfl⟩)))
  | str z => exact .inr (.inr (.inr (.inr ⟨z, rfl, rfl⟩)))
  | lst h _ => exact .inl ⟨_, rfl⟩
  | tup h _ => exact .inl ⟨_, rfl⟩
  | dct0 h => exact .inl ⟨_, rfl⟩
/-- the system's own table of modules is an object of the written part: nothing tracked lies there -/
def NoSys (X : Cx) : Prop := ∃ o, X.K.lookup sysModules = some o
theorem call_repr (hg : X.A.guards = some []) (hu : X.A.units + 200 < cLine) (hn : NoSys X) : CallR X (.builtin "repr") rRepr := by
  intro pins s σ H xs us Q I r h
  obtain ⟨x, d, rfl, hd, hs, hdp, hz, q⟩ := h
  obtain ⟨u, rfl, rx⟩ := vals1 r
  obtain ⟨as, rd, nb⟩ := DD.reads I d x u hd rx
  have fin : ∀ tk t, EP X pins σ Q (.str d.shown t) { s with toks := tk } := fun tk t => ⟨.str _, H, I.tok _, ⟨_, rfl⟩, q⟩
  rcases flatD hd with ⟨a, rfl⟩ | ⟨rfl, rfl⟩ | ⟨b, rfl, rfl⟩ | ⟨i, rfl, rfl⟩ | ⟨z, rfl, rfl⟩
  · cases rx
    refine repr_of_reads' rd hs (fun _ hm => ?_) hg (by omega) (fun _ _ e => e) (fun h' u tk hk => ⟨.str _, H, I.kept (h' := h') (t' := tk) hk, ⟨_, rfl⟩, q⟩) hz
    obtain ⟨o, ho⟩ := hn
    exact nb _ hm (I.bs _ _ (I.ok.mod.kin _ _ ho)).2
  · cases rx
    exact PySem.P.repr_of_none (fin _ _)
  · cases rx
    refine PySem.P.repr_of_bool ?_
    have := fin (s.toks + 1) s.toks
    cases b <;> exact this
  · obtain ⟨t, rfl⟩ := rx
    exact PySem.P.repr_of_int (by simpa [PyData.showable] using hs) (fin _ _)
  · obtain ⟨t, rfl⟩ := rx
    exact PySem.P.repr_of_str (fin _ _) hz
end
end MC

set_option Elab.async false
set_option linter.all false
set_option maxRecDepth 100000
set_option maxHeartbeats 4000000
namespace MC
open PySem PySem.Spec L2
open PyProof.Rows hiding St

/-! ### promises under a fact about what lies around -/
structure FnA (Φ : Around → Prop) (P : Program) (w : World) (K : PySem.W.Frag) (mg : Str → Option Value) (base : Heap) (CX : CXT) (k : Nat) (f : Addr) (fd : FuncData) (ps : List Str) (sp : Sp) : Prop where
  len : ∀ vs H Q E, sp vs H Q E → vs.length = ps.length
  run : ∀ (A : Around) (outer : List Env) (s : Shared) (H : Hp) (args : Args) (us : List Value) (vs : List V) (Q : VK) (E : XK), Φ A → Room k A → Env0 P w K mg base A outer s H →
    BindsTo s fd args (ps.zip us) → Vals vs us → sp vs H Q E → codeAny (model P w) A (.call (.ref f) args) (CR CX outer P w H s Q E) s
def Clean (A : Around) : Prop := A.guards = some []
theorem Clean.deeper {A : Around} (h : Clean A) (e : Env) : Clean (A.deeper e) := h

section
variable {Φ : Around → Prop} {CX : CXT} {P : Program} {w : World} {K : PySem.W.Frag} {mg : Str → Option Value} {base : Heap} {k : Nat} {f : Addr}
theorem fn_ofA {name qual : Str} {params : Arguments} {body : List Stmt} {scope : Scope} {dV kV doc pm cdv ct oc : Value} {an od : Option Addr}
    {osl : Array (Option Value)} {N ps : List Str} {sp : Sp} (lk : K.lookup f = some ⟨oc, od, .func (PySem.W.fnOf name qual params body scope dV kV doc pm an cdv ct), osl⟩)
    (hcd : PySem.W.codeIn K cdv qual = true) (S : FnScope N ps scope) (len : ∀ vs H Q E, sp vs H Q E → vs.length = ps.length)
    (hbody : ∀ (A : Around) (outer : List Env) (s : Shared) (H : Hp) (vs : List V) (Q : VK) (E : XK), Φ A → Room k (A.deeper (envOfC qual scope s.heap.objs.size f cdv)) → sp vs H Q E →
      ∃ t, PSs (cxOf CX P w K mg base N qual scope f cdv A outer s H E) body t ∧ t { nx := fun _ H' => Q .non H', rt := Q } (start N vs) H) :
    FnA Φ P w K mg base CX (k + 1) f (PySem.W.fnOf name qual params body scope dV kV doc pm an cdv ct) ps sp := by
  refine ⟨len, fun A outer s H args us vs Q E hΦ hr e0 hb r hsp => ?_⟩
  have sub := fun b o e => (e0.bs b o e).1
  have inK : K.In s.heap := e0.mod.kin.keeps sub
  have bound : ∀ y ∈ ps.zip us, scope.names.lookup y.1 = some .local ∨ (scope.names.lookup y.1 = some .cell ∧ ((cellsFrom (s.heap.objs.size + 1) scope.names []).lookup y.1).isSome = true) := by
    rintro ⟨n, v⟩ hy
    have hp := S.par n (List.of_mem_zip hy).1
    exact hp.elim .inl fun q => .inr ⟨q, PySem.W.cellsFrom_some _ _ _ (.inl q)⟩
  refine codeAny_call_function hr.depth (inK _ _ lk) rfl S.co S.gen rfl (PySem.W.codeRec_of inK hcd) (hb _ _ _ _ (wpAny_newFunctionEnv_cells S.kind bound fun env he s1 x => ?_))
  cases he
  refine ⟨(e0.mod.nolimit.keeps sub).keeps x.toInCall.keep, codeAny_func ?_⟩
  obtain ⟨t, ht, hq⟩ := hbody A outer s H vs Q E hΦ (hr.deeper _) hsp
  have J := inv_start (CX := CX) (w := w) (qual := qual) (f := f) (cd := cdv) (E := E) S hr.hd e0 (len _ _ _ _ hsp) r x
  refine wpAny_mono (ht.run [] s1 _ H _ J hq) (fun fl s' hs => ?_) fun _ _ z => z
  match fl, hs with
  | .ret u, ⟨v, _, H', J', rv, q⟩ => exact ⟨v, H', J'.os, J'.bare, J'.base, J'.hok, rv, q⟩
  | .next, ⟨_, H', J', q⟩ => exact ⟨V.non, H', J'.os, J'.bare, J'.base, J'.hok, rfl, q⟩
  | .brk, ⟨_, _, _, q⟩ => exact q.elim
  | .cont, ⟨_, _, _, q⟩ => exact q.elim

theorem FunA.ok {x qual : Str} {st : Stmt} {fd : FuncData} {N ps : List Str} {sp : Sp} (F : Fun K x qual st f fd) (S : FnScope N ps (defScope st)) (len : ∀ vs H Q E, sp vs H Q E → vs.length = ps.length)
    (hbody : ∀ (cdv : Value) (A : Around) (outer : List Env) (s : Shared) (H : Hp) (vs : List V) (Q : VK) (E : XK), Φ A → Room k (A.deeper (envOfC qual (defScope st) s.heap.objs.size f cdv)) → sp vs H Q E →
      ∃ t, PSs (cxOf CX0 P w K mg base N qual (defScope st) f cdv A outer s H E).nox (defBody st) t ∧ t { nx := fun _ H' => Q .non H', rt := Q } (start N vs) H) : FnA Φ P w K mg base CX0 (k + 1) f fd ps sp := by
  obtain ⟨oc, od, kV, doc, pm, an, cdv, ct, osl, rfl, lk, hcd⟩ := F.ex
  exact fn_ofA lk hcd S len fun A outer s H vs Q E hΦ hr hsp => (hbody cdv A outer s H vs Q E hΦ hr hsp).imp fun t z => ⟨z.1.nox, z.2⟩
theorem FnA.of {fd : FuncData} {ps : List Str} {sp : Sp} (F : FnOk P w K mg base CX k f fd ps sp) : FnA Φ P w K mg base CX k f fd ps sp :=
  ⟨F.len, fun A outer s H args us vs Q E _ => F.run A outer s H args us vs Q E⟩
end

section
variable {Φ : Around → Prop} {X : Cx} {CX : CXT} {k : Nat} {f : Addr} {fd : FuncData} {ps : List Str} {sp : Sp} {dvs : List V} {ds : List Value} {E : XK} {x : Str} {p pos : Pos} {e : Expr} {es : List Expr} {t : TA}
/-- a call of a def whose promise leans on what lies around -/
theorem pe_callA (hΦ : Φ X.A) (F : FnA Φ X.prog X.w X.K X.mg X.base CX k f fd ps sp) (hr : Room k X.A) (hg : Gl X x) (hm : X.mg x = some (.ref f)) (hk : PySem.W.keepIn X.K (.ref f) = true) (hb : Binds X.K fd ps ds) (hd : Vals dvs ds) (hx : Passes CX X E)
    (ha : PA X (e :: es) t) (hdb : (x == ("__debug__" : Str)) = false := by decide) (he : starEach (e :: es) X.env = (false, eval e X.env) :: starEach es X.env := by rfl) (hpl : (backTo pos (starEach es X.env)).any (·.1) = false := by rfl) :
    PE X (.Call (.Name x p) (e :: es) [] pos) (tCall sp dvs E t) := by
  constructor
  intro pins s σ H Q I h
  refine wpAny_Call_Name_kw (ld_glob I hg hm ?_ hdb)
  refine PySem.W.callWith_K (h₀ := X.base) I.ok.mod.kin hk (thn (ha.run pos pins s σ H _ I h) fun us s1 ⟨vs, H1, I1, r, q⟩ => ⟨I1.kIn, ?_⟩) he hpl
  have r2 := r.append hd
  have hl : (us ++ ds).length = ps.length := r2.length.symm.trans (F.len _ _ _ _ q)
  refine wpAny_call (codeAny_mono (F.run X.A X.stack s1 H1 ⟨us, []⟩ _ _ Q E hΦ hr I1.env0 (hb s1 us I1.kIn hl) r2 q) fun z s' hq => ?_)
  match z, hq with
  | .error e', hq => exact hx pins σ H1 s1 e' s' I1 hq
  | .ok (.ret u), hq => exact I1.after hq
  | .ok .next, hq => exact hq.elim
  | .ok .brk, hq => exact hq.elim
  | .ok .cont, hq => exact hq.elim
end

/-! ### the law's own call -/
theorem law_callA {P : Program} {w : World} {K : PySem.W.Frag} {mg mb : Str → Option Value} {k : Nat} {fa a : Addr} {fd : FuncData} {x : Str} {sp : Sp} {s₁ : Shared} {vs : List Value} {ns : List Int}
    (KX : K.In s₁.heap) (hns : s₁.heap.Ns mainGlobals mg) (hb : s₁.heap.Ns builtinsNs mb) (hbb : ∀ x : Str, x ≠ "__name__" → mb x = bootBuiltins x) (hlim : s₁.heap.NoLimit) (hg : s₁.gens = #[])
    (ha : s₁.heap.get? a = some { cls := .type "list", data := .seq vs.toArray }) (hi : IntsAre vs ns) (hl : ns.length ≤ sizeLine) (hr : Room k callerA)
    (F : ∀ base : Heap, K.In base → base.Ns mainGlobals mg → FnA Clean P w K mg base CX0 k fa fd [x] sp) (hbind : ∀ (s : Shared) (u : Value), BindsTo s fd ⟨[u], []⟩ [(x, u)])
    (hsp : ∀ H : Hp, Only H → SqL K H a (ns.map V.int) → sp [.ref a] H (fun v _ => v = .bl true) fun _ _ _ => False) :
    codeAny (model P w) callerA (.call (.ref fa) ⟨[.ref a], []⟩) (fun r s' => r = .ok (.ret (.bool true)) ∧ OldK s₁.heap s'.heap ∧ s'.os = s₁.os ∧ AllBare s'.gens) s₁ := by
  have rv := vals_ints hi
  have main : ∀ H : Hp, Only H → SqL K H a (ns.map V.int) → HOk P w H s₁.heap → (∀ b u, H b = some u → b = a ∧ K.lookup a = none) →
      codeAny (model P w) callerA (.call (.ref fa) ⟨[.ref a], []⟩) (fun r s' => r = .ok (.ret (.bool true)) ∧ OldK s₁.heap s'.heap ∧ s'.os = s₁.os ∧ AllBare s'.gens) s₁ := by
    intro H hO hS hok hA
    have none_of : ∀ {b : Addr}, (b = a → K.lookup a = none → False) → H b = none := fun {b} h => by
      match e : H b with
      | none => rfl
      | some u => exact (h (hA b u e).1 (hA b u e).2).elim
    have ns_of : ∀ {b : Addr} {m : Str → Option Value}, s₁.heap.Ns b m → (hidT s₁.heap H).Ns b m := fun {b m} ⟨o, es, ep, e, d, r⟩ =>
      ⟨o, es, ep, hidT_get e (none_of fun q _ => by subst q; rw [ha] at e; cases e; cases d), d, r⟩
    have kb : K.In (hidT s₁.heap H) := fun b o e => hidT_get (KX b o e) (none_of fun q z => by subst q; rw [z] at e; cases e)
    have M : Mod K mg (hidT s₁.heap H) := ⟨kb, ns_of hns, ⟨mb, ns_of hb, hbb⟩, hlim.imp fun mc z => ⟨ns_of z.1, z.2⟩⟩
    have e0 : Env0 P w K mg (hidT s₁.heap H) callerA [] s₁ H := ⟨rfl, M, fun b o e => of_hidT e, Nat.le_of_eq (hidT_size _ _), trivial, (fun b z => nomatch z), hok, .of_eq hg⟩
    refine codeAny_mono ((F _ kb (ns_of hns)).run callerA [] s₁ H ⟨[.ref a], []⟩ [.ref a] [.ref a] _ _ rfl hr e0 (hbind s₁ (.ref a)) (.cons rfl .nil) (hsp H hO hS)) fun r s' h => ?_
    match r, h with
    | .error e, h => exact h.elim
    | .ok .next, h => exact h.elim
    | .ok .brk, h => exact h.elim
    | .ok .cont, h => exact h.elim
    | .ok (.ret u), ⟨v, H', os, bare, un, hok', r', q⟩ =>
      cases (show v = .bl true from q)
      cases (show u = Value.bool true from r')
      refine ⟨rfl, OldK.of_keep fun b o e => ?_, os, bare⟩
      match z : H b with
      | none => exact un.keep b o e z (fun q => nomatch q) (fun q => nomatch q)
      | some y =>
        rcases hO b with z2 | ⟨ob, xs, z2⟩
        · rw [z] at z2; cases z2
        · have f1 := (hok b _ z2).1
          have f2 := (hok' b _ (un.frzs b ob _ z2)).1
          rw [e] at f1; cases f1
          exact f2
  match hk : K.lookup a with
  | some o =>
    have e := KX a o hk
    rw [ha] at e
    cases e
    exact main (fun _ => none) (fun _ => .inl rfl) (.inr ⟨_, vs.toArray, _, hk, rfl, rfl, rfl, by rw [List.size_toArray, hi.length]; exact hl, by simpa using rv⟩) (fun b u z => (nomatch z)) (fun b u z => (nomatch z))
  | none =>
    have at_a : upd (fun _ => none) a (.frz { cls := .type "list", data := .seq vs.toArray } (.lst (ns.map V.int))) a = some _ := upd_same
    refine main _ (fun b => ?_) (.inl (.inr ⟨_, at_a⟩)) (fun b u z => ?_) fun b u z => ⟨?_, hk⟩
    · by_cases q : b = a
      · subst q; exact .inr ⟨_, _, at_a⟩
      · exact .inl (upd_ne q)
    · by_cases q : b = a
      · subst q; rw [at_a] at z; cases z
        exact ⟨ha, by rw [List.length_map]; exact hl, vs, _, rv, ha⟩
      · rw [upd_ne q] at z; cases z
    · by_cases q : b = a
      · exact q
      · rw [upd_ne q] at z; cases z
theorem walk_ofA {l : PySem.W.OpenLaw} {n k : Nat} {q : Program} {loose : List Str} {XP : (Str → Option Value) → Heap → Prop} {YP : World → Heap → Prop} {d : DefRec} {K : Params → PySem.W.Frag} {sp : World → Sp} {x : Str}
    (hn : l.most = some n) (hn2 : n ≤ sizeLine) (hdf : d.params.defaults = []) (hr : Room k callerA) (hY : ∀ (w : World) (h : Heap), YP w h → (K w.params).In h)
    (F : ∀ (w : World) (mg : Str → Option Value) (fa : Addr) (h : Heap), (K w.params).In h → h.Ns mainGlobals mg → mg d.name = some (.ref fa) →
      ∃ fd : FuncData, (∀ (s : Shared) (u : Value), BindsTo s fd ⟨[u], []⟩ [(x, u)]) ∧ ∀ base : Heap, (K w.params).In base → base.Ns mainGlobals mg → FnA Clean l.prog w (K w.params) mg base CX0 k fa fd [x] (sp w))
    (hsp : ∀ (w : World) (H : Hp) (a : Addr) (ns : List Int), ns.length ≤ n → Only H → SqL (K w.params) H a (ns.map V.int) → sp w [.ref a] H (fun v _ => v = .bl true) fun _ _ _ => False) :
    PySem.W.WalkO q loose XP YP l.row.toRowW d [] (fun f vs => PySem.call f vs) :=
  Att.attach_call hn hdf fun w s₀ s₁ mg mb fa o pm cd doc a vs ns G Y ho hd hcd hmg hobj hints hlen hg => by
    obtain ⟨fd, hb, hF⟩ := F w mg fa _ (hY w _ Y) G.T.g hmg
    exact law_callA (hY w _ Y) G.T.g G.T.b G.T.builtins G.T.nolimit hg hobj hints (Nat.le_trans hlen hn2) hr hF hb fun H hO hS => hsp w H a ns hlen hO hS
end MC

set_option Elab.async false
set_option linter.all false
set_option maxRecDepth 100000
set_option maxHeartbeats 4000000
namespace MC
open PySem PySem.Spec L2
open PyProof.Rows hiding St
open AutoSeq1 (wpAny_loadPart')

/-! ### a list (a tuple) is no dict -/
theorem list_eq_dict (l b : Addr) (items : Array Value) (n n2 : Nat) (dd dd2 : Option Addr) (sl sl2 : Array (Option Value)) (es : Array DictEntry) :
    Meets (Builtin.«list.__eq__» ⟨[.ref l, .ref b], []⟩) (fun _ R s => s.heap.get? l = some { cls := .type "list", dict := dd, data := .seq items n, slots := sl } ∧
      s.heap.get? b = some { cls := .type "dict", dict := dd2, data := .dict es n2, slots := sl2 } ∧ R (.ok (.ret .notImplemented)) s) :=
  .of_wp fun prog w A R s h => by
    obtain ⟨hp, g, d, tk, os⟩ := s
    obtain ⟨hl, hb, h⟩ := h
    have f1 := F.sub_dict_list
    wp_walk using wpAny_loadPart' hl, wpAny_loadPart' hb
    exact ⟨_, rfl, h⟩
theorem tuple_eq_dict (l b : Addr) (items : Array Value) (n n2 : Nat) (dd dd2 : Option Addr) (sl sl2 : Array (Option Value)) (es : Array DictEntry) :
    Meets (Builtin.«tuple.__eq__» ⟨[.ref l, .ref b], []⟩) (fun _ R s => s.heap.get? l = some { cls := .type "tuple", dict := dd, data := .seq items n, slots := sl } ∧
      s.heap.get? b = some { cls := .type "dict", dict := dd2, data := .dict es n2, slots := sl2 } ∧ R (.ok (.ret .notImplemented)) s) :=
  .of_wp fun prog w A R s h => by
    obtain ⟨hp, g, d, tk, os⟩ := s
    obtain ⟨hl, hb, h⟩ := h
    have f1 := F.sub_dict_tuple
    wp_walk using wpAny_loadPart' hl, wpAny_loadPart' hb
    exact ⟨_, rfl, h⟩
theorem dict_eq_list (l b : Addr) (items : Array Value) (n n2 : Nat) (dd dd2 : Option Addr) (sl sl2 : Array (Option Value)) (es : Array DictEntry) (hb0 : (b == sysModules) = false) :
    Meets (Builtin.«dict.__eq__» ⟨[.ref b, .ref l], []⟩) (fun _ R s => s.heap.get? l = some { cls := .type "list", dict := dd, data := .seq items n, slots := sl } ∧
      s.heap.get? b = some { cls := .type "dict", dict := dd2, data := .dict es n2, slots := sl2 } ∧ R (.ok (.ret .notImplemented)) s) :=
  .of_wp fun prog w A R s h => by
    obtain ⟨hp, g, d, tk, os⟩ := s
    obtain ⟨hl, hb, h⟩ := h
    have f1 := F.sub_list_dict
    wp_walk using wpAny_loadPart' hl, wpAny_loadPart' hb
    exact ⟨_, rfl, h⟩
theorem dict_eq_tuple (l b : Addr) (items : Array Value) (n n2 : Nat) (dd dd2 : Option Addr) (sl sl2 : Array (Option Value)) (es : Array DictEntry) (hb0 : (b == sysModules) = false) :
    Meets (Builtin.«dict.__eq__» ⟨[.ref b, .ref l], []⟩) (fun _ R s => s.heap.get? l = some { cls := .type "tuple", dict := dd, data := .seq items n, slots := sl } ∧
      s.heap.get? b = some { cls := .type "dict", dict := dd2, data := .dict es n2, slots := sl2 } ∧ R (.ok (.ret .notImplemented)) s) :=
  .of_wp fun prog w A R s h => by
    obtain ⟨hp, g, d, tk, os⟩ := s
    obtain ⟨hl, hb, h⟩ := h
    have f1 := F.sub_tuple_dict
    wp_walk using wpAny_loadPart' hl, wpAny_loadPart' hb
    exact ⟨_, rfl, h⟩
section
variable {A : Around} {s : Shared}
open PySem.SeqAt
theorem list_dict {l b : Addr} {items : Array Value} {o : Obj} {es : Array DictEntry} {n2 : Nat} (hl : s.heap.IsList l items) (ho2 : s.heap.get? b = some o) (hc2 : o.cls = .type "dict") (hd2 : o.data = .dict es n2) (hb0 : (b == sysModules) = false)
    (hu : A.units < cLine) : EqAt A s (.ref l) (.ref b) false := by
  obtain ⟨⟨cls, dd, data, sl⟩, ho, hc, n, hd⟩ := id hl
  obtain ⟨cls2, dd2, data2, sl2⟩ := o
  simp only at hc hd hc2 hd2
  subst hc hd hc2 hd2
  have hne : l ≠ b := fun e => by
    subst e
    rw [ho] at ho2
    injection ho2 with z
    injection z with z1 _
    injection z1 with z2
    exact absurd z2 (by decide)
  refine EqAt.of_refs hne fun prog w E Q h => ?_
  exact rc_eq_decline_or (k := false) ⟨_, ho, rfl⟩ ⟨_, ho2, rfl⟩ (by decide) F.sub_dict_list F.slot_list_eq F.slot_dict_eq_refl
    (fun _ q => call_meets F.slot_list_eq ⟨_, ho, rfl⟩ F.entry_list_eq (F.args_list_eq_2 _ _) (list_eq_dict l b items n n2 dd dd2 sl sl2 es) ⟨ho, ho2, q⟩)
    (fun _ q => call_meets F.slot_dict_eq_refl ⟨_, ho2, rfl⟩ F.entry_dict_eq (F.args_dict_eq_2 _ _) (dict_eq_list l b items n n2 dd dd2 sl sl2 es hb0) ⟨ho, ho2, q⟩)
    (fun _ q => wpAny_isSame_ref_other hne ho ho2 (by simp) q) (.inr hu) h
theorem tuple_dict {l b : Addr} {items : Array Value} {o : Obj} {es : Array DictEntry} {n2 : Nat} (hl : s.heap.IsTuple l items) (ho2 : s.heap.get? b = some o) (hc2 : o.cls = .type "dict") (hd2 : o.data = .dict es n2) (hb0 : (b == sysModules) = false)
    (hu : A.units < cLine) : EqAt A s (.ref l) (.ref b) false := by
  obtain ⟨⟨cls, dd, data, sl⟩, ho, hc, n, hd⟩ := id hl
  obtain ⟨cls2, dd2, data2, sl2⟩ := o
  simp only at hc hd hc2 hd2
  subst hc hd hc2 hd2
  have hne : l ≠ b := fun e => by
    subst e
    rw [ho] at ho2
    injection ho2 with z
    injection z with z1 _
    injection z1 with z2
    exact absurd z2 (by decide)
  refine EqAt.of_refs hne fun prog w E Q h => ?_
  exact rc_eq_decline_or (k := false) ⟨_, ho, rfl⟩ ⟨_, ho2, rfl⟩ (by decide) F.sub_dict_tuple F.slot_tuple_eq F.slot_dict_eq_refl
    (fun _ q => call_meets F.slot_tuple_eq ⟨_, ho, rfl⟩ F.entry_tuple_eq (F.args_tuple_eq_2 _ _) (tuple_eq_dict l b items n n2 dd dd2 sl sl2 es) ⟨ho, ho2, q⟩)
    (fun _ q => call_meets F.slot_dict_eq_refl ⟨_, ho2, rfl⟩ F.entry_dict_eq (F.args_dict_eq_2 _ _) (dict_eq_tuple l b items n n2 dd dd2 sl sl2 es hb0) ⟨ho, ho2, q⟩)
    (fun _ q => wpAny_isSame_ref_other' hne ho ho2 (by simp) q) (.inr hu) h

/-! ### with the empty list, the empty tuple -/
theorem lists_nil {l b : Addr} {items : Array Value} (hl : s.heap.IsList l items) (hb : s.heap.IsList b #[]) (hu : A.units < cLine) : RcAt A s (.ref l) (.ref b) items.isEmpty := by
  by_cases e : items.size = 0
  · have q := RcAt.lists (e := fun _ => true) hl hb e hu (fun j h1 _ => by omega)
    rw [e] at q
    have z : items.isEmpty = true := by simpa using e
    rw [z]
    exact q
  · have z : items.isEmpty = false := by simpa using e
    rw [z]
    exact RcAt.lists_lengths hl hb (by simpa using e) hu
theorem ne_lists_nil {l b : Addr} {items : Array Value} (hl : s.heap.IsList l items) (hb : s.heap.IsList b #[]) (hu : A.units < cLine) : RcNeAt A s (.ref l) (.ref b) (!items.isEmpty) := by
  by_cases e : items.size = 0
  · have q := RcNeAt.lists (e := fun _ => true) hl hb e hu (fun j h1 _ => by omega)
    rw [e] at q
    have z : items.isEmpty = true := by simpa using e
    rw [z]
    exact q
  · have z : items.isEmpty = false := by simpa using e
    rw [z]
    exact RcNeAt.lists_lengths hl hb (by simpa using e) hu
theorem nil_lists {l b : Addr} {items : Array Value} (hl : s.heap.IsList l items) (hb : s.heap.IsList b #[]) (hu : A.units < cLine) : EqAt A s (.ref b) (.ref l) items.isEmpty := by
  by_cases hne : b = l
  · subst hne
    obtain ⟨o, h1, h2, n, h3⟩ := hl
    obtain ⟨o', k1, k2, n', k3⟩ := hb
    rw [h1] at k1; cases k1
    rw [h3] at k3; cases k3
    exact EqAt.same _
  · refine EqAt.of_refs hne ?_
    by_cases e : items.size = 0
    · have q := RcAt.lists (e := fun _ => true) hb hl e.symm hu (fun j h1 _ => by simp at h1)
      have z : items.isEmpty = true := by simpa using e
      rw [z]
      exact q
    · have z : items.isEmpty = false := by simpa using e
      rw [z]
      exact RcAt.lists_lengths hb hl (by simpa using Ne.symm e) hu
theorem nil_tuples {l b : Addr} {items : Array Value} (hl : s.heap.IsTuple l items) (hb : s.heap.IsTuple b #[]) (hu : A.units < cLine) : EqAt A s (.ref b) (.ref l) items.isEmpty := by
  by_cases hne : b = l
  · subst hne
    obtain ⟨o, h1, h2, n, h3⟩ := hl
    obtain ⟨o', k1, k2, n', k3⟩ := hb
    rw [h1] at k1; cases k1
    rw [h3] at k3; cases k3
    exact EqAt.same _
  · refine EqAt.of_refs hne ?_
    have q := RcAt.tuples (e := fun _ => true) hb hl hu (fun j h1 _ => by simp at h1)
    have z : ((List.range (min (#[] : Array Value).size items.size)).all (fun _ => true) && (#[] : Array Value).size == items.size) = items.isEmpty := by
      by_cases e : items.size = 0
      · have z : items.isEmpty = true := by simpa using e
        rw [z, e]; rfl
      · have z : items.isEmpty = false := by simpa using e
        rw [z, Bool.and_eq_false_iff]
        exact .inr (by simpa using Ne.symm e)
    rw [z] at q
    exact q
end

section
variable {X : Cx}
theorem isEmpty_vals {xs : List V} {us : List Value} (r : Vals xs us) : us.toArray.isEmpty = xs.isEmpty := by
  cases r <;> rfl
theorem vals_nil {us : List Value} (r : Vals [] us) : us = [] := by cases r; rfl
def rEqNil (K : PySem.W.Frag) : R2 := fun x y H Q => ∃ a b xs, x = .ref a ∧ y = .ref b ∧ SqL K H a xs ∧ H b = some (.lst []) ∧ Q (.bl xs.isEmpty) H
def rNeNil (K : PySem.W.Frag) : R2 := fun x y H Q => ∃ a b xs, x = .ref a ∧ y = .ref b ∧ SqL K H a xs ∧ H b = some (.lst []) ∧ Q (.bl (!xs.isEmpty)) H
theorem op_eqNil (hu : X.A.units < cLine) : OpR X (compareOp .Eq) (rEqNil X.K) := by
  intro pins s σ H x y v u Q I rx ry h
  obtain ⟨a, b, xs, rfl, rfl, ha, hb, q⟩ := h
  cases rx; cases ry
  obtain ⟨its, r, p, _⟩ := I.list ha
  obtain ⟨its2, r2, p2, _⟩ := I.list (SqL.of hb)
  cases vals_nil r2
  refine lists_nil p.isList p2.isList hu _ _ _ _ ⟨.bl _, H, I, rfl, ?_⟩
  rw [isEmpty_vals r]
  exact q
theorem op_neNil (hu : X.A.units < cLine) : OpR X (compareOp .NotEq) (rNeNil X.K) := by
  intro pins s σ H x y v u Q I rx ry h
  obtain ⟨a, b, xs, rfl, rfl, ha, hb, q⟩ := h
  cases rx; cases ry
  obtain ⟨its, r, p, _⟩ := I.list ha
  obtain ⟨its2, r2, p2, _⟩ := I.list (SqL.of hb)
  cases vals_nil r2
  refine ne_lists_nil p.isList p2.isList hu _ _ _ _ ⟨.bl _, H, I, rfl, ?_⟩
  rw [isEmpty_vals r]
  exact q

def emptyL : PyData → Bool
  | .list xs => xs.isEmpty
  | _ => false
def emptyT : PyData → Bool
  | .tuple xs => xs.isEmpty
  | _ => false
theorem isEmpty_reads {h : Heap} {us : Array Value} {ds : List PyData} {as : List Addr} (r : ReadsAll h us.toList ds as) : us.isEmpty = ds.isEmpty := by
  have q := SeqAt.ReadsAll.length _ _ _ r
  cases ds with
  | nil => simpa using q
  | cons d ds =>
    simp only [List.length_cons, Array.length_toList] at q
    simp only [List.isEmpty_cons]
    cases e : us.isEmpty with
    | false => rfl
    | true =>
      have : us.size = 0 := by simpa using e
      omega
section
open PySem.SeqAt
variable {A : Around} {s : Shared}
theorem eqAt_nilL {v : Value} {d : PyData} {as : List Addr} {b : Addr} (rd : Reads s.heap v d as) (hn : d.hasDict = true → sysModules ∉ as) (hb : s.heap.IsList b #[]) (hu : A.units < cLine) : EqAt A s (.ref b) v (emptyL d) := by
  cases rd with
  | none => exact EqAt.list_none hb hu
  | bool b => exact EqAt.list_bool _ hb hu
  | int i t => exact EqAt.list_int _ _ hb hu
  | str x t => exact EqAt.list_str _ _ hb hu
  | list h1 h2 h3 h4 =>
    have q := nil_lists ⟨_, h1, h2, _, h3⟩ hb hu
    rw [isEmpty_reads h4] at q
    exact q
  | tuple h1 h2 h3 h4 => exact EqAt.list_tuple hb ⟨_, h1, h2, _, h3⟩ hu
  | dict h1 h2 h3 h4 h5 =>
    refine list_dict hb h1 h2 h3 (beq_eq_false_iff_ne.mpr fun e => ?_) hu
    exact hn (by simp only [PyData.hasDict]) (by rw [e]; simp)
theorem eqAt_nilT {v : Value} {d : PyData} {as : List Addr} {b : Addr} (rd : Reads s.heap v d as) (hn : d.hasDict = true → sysModules ∉ as) (hb : s.heap.IsTuple b #[]) (hu : A.units < cLine) : EqAt A s (.ref b) v (emptyT d) := by
  cases rd with
  | none => exact EqAt.tuple_none hb hu
  | bool b => exact EqAt.tuple_bool _ hb hu
  | int i t => exact EqAt.tuple_int _ _ hb hu
  | str x t => exact EqAt.tuple_str _ _ hb hu
  | tuple h1 h2 h3 h4 =>
    have q := nil_tuples ⟨_, h1, h2, _, h3⟩ hb hu
    rw [isEmpty_reads h4] at q
    exact q
  | list h1 h2 h3 h4 => exact EqAt.tuple_list hb ⟨_, h1, h2, _, h3⟩ hu
  | dict h1 h2 h3 h4 h5 =>
    refine tuple_dict hb h1 h2 h3 (beq_eq_false_iff_ne.mpr fun e => ?_) hu
    exact hn (by simp only [PyData.hasDict]) (by rw [e]; simp)
end
/-- x not in [[], ()] -/
def rNotInE : R2 := fun x y H Q => ∃ d b p q, y = .ref b ∧ H b = some (.lst [.ref p, .ref q]) ∧ H p = some (.lst []) ∧ H q = some (.tup []) ∧ DD H x d ∧ Q (.bl (!(emptyL d || emptyT d))) H
theorem op_notInE (hu : X.A.units + 1 < cLine) (hn : NoSys X) : OpR X (compareOp .NotIn) rNotInE := by
  intro pins s σ H x y v u Q I rx ry h
  obtain ⟨d, b, p, q, rfl, hb, hp, hq, hd, k⟩ := h
  cases ry
  obtain ⟨as, rd, nb⟩ := DD.reads I d x v hd rx
  obtain ⟨o, ho⟩ := hn
  have hs : d.hasDict = true → sysModules ∉ as := fun _ hm => nb _ hm (I.bs _ _ (I.ok.mod.kin _ _ ho)).2
  obtain ⟨its, r, pl, _⟩ := I.list (SqL.of hb)
  obtain ⟨i1, r1, p1, _⟩ := I.list (SqL.of hp)
  obtain ⟨i2, r2, p2, _⟩ := I.tuple (SqT.of hq)
  cases vals_nil r1; cases vals_nil r2
  cases r with
  | cons e1 r =>
    cases r with
    | cons e2 r =>
      cases r
      cases e1; cases e2
      have npq : p ≠ q := ne_of hp hq (fun z => nomatch z)
      refine SeqAt.notIn_listAt (fun y => if y = .ref p then emptyL d else emptyT d) pl.isList (fun y hy => ?_) ⟨.bl _, H, I, rfl, ?_⟩
      · have hy' : y = .ref p ∨ y = .ref q := by simpa using hy
        rcases hy' with rfl | rfl
        · rw [if_pos rfl]
          exact eqAt_nilL rd hs p1.isList (by show X.A.units + 1 < cLine; exact hu)
        · rw [if_neg (fun z => npq (by injection z with z; exact z.symm))]
          exact eqAt_nilT rd hs p2 (by show X.A.units + 1 < cLine; exact hu)
      · have e : (#[Value.ref p, Value.ref q].any fun y => if y = .ref p then emptyL d else emptyT d) = (emptyL d || emptyT d) := by
          rw [← Array.any_toList]
          show ((if Value.ref p = Value.ref p then emptyL d else emptyT d) || ((if Value.ref q = Value.ref p then emptyL d else emptyT d) || false)) = _
          rw [if_pos rfl, if_neg (fun z => npq (by injection z with z; exact z.symm)), Bool.or_false]
        have e' : ([Value.ref p, Value.ref q].toArray.any fun y => if y = .ref p then emptyL d else emptyT d) = (emptyL d || emptyT d) := e
        rw [e']
        exact k
end
end MC

set_option Elab.async false
set_option linter.all false
set_option maxRecDepth 100000
set_option maxHeartbeats 4000000
namespace MC
open PySem PySem.Spec L2
open PyProof.Rows hiding St

/-! ### what is a list or a tuple, walked -/
def SqX (H : Hp) (a : Addr) (xs : List V) : Prop := H a = some (.lst xs) ∨ H a = some (.tup xs)
theorem SqX.mono {H H' : Hp} {a : Addr} {xs : List V} (e : Same H H') (h : SqX H a xs) : SqX H' a xs := h.imp (e _ _) (e _ _)
theorem SqX.inj {H : Hp} {a : Addr} {xs ys : List V} (h : SqX H a xs) (k : SqX H a ys) : xs = ys := by
  rcases h with h | h <;> rcases k with k | k <;> rw [h] at k <;> cases k <;> rfl
def iSeq (K : PySem.W.Frag) (tl : TE) : TI := fun σ H R => tl σ H fun x H1 => ∃ a, x = .ref a ∧ (((∃ xs, H1 a = some (.lst xs)) ∧ R (Itl K a) H1) ∨ ((∃ xs, H1 a = some (.tup xs)) ∧ R (Itt K a) H1))
theorem pi_seq {X : Cx} {tg l : Expr} {tl : TE} (hl : PE X l tl) : PI X tg l (iSeq X.K tl) := by
  constructor
  intro pins s σ H R I h
  refine thn (hl.run pins s σ H _ I h) fun v s1 ⟨x, H1, I1, r1, q1⟩ => ?_
  obtain ⟨a, rfl, q⟩ := q1
  cases r1
  have kept : ∀ (o : Obj), L2.Inv X pins σ H1 { s1 with heap := s1.heap.push o } := fun o => I1.kept (t' := s1.toks) fun b u e => Heap.get?_push_of_some _ e
  have fp : ∀ b ∈ [s1.heap.objs.size], FpOk X pins H1 b := fun b hb => by
    rw [List.mem_singleton.mp hb]
    exact I1.fpOk (Nat.le_refl _) (I1.hok.fresh (Nat.le_refl _))
  rcases q with ⟨⟨xs, hq⟩, q⟩ | ⟨⟨xs, hq⟩, q⟩
  · obtain ⟨its, rv, p, hz⟩ := I1.list (SqL.of hq)
    exact wpAny_pyIter_list p.isList ⟨_, _, _, _, H1, rfl, kept _, turn_list a _, ⟨_, Heap.get?_push_size _ rfl, rfl, rfl⟩, fp, q⟩
  · obtain ⟨its, rv, p, hz⟩ := I1.tuple (SqT.of hq)
    exact wpAny_pyIter_tuple (show s1.heap.IsTuple a its.toArray from p) ⟨_, _, _, _, H1, rfl, kept _, turn_tuple a _, ⟨_, Heap.get?_push_size _ rfl, rfl, rfl⟩, fp, q⟩
/-- the reading of a for over it -/
theorem for_seq {K : PySem.W.Frag} {a : Addr} {xs : List V} {g : TG} {tb : TS} {D : Ends} {σ : St} {H : Hp} (h : SqX H a xs) (Pv : Nat → St → Hp → Prop) (h0 : Pv 0 σ H) (hl : ∀ i σ' H', i ≤ xs.length → Pv i σ' H' → H' a = H a)
    (hs : ∀ i x σ H, xs[i]? = some x → Pv i σ H → g x σ H fun σ2 H2 => tb { D with nx := Pv (i + 1), ct := Pv (i + 1), bk := D.nx } σ2 H2) (hd : ∀ σ H, Pv xs.length σ H → D.nx σ H) :
    ∃ b, V.ref a = .ref b ∧ (((∃ ys, H b = some (.lst ys)) ∧ ∃ W : Nat → Nat → St → Hp → Prop, (∃ m, W 0 m σ H) ∧ ∀ i m σ H, W i m σ H →
        ((Itl K b).stop i H ∧ D.nx σ H) ∨ ((Itl K b).go i H ∧ ∃ N : St → Hp → Prop, (∀ σ' H', N σ' H' → ∃ m', m' < m ∧ W (i + 1) m' σ' H') ∧ ∀ x H', (Itl K b).yld i H x H' → g x σ H' fun σ2 H2 => tb { D with nx := N, ct := N, bk := D.nx } σ2 H2)) ∨
      ((∃ ys, H b = some (.tup ys)) ∧ ∃ W : Nat → Nat → St → Hp → Prop, (∃ m, W 0 m σ H) ∧ ∀ i m σ H, W i m σ H →
        ((Itt K b).stop i H ∧ D.nx σ H) ∨ ((Itt K b).go i H ∧ ∃ N : St → Hp → Prop, (∀ σ' H', N σ' H' → ∃ m', m' < m ∧ W (i + 1) m' σ' H') ∧ ∀ x H', (Itt K b).yld i H x H' → g x σ H' fun σ2 H2 => tb { D with nx := N, ct := N, bk := D.nx } σ2 H2))) := by
  refine ⟨a, rfl, ?_⟩
  rcases h with h | h
  · exact .inl ⟨⟨xs, h⟩, for_list (K := K) (a := a) (xs := xs) Pv h0 (fun i σ' H' hi p => SqL.of ((hl i σ' H' hi p).trans h)) hs hd⟩
  · exact .inr ⟨⟨xs, h⟩, for_tup (K := K) (a := a) (xs := xs) Pv h0 (fun i σ' H' hi p => SqT.of ((hl i σ' H' hi p).trans h)) hs hd⟩
/-- the reading of a comprehension over it -/
theorem lc_seq {K : PySem.W.Frag} {a : Addr} {xs : List V} {g : TG} {tt : TT} {te : TE} {vs : List Nat} {σ : St} {H : Hp} {Q : VK} (h : SqX H a xs) (Pv : Addr → Nat → Hp → Prop) (h0 : ∀ D, H D = none → Pv D 0 (upd H D (.lst [])))
    (hl : ∀ D i H', H D = none → i ≤ xs.length → Pv D i H' → H' a = H a)
    (hs : ∀ D i x H', H D = none → xs[i]? = some x → Pv D i H' → g x (wipe σ vs) H' fun σ2 H2 => wipe σ2 vs = wipe σ vs ∧ tt σ2 H2 fun b H3 =>
      if b = true then te σ2 H3 fun y H4 => ∃ acc, H4 D = some (.lst acc) ∧ acc.length < sizeLine ∧ Pv D (i + 1) (upd H4 D (.lst (acc ++ [y]))) else Pv D (i + 1) H3) (hd : ∀ D H', H D = none → Pv D xs.length H' → Q (.ref D) H') :
    ∃ b, V.ref a = .ref b ∧ (((∃ ys, H b = some (.lst ys)) ∧ ∀ D, H D = none → ∃ W : Nat → Nat → Hp → Prop, (∃ m, W 0 m (upd H D (.lst []))) ∧ ∀ i m H, W i m H →
        ((Itl K b).stop i H ∧ Q (.ref D) H) ∨ ((Itl K b).go i H ∧ ∃ Nx : Hp → Prop, (∀ H', Nx H' → ∃ m', m' < m ∧ W (i + 1) m' H') ∧ ∀ x H', (Itl K b).yld i H x H' → g x (wipe σ vs) H' fun σ2 H2 => wipe σ2 vs = wipe σ vs ∧ tt σ2 H2 fun b H3 =>
          if b = true then te σ2 H3 fun y H4 => ∃ acc, H4 D = some (.lst acc) ∧ acc.length < sizeLine ∧ Nx (upd H4 D (.lst (acc ++ [y]))) else Nx H3)) ∨
      ((∃ ys, H b = some (.tup ys)) ∧ ∀ D, H D = none → ∃ W : Nat → Nat → Hp → Prop, (∃ m, W 0 m (upd H D (.lst []))) ∧ ∀ i m H, W i m H →
        ((Itt K b).stop i H ∧ Q (.ref D) H) ∨ ((Itt K b).go i H ∧ ∃ Nx : Hp → Prop, (∀ H', Nx H' → ∃ m', m' < m ∧ W (i + 1) m' H') ∧ ∀ x H', (Itt K b).yld i H x H' → g x (wipe σ vs) H' fun σ2 H2 => wipe σ2 vs = wipe σ vs ∧ tt σ2 H2 fun b H3 =>
          if b = true then te σ2 H3 fun y H4 => ∃ acc, H4 D = some (.lst acc) ∧ acc.length < sizeLine ∧ Nx (upd H4 D (.lst (acc ++ [y]))) else Nx H3))) := by
  refine ⟨a, rfl, ?_⟩
  rcases h with h | h
  · exact .inl ⟨⟨xs, h⟩, fun D hD => lc_list (K := K) (a := a) (xs := xs) (Pv D) (h0 D hD) (fun i H' hi p => SqL.of ((hl D i H' hD hi p).trans h)) (fun i x H' e p => hs D i x H' hD e p) fun H' p => hd D H' hD p⟩
  · exact .inr ⟨⟨xs, h⟩, fun D hD => lc_tup (K := K) (a := a) (xs := xs) (Pv D) (h0 D hD) (fun i H' hi p => SqT.of ((hl D i H' hD hi p).trans h)) (fun i x H' e p => hs D i x H' hD e p) fun H' p => hd D H' hD p⟩
/-- the reading of a comprehension over a text -/
theorem lc_str {z : Str} {g : TG} {tt : TT} {te : TE} {vs : List Nat} {σ : St} {H1 : Hp} {D : Addr} {Qd : Hp → Prop} (Pv : Nat → Hp → Prop) (h0 : Pv 0 (upd H1 D (.lst [])))
    (hs : ∀ i c H, z.cps[i]? = some c → Pv i H → g (.str ⟨#[c]⟩) (wipe σ vs) H fun σ2 H2 => wipe σ2 vs = wipe σ vs ∧ tt σ2 H2 fun b H3 =>
      if b = true then te σ2 H3 fun y H4 => ∃ acc, H4 D = some (.lst acc) ∧ acc.length < sizeLine ∧ Pv (i + 1) (upd H4 D (.lst (acc ++ [y]))) else Pv (i + 1) H3) (hd : ∀ H, Pv z.cps.size H → Qd H) :
    ∃ W : Nat → Nat → Hp → Prop, (∃ m, W 0 m (upd H1 D (.lst []))) ∧ ∀ i m H, W i m H →
      ((Its z).stop i H ∧ Qd H) ∨ ((Its z).go i H ∧ ∃ Nx : Hp → Prop, (∀ H', Nx H' → ∃ m', m' < m ∧ W (i + 1) m' H') ∧ ∀ x H', (Its z).yld i H x H' → g x (wipe σ vs) H' fun σ2 H2 => wipe σ2 vs = wipe σ vs ∧ tt σ2 H2 fun b H3 =>
        if b = true then te σ2 H3 fun y H4 => ∃ acc, H4 D = some (.lst acc) ∧ acc.length < sizeLine ∧ Nx (upd H4 D (.lst (acc ++ [y]))) else Nx H3) := by
  refine ⟨fun i m H => m = z.cps.size - i ∧ i ≤ z.cps.size ∧ Pv i H, ⟨_, rfl, Nat.zero_le _, h0⟩, ?_⟩
  rintro i m H ⟨rfl, hi, p⟩
  by_cases lt : i < z.cps.size
  · refine .inr ⟨lt, Pv (i + 1), fun H' p' => ⟨z.cps.size - (i + 1), by omega, rfl, lt, p'⟩, ?_⟩
    rintro x H' ⟨rfl, c, e, rfl⟩
    exact hs i c _ e p
  · have e : i = z.cps.size := by omega
    subst e
    exact .inl ⟨Nat.le_refl _, hd H p⟩
end MC

set_option Elab.async false
set_option linter.all false
set_option maxRecDepth 100000
set_option maxHeartbeats 4000000
namespace MC
open PySem PySem.Spec L2
open PyProof.Rows hiding St

/-! ### isinstance of data -/
def tyD : PyData → String
  | .none => "NoneType"
  | .bool _ => "bool"
  | .int _ => "int"
  | .str _ => "str"
  | .list _ => "list"
  | .tuple _ => "tuple"
  | .dict _ => "dict"
theorem ty_of {K : PySem.W.Frag} {H : Hp} {x : V} {d : PyData} (h : DD H x d) : TyX K H x (.type (tyD d)) := by
  cases h with
  | non => exact .base .non
  | bl b => exact .base (.bl b)
  | int i => exact .base (.int i)
  | str z => exact .base (.str z)
  | lst h _ => exact .base (.lst h)
  | tup h _ => exact .base (.tup h)
  | dct0 h => exact .base (.dK h)
def dStr : PyData → Bool | .str _ => true | _ => false
def dInt : PyData → Bool | .int _ => true | .bool _ => true | _ => false
def dBool : PyData → Bool | .bool _ => true | _ => false
def dLst : PyData → Bool | .list _ => true | _ => false
def dTup : PyData → Bool | .tuple _ => true | _ => false
def dSeq : PyData → Bool | .list _ => true | .tuple _ => true | _ => false
def dDct : PyData → Bool | .dict _ => true | _ => false
def isT (b a : String) : Bool := (a == b) || (b == "int" && a == "bool")
theorem kb : ∀ a ∈ ["NoneType", "bool", "int", "str", "list", "tuple", "dict"], ∀ b ∈ ["str", "int", "bool", "list", "tuple", "dict"], kitB a b = some (isT b a) := by decide +kernel
theorem tyD_mem (d : PyData) : tyD d ∈ ["NoneType", "bool", "int", "str", "list", "tuple", "dict"] := by cases d <;> simp [tyD]
section
variable {K : PySem.W.Frag} {H : Hp} {x : V} {d : PyData} {Q : VK}
theorem kb_at (b : String) (hb : b ∈ ["str", "int", "bool", "list", "tuple", "dict"]) : PySem.W.kitOne K (.type (tyD d)) (.type b) = some (isT b (tyD d)) := kit_ty (kb _ (tyD_mem d) b hb)
theorem kI_str : PySem.W.kitOne K (.type (tyD d)) (.type "str") = some (dStr d) := (kb_at _ (by simp)).trans (by cases d <;> simp [isT, tyD, dStr])
theorem kI_int : PySem.W.kitOne K (.type (tyD d)) (.type "int") = some (dInt d) := (kb_at _ (by simp)).trans (by cases d <;> simp [isT, tyD, dInt])
theorem kI_bool : PySem.W.kitOne K (.type (tyD d)) (.type "bool") = some (dBool d) := (kb_at _ (by simp)).trans (by cases d <;> simp [isT, tyD, dBool])
theorem kI_list : PySem.W.kitOne K (.type (tyD d)) (.type "list") = some (dLst d) := (kb_at _ (by simp)).trans (by cases d <;> simp [isT, tyD, dLst])
theorem kI_tuple : PySem.W.kitOne K (.type (tyD d)) (.type "tuple") = some (dTup d) := (kb_at _ (by simp)).trans (by cases d <;> simp [isT, tyD, dTup])
theorem kI_dict : PySem.W.kitOne K (.type (tyD d)) (.type "dict") = some (dDct d) := (kb_at _ (by simp)).trans (by cases d <;> simp [isT, tyD, dDct])
theorem kit_seq : PySem.W.kitAny K (.type (tyD d)) [.type "list", .type "tuple"] = some (dSeq d) := by
  have h1 := kb_at (K := K) (d := d) "list" (by simp)
  have h2 := kb_at (K := K) (d := d) "tuple" (by simp)
  refine kitAny_cons h1 (fun e => kitAny_cons h2 (fun e2 => ?_) fun e2 => ?_) fun e => ?_
  · rw [show dSeq d = false from by cases d <;> simp [isT, tyD, dSeq] at e e2 ⊢]
    rfl
  · cases d <;> simp [isT, tyD, dSeq] at e e2 ⊢
  · cases d <;> simp [isT, tyD, dSeq] at e ⊢
theorem cl_seq : Paired ClsV [.ty "list", .ty "tuple"] [.type "list", .type "tuple"] := .cons (.ty _) (.cons (.ty _) .nil)
end

/-! ### list(text) -/
def signV (z : Str) : List V := z.cps.toList.map fun c => .str ⟨#[c]⟩
def rListText : List V → Hp → VK → Prop := fun xs H Q => ∃ z, xs = [.str z] ∧ z.length ≤ sizeLine ∧ ∀ p, H p = none → Q (.ref p) (upd H p (.lst (signV z)))
theorem call_list_text {X : Cx} (hc : X.calm = true) : CallR X (.type "list") rListText := by
  intro pins s σ H xs us Q I r h
  obtain ⟨z, rfl, hz, q⟩ := h
  obtain ⟨u, rfl, t, rfl⟩ := vals1 r
  refine call_list_str (I.ok.hd hc) z t (hn := hz) fun h' tk acc c' hk hS hacc => ?_
  have sz : acc.toList.length = z.cps.size := by rw [Array.length_toList]; exact hacc.1
  refine ⟨.ref s.heap.objs.size, _, I.laid (a := s.heap.objs.size) (o := .lst (signV z)) (h' := h') (t' := tk) hk (Nat.le_refl _) ⟨?_, acc.toList, c', ?_, by simpa using hS⟩, rfl, q _ (I.hok.fresh (Nat.le_refl _))⟩
  · show (z.cps.toList.map _).length ≤ sizeLine
    rw [List.length_map, Array.length_toList]
    exact hz
  · have main : ∀ (cs : List Nat) (vs : List Value), vs.length = cs.length → (∀ (j : Nat) v, vs[j]? = some v → ∃ c u, cs[j]? = some c ∧ v = Value.str ⟨#[c]⟩ u) → Vals (cs.map fun c => V.str ⟨#[c]⟩) vs := by
      intro cs
      induction cs with
      | nil => intro vs hl _; cases vs with
        | nil => exact .nil
        | cons _ _ => simp at hl
      | cons c cs ih => intro vs hl hv; cases vs with
        | nil => simp at hl
        | cons v vs =>
          obtain ⟨c', u, e1, e2⟩ := hv 0 v rfl
          simp at e1; subst e1; subst e2
          exact .cons ⟨u, rfl⟩ (ih vs (by simpa using hl) fun j w e => hv (j + 1) w (by simpa using e))
    refine main z.cps.toList acc.toList (by rw [sz]; simp) fun j v e => ?_
    obtain ⟨c, u, hc, rfl⟩ := hacc.2 j v (by simpa using e)
    exact ⟨c, u, by simpa using hc, rfl⟩

/-! ### the rules with the written part told (within a comprehension's block, too) -/
section
variable {X : Cx} {K : PySem.W.Frag} (hK : X.K = K)
include hK
theorem k_ix_list : IxR X (rIxL K) := by subst hK; exact ix_list
theorem k_ix_tup : IxR X (rIxT K) := by subst hK; exact ix_tup
theorem k_ix_seq : IxR X (rIx K) := by subst hK; exact ix_seq
theorem k_sl_list : SlR X (rSlL K) := by subst hK; exact sl_list
def rLenQ (K : PySem.W.Frag) : List V → Hp → VK → Prop := fun xs H Q => ∃ p ys, xs = [.ref p] ∧ (SqL K H p ys ∨ SqT K H p ys) ∧ Q (.int ys.length) H
omit hK in
def rLenZ : List V → Hp → VK → Prop := fun xs H Q => ∃ z, xs = [.str z] ∧ z.length ≤ sizeLine ∧ Q (.int z.length) H
theorem k_len_seq : CallR X (.builtin "len") (rLenQ K) := by subst hK; exact call_len_seq
theorem k_len_str : CallR X (.builtin "len") rLenZ := call_len_str
def rListOf (K : PySem.W.Frag) : List V → Hp → VK → Prop := fun xs H Q => ∃ p ys, xs = [.ref p] ∧ (SqL K H p ys ∨ SqT K H p ys) ∧ ∀ l, H l = none → Q (.ref l) (upd H l (.lst ys))
theorem k_list_of : CallR X (.type "list") (rListOf K) := by subst hK; exact call_list_of
def rTupleOf (K : PySem.W.Frag) : List V → Hp → VK → Prop := fun xs H Q => ∃ p ys, xs = [.ref p] ∧ ((SqL K H p ys ∧ ∀ l, H l = none → Q (.ref l) (upd H l (.tup ys))) ∨ (SqT K H p ys ∧ Q (.ref p) H))
theorem k_tuple_of : CallR X (.type "tuple") (rTupleOf K) := by subst hK; exact call_tuple_of
theorem k_isi : CallR X (.builtin "isinstance") (rIsi K) := by subst hK; exact call_isi
theorem k_isiT : CallR X (.builtin "isinstance") (rIsiT K) := by subst hK; exact call_isiT
theorem k_all (hc : X.calm = true) : CallR X (.builtin "all") (rAll K) := by subst hK; exact cr_all hc
theorem k_any (hc : X.calm = true) : CallR X (.builtin "any") (rAny K) := by subst hK; exact cr_any hc
theorem k_sum (hc : X.calm = true) : CallR X (.builtin "sum") (rSum K) := by subst hK; exact cr_sum hc
theorem k_max (hc : X.calm = true) : CallR X (.builtin "max") (rMax K) := by subst hK; exact cr_max hc
theorem k_min (hc : X.calm = true) : CallR X (.builtin "min") (rMin K) := by subst hK; exact cr_min hc
theorem k_eqNil (hu : X.A.units < cLine) : OpR X (compareOp .Eq) (rEqNil K) := by subst hK; exact op_eqNil hu
theorem k_neNil (hu : X.A.units < cLine) : OpR X (compareOp .NotEq) (rNeNil K) := by subst hK; exact op_neNil hu
theorem k_in_seq : OpR X (compareOp .In) (rIn K false) := by subst hK; exact op_in_seq
theorem k_notIn_seq : OpR X (compareOp .NotIn) (rIn K true) := by subst hK; exact op_notIn_seq
theorem k_list {tg l : Expr} {tl : TE} (hl : PE X l tl) : PI X tg l (iList K tl) := by subst hK; exact pi_list hl
theorem k_seq {tg l : Expr} {tl : TE} (hl : PE X l tl) : PI X tg l (iSeq K tl) := by subst hK; exact pi_seq hl
theorem k_bm {T : String} {r : V → List V → Hp → VK → Prop} {e : Expr} {to : TE} {t : TA} (h : PE X e (tBM X.K T r to t)) : PE X e (tBM K T r to t) := by subst hK; exact h
theorem k_bm0 {T : String} {r : V → List V → Hp → VK → Prop} {e : Expr} {to : TE} (h : PE X e (tBM0 X.K T r to)) : PE X e (tBM0 K T r to) := by subst hK; exact h
end
end MC

set_option Elab.async false
set_option linter.all false
set_option maxRecDepth 100000
set_option maxHeartbeats 4000000
/-! MD: rows as data: what a thing is, what a row is, sizes. -/
namespace MC
open PySem PySem.Spec L2
open PyProof.Rows hiding St

def isSign (c : Nat) : Bool := decide (97 ≤ c) && decide (c ≤ 122)
def isThingS (z : Str) : Bool := decide (1 ≤ z.length) && decide (z.length ≤ 8) && z.cps.toList.all isSign
def thingD : PyData → Bool
  | .str z => isThingS z
  | _ => false
def wholeD : PyData → Bool
  | .int _ => true
  | _ => false
def timesOk (t : Int) : Bool := decide (1 ≤ t) && decide (t ≤ 1000000000000000000000000000000)
def dNil : PyData → Bool
  | .list [] => true
  | .tuple [] => true
  | _ => false
mutual
def rowD : PyData → Bool
  | .list xs => partsD xs
  | .tuple xs => partsD xs
  | _ => false
def partD : PyData → Bool
  | .str z => isThingS z
  | .tuple [r, .int t] => timesOk t && !dNil r && rowD r
  | _ => false
def partsD : List PyData → Bool
  | [] => true
  | x :: xs => partD x && partsD xs
end
/-- looks like an again, but for what its row is made of -/
def againD : PyData → Bool
  | .tuple [r, .int t] => dSeq r && !dNil r && timesOk t
  | _ => false
def innerD : PyData → PyData
  | .tuple [r, _] => r
  | d => d
theorem rowD_seq {d : PyData} (h : dSeq d = false) : rowD d = false := by
  cases d <;> first | rfl | cases h
theorem partD_eq (d : PyData) : partD d = (if againD d then rowD (innerD d) else thingD d) := by
  unfold partD
  split
  · rename_i z
    rfl
  · rename_i r t
    have e : againD (.tuple [r, .int t]) = (dSeq r && !dNil r && timesOk t) := rfl
    rw [e]
    show (timesOk t && !dNil r && rowD r) = if (dSeq r && !dNil r && timesOk t) = true then rowD r else false
    by_cases h : dSeq r = true
    · rw [h]; cases timesOk t <;> cases dNil r <;> simp
    · have h : dSeq r = false := by simpa using h
      rw [rowD_seq h, h]; simp
  · rename_i h1 h2
    have : againD d = false := by
      unfold againD
      split
      · exact absurd rfl (h2 _ _)
      · rfl
    rw [this]
    cases d <;> first | rfl | exact absurd rfl (h1 _)
theorem partsD_eq (xs : List PyData) : partsD xs = xs.all partD := by
  induction xs with
  | nil => rfl
  | cons x xs ih => simp only [partsD, List.all_cons, ih]

def elemsD : PyData → List PyData
  | .list xs => xs
  | .tuple xs => xs
  | _ => []
theorem DD.seq {H : Hp} {x : V} {d : PyData} (h : DD H x d) (k : dSeq d = true) : ∃ a xs, x = .ref a ∧ SqX H a xs ∧ DDs H xs (elemsD d) := by
  cases h with
  | lst ha hs => exact ⟨_, _, rfl, .inl ha, hs⟩
  | tup ha hs => exact ⟨_, _, rfl, .inr ha, hs⟩
  | _ => cases k
theorem rowD_elems {d : PyData} (k : dSeq d = true) : rowD d = partsD (elemsD d) := by
  cases d <;> first | rfl | cases k
theorem dNil_elems {d : PyData} (k : dSeq d = true) : dNil d = (elemsD d).isEmpty := by
  cases d with
  | list xs => cases xs <;> rfl
  | tuple xs => cases xs <;> rfl
  | _ => cases k
theorem SqX.lt {K : PySem.W.Frag} {H : Hp} {a : Addr} {xs : List V} (h : SqX H a xs) : SqL K H a xs ∨ SqT K H a xs := h.imp SqL.of SqT.of

/-! ### sizes -/
mutual
/-- how many nodes -/
def wD : PyData → Nat
  | .list xs => 1 + wDs xs
  | .tuple xs => 1 + wDs xs
  | _ => 1
def wDs : List PyData → Nat
  | [] => 0
  | x :: xs => wD x + wDs xs
end
mutual
/-- its leaves are small, its dicts empty -/
def okD : PyData → Bool
  | .none => true
  | .bool _ => true
  | .int i => decide (i.natAbs < 10 ^ 40)
  | .str z => decide (z.length ≤ 9) && z.cps.toList.all fun c => decide (c < 16 ^ 8)
  | .list xs => oksD xs
  | .tuple xs => oksD xs
  | .dict kvs => kvs.isEmpty
def oksD : List PyData → Bool
  | [] => true
  | x :: xs => okD x && oksD xs
end
theorem wD_pos (d : PyData) : 1 ≤ wD d := by cases d <;> simp only [wD] <;> omega
theorem wDs_append (xs ys : List PyData) : wDs (xs ++ ys) = wDs xs + wDs ys := by
  induction xs with
  | nil => simp [wDs]
  | cons x xs ih => simp only [List.cons_append, wDs, ih]; omega
theorem oksD_append (xs ys : List PyData) : oksD (xs ++ ys) = (oksD xs && oksD ys) := by
  induction xs with
  | nil => simp [oksD]
  | cons x xs ih => simp only [List.cons_append, oksD, ih, Bool.and_assoc]
theorem oksD_all (xs : List PyData) : oksD xs = xs.all okD := by
  induction xs with
  | nil => rfl
  | cons x xs ih => simp only [oksD, List.all_cons, ih]
theorem oksD_get {xs : List PyData} (h : oksD xs = true) {i : Nat} {d : PyData} (e : xs[i]? = some d) : okD d = true := by
  rw [oksD_all, List.all_eq_true] at h
  exact h d (List.mem_of_getElem? e)
theorem wD_le {xs : List PyData} {i : Nat} {d : PyData} (e : xs[i]? = some d) : wD d ≤ wDs xs := by
  induction xs generalizing i with
  | nil => simp at e
  | cons x xs ih =>
    simp only [wDs]
    cases i with
    | zero => simp at e; subst e; omega
    | succ i => have := ih (i := i) (by simpa using e); omega
theorem len_wDs (xs : List PyData) : xs.length ≤ wDs xs := by
  induction xs with
  | nil => simp [wDs]
  | cons x xs ih => simp only [List.length_cons, wDs]; have := wD_pos x; omega
theorem depthAll_append (xs ys : List PyData) : PyData.depthAll (xs ++ ys) = max (PyData.depthAll xs) (PyData.depthAll ys) := by
  induction xs with
  | nil => simp [PyData.depthAll]
  | cons x xs ih => simp only [List.cons_append, PyData.depthAll, ih]; omega
theorem depth_le {xs : List PyData} {i : Nat} {d : PyData} (e : xs[i]? = some d) : d.depth ≤ PyData.depthAll xs := by
  induction xs generalizing i with
  | nil => simp at e
  | cons x xs ih =>
    simp only [PyData.depthAll]
    cases i with
    | zero => simp at e; subst e; omega
    | succ i => have := ih (i := i) (by simpa using e); omega
mutual
theorem okD_showable : ∀ d : PyData, okD d = true → d.showable = true
  | .none, _ => by simp only [PyData.showable]
  | .bool _, _ => by simp only [PyData.showable]
  | .str _, _ => by simp only [PyData.showable]
  | .int i, h => by
    simp only [okD, decide_eq_true_eq] at h
    simp only [PyData.showable, decide_eq_true_eq]
    exact PySem.Spec.log2_small (Nat.lt_of_lt_of_le h (by decide))
  | .list xs, h => by
    simp only [okD] at h
    simp only [PyData.showable]
    exact oksD_showable xs h
  | .tuple xs, h => by
    simp only [okD] at h
    simp only [PyData.showable]
    exact oksD_showable xs h
  | .dict kvs, h => by
    simp only [okD, List.isEmpty_iff] at h
    subst h
    simp only [PyData.showable, PyData.showableKv]
theorem oksD_showable : ∀ xs : List PyData, oksD xs = true → PyData.showableAll xs = true
  | [], _ => by simp only [PyData.showableAll]
  | x :: xs, h => by
    simp only [oksD, Bool.and_eq_true] at h
    simp only [PyData.showableAll, Bool.and_eq_true]
    exact ⟨okD_showable x h.1, oksD_showable xs h.2⟩
end
theorem int_shown_le {i : Int} (h : i.natAbs < 10 ^ 40) : (PyData.shown (.int i)).length ≤ 50 := by
  have e := int_text_length_le10 (k := 40) (by decide) h
  show (Str.ofString (toString i)).length ≤ 50
  rw [PySem.ofString_length]
  exact Nat.le_trans e (by decide)
mutual
theorem okD_short : ∀ d : PyData, okD d = true → d.leavesShort 50 = true
  | .none, _ => by simp only [PyData.leavesShort]
  | .bool _, _ => by simp only [PyData.leavesShort]
  | .str z, h => by
    simp only [okD, Bool.and_eq_true] at h
    simp only [PyData.leavesShort]
    exact h.2
  | .int i, h => by
    simp only [okD, decide_eq_true_eq] at h
    simp only [PyData.leavesShort, decide_eq_true_eq]
    exact int_shown_le h
  | .list xs, h => by
    simp only [okD] at h
    simp only [PyData.leavesShort]
    exact oksD_short xs h
  | .tuple xs, h => by
    simp only [okD] at h
    simp only [PyData.leavesShort]
    exact oksD_short xs h
  | .dict kvs, h => by
    simp only [okD, List.isEmpty_iff] at h
    subst h
    simp only [PyData.leavesShort, PyData.leavesShortKv]
theorem oksD_short : ∀ xs : List PyData, oksD xs = true → PyData.leavesShortAll 50 xs = true
  | [], _ => by simp only [PyData.leavesShortAll]
  | x :: xs, h => by
    simp only [oksD, Bool.and_eq_true] at h
    simp only [PyData.leavesShortAll, Bool.and_eq_true]
    exact ⟨okD_short x h.1, oksD_short xs h.2⟩
end
mutual
theorem weight_le : ∀ d : PyData, okD d = true → d.weight + 1 ≤ 140 * wD d
  | .none, _ => by simp only [PyData.weight, wD]; omega
  | .bool _, _ => by simp only [PyData.weight, wD]; omega
  | .str z, h => by
    simp only [okD, Bool.and_eq_true, decide_eq_true_eq] at h
    have h1 : z.cps.size ≤ 9 := h.1
    simp only [PyData.weight, wD]; omega
  | .int i, h => by
    simp only [okD, decide_eq_true_eq] at h
    simp only [PyData.weight, wD]
    split
    · omega
    · rename_i h0
      have h1 : i.natAbs ≠ 0 := by
        intro z
        apply h0
        simpa using z
      have h2 : i.natAbs.log2 < 133 := (Nat.log2_lt h1).mpr (Nat.lt_of_lt_of_le h (by decide))
      omega
  | .list xs, h => by
    simp only [okD] at h
    have := weights_le xs h
    simp only [PyData.weight, wD]; omega
  | .tuple xs, h => by
    simp only [okD] at h
    have := weights_le xs h
    simp only [PyData.weight, wD]; omega
  | .dict kvs, h => by
    simp only [okD, List.isEmpty_iff] at h
    subst h
    simp only [PyData.weight, PyData.weightKv, wD]; omega
theorem weights_le : ∀ xs : List PyData, oksD xs = true → PyData.weightAll xs ≤ 140 * wDs xs
  | [], _ => by simp only [PyData.weightAll]; omega
  | x :: xs, h => by
    simp only [oksD, Bool.and_eq_true] at h
    have h1 := weight_le x h.1
    have h2 := weights_le xs h.2
    simp only [PyData.weightAll, wDs]; omega
end
theorem shown_fits {d : PyData} (h : okD d = true) (hw : wD d ≤ 2000) : d.shown.length ≤ sizeLine := by
  have h1 := PyData.shown_le 50 (by decide) d (okD_short d h)
  have h2 := weight_le d h
  have h3 : d.weight ≤ 140 * 2000 := by omega
  exact Nat.le_trans h1 (Nat.le_trans (Nat.add_le_add_right (Nat.mul_le_mul_left _ h3) _) (by decide))
theorem okD_elems {d : PyData} (h : okD d = true) : oksD (elemsD d) = true := by
  cases d <;> first | rfl | (simp only [okD] at h; exact h)
theorem wD_elems (d : PyData) : wDs (elemsD d) ≤ wD d := by
  cases d <;> simp only [elemsD, wD, wDs] <;> omega
theorem depth_elems {d : PyData} (k : dSeq d = true) : d.depth = PyData.depthAll (elemsD d) + 1 := by
  cases d <;> first | (simp only [PyData.depth, elemsD]; done) | cases k
end MC

set_option Elab.async false
set_option linter.all false
set_option maxRecDepth 100000
set_option maxHeartbeats 4000000
namespace MC
open PySem PySem.Spec L2
open PyProof.Rows hiding St
theorem low_tab : ∀ c < 128, (Unicode.isAlpha c && (Unicode.lowerOf c == [c])) = isSign c := by decide +kernel
theorem low_one : ∀ c < 128, (Unicode.lowerOf c).length = 1 := by decide +kernel
theorem lowerAt_ascii {s : Array Nat} {i c : Nat} (h : s[i]? = some c) (hc : c < 128) : Unicode.lowerAt s i = Unicode.lowerOf c := by
  unfold Unicode.lowerAt
  rw [h]
  have : (c == 0x3A3) = false := by simp; omega
  simp [this]
theorem lower_list (x : Str) (h : Txt.isascii x = true) : (Txt.lower x).cps.toList = x.cps.toList.flatMap Unicode.lowerOf := by
  have hh : ∀ (i : Nat) (c : Nat), x.cps[i]? = some c → c < 128 := by
    intro i c e
    unfold Txt.isascii at h
    rw [Array.all_eq_true'] at h
    have := h c (Array.mem_of_getElem? e)
    simpa using this
  show (placed x fun i _ => Unicode.lowerAt x.cps i).toList = _
  unfold placed
  rw [Array.toList_flatten, Array.toList_mapIdx, List.flatMap_def]
  congr 1
  apply List.ext_getElem
  · simp
  · intro n h1 h2
    simp at h1 h2 ⊢
    exact lowerAt_ascii (by simp [h1]) (hh n _ (by simp [h1]))
theorem flat_eq (l : List Nat) (h : ∀ c ∈ l, (Unicode.lowerOf c).length = 1) : l.flatMap Unicode.lowerOf = l ↔ ∀ c ∈ l, Unicode.lowerOf c = [c] := by
  induction l with
  | nil => simp
  | cons c l ih =>
    have h1 := h c (by simp)
    obtain ⟨d, hd⟩ := List.length_eq_one_iff.mp h1
    rw [List.flatMap_cons, hd]
    have ih := ih fun c hc => h c (by simp [hc])
    simp [ih, hd]
theorem small_look (x : Str) : (decide (x = Str.empty) || (Txt.isascii x && (Txt.isalpha x && decide (x = Txt.lower x)))) = x.cps.toList.all isSign := by
  have ext : ∀ a b : Str, a.cps.toList = b.cps.toList → a = b := by
    rintro ⟨a⟩ ⟨b⟩ h
    simp only [Str.mk.injEq]
    exact Array.toList_inj.mp h
  by_cases h0 : x = Str.empty
  · subst h0
    simp [Str.empty]
  have hpos : 0 < x.length := by
    rcases Nat.eq_zero_or_pos x.length with h | h
    · refine absurd (ext _ _ ?_) h0
      have : x.cps.size = 0 := h
      simp [Str.empty]
      exact Array.size_eq_zero_iff.mp this
    · exact h
  rw [decide_eq_false h0, Bool.false_or]
  by_cases ha : Txt.isascii x = true
  · have hh : ∀ c ∈ x.cps.toList, c < 128 := by
      intro c hc
      unfold Txt.isascii at ha
      rw [Array.all_eq_true'] at ha
      simpa using ha c (by simpa using hc)
    have hl : decide (x = Txt.lower x) = x.cps.toList.all fun c => Unicode.lowerOf c == [c] := by
      have f := flat_eq x.cps.toList fun c hc => low_one c (hh c hc)
      rw [← lower_list x ha] at f
      rw [Bool.eq_iff_iff, decide_eq_true_eq, List.all_eq_true]
      constructor
      · intro e c hc
        have := f.mp (congrArg (fun z : Str => z.cps.toList) e.symm) c hc
        simpa using this
      · intro e
        exact ext _ _ (f.mpr fun c hc => by simpa using e c hc).symm
    have hal : Txt.isalpha x = x.cps.toList.all Unicode.isAlpha := by
      unfold Txt.isalpha
      rw [decide_eq_true hpos, Bool.true_and, ← Array.all_toList]
    rw [ha, hl, hal, Bool.true_and]
    generalize x.cps.toList = l at hh
    induction l with
    | nil => rfl
    | cons c l ih =>
      have h1 := low_tab c (hh c (by simp))
      have h2 := ih fun c hc => hh c (by simp [hc])
      simp only [List.all_cons, ← h1, ← h2]
      cases Unicode.isAlpha c <;> cases Unicode.lowerOf c == [c] <;> simp
  · have : Txt.isascii x = false := by simpa using ha
    rw [this, Bool.false_and, eq_comm, List.all_eq_false]
    unfold Txt.isascii at this
    rw [← Array.all_toList, List.all_eq_false] at this
    obtain ⟨c, hc, e⟩ := this
    refine ⟨c, hc, ?_⟩
    simp at e
    simp [isSign]; omega

/-- the reading of a dict comprehension over any iterator -/
theorem dc_it {J : It} {n : Nat} {G : Hp → Prop} {Y : Nat → Hp → V → Hp → Prop} (w : Walk J n G Y) {g : TG} {tt : TT} {tk tv : TE} {vs : List Nat} {σ : St} {H1 : Hp} {D : Addr} {Qd : Hp → Prop} (Pv : Nat → Hp → Prop) (h0 : Pv 0 (upd H1 D (.dK []))) (hG : ∀ i H, i ≤ n → Pv i H → G H)
    (hs : ∀ i x H H', i < n → Pv i H → Y i H x H' → g x (wipe σ vs) H' fun σ2 H2 => wipe σ2 vs = wipe σ vs ∧ tt σ2 H2 fun b H3 =>
      if b = true then tk σ2 H3 fun y H4 => tv σ2 H4 fun z H5 => ∃ kvs k, y = kV k ∧ H5 D = some (.dK kvs) ∧ kvs.length < sizeLine ∧ Pv (i + 1) (upd H5 D (.dK (putK kvs k z))) else Pv (i + 1) H3) (hd : ∀ H, Pv n H → Qd H) :
    ∃ W : Nat → Nat → Hp → Prop, (∃ m, W 0 m (upd H1 D (.dK []))) ∧ ∀ i m H, W i m H →
      (J.stop i H ∧ Qd H) ∨ (J.go i H ∧ ∃ Nx : Hp → Prop, (∀ H', Nx H' → ∃ m', m' < m ∧ W (i + 1) m' H') ∧ ∀ x H', J.yld i H x H' → g x (wipe σ vs) H' fun σ2 H2 => wipe σ2 vs = wipe σ vs ∧ tt σ2 H2 fun b H3 =>
        if b = true then tk σ2 H3 fun y H4 => tv σ2 H4 fun z H5 => ∃ kvs k, y = kV k ∧ H5 D = some (.dK kvs) ∧ kvs.length < sizeLine ∧ Nx (upd H5 D (.dK (putK kvs k z))) else Nx H3) := by
  refine ⟨fun i m H => m = n - i ∧ i ≤ n ∧ Pv i H, ⟨n, by simp, Nat.zero_le _, h0⟩, ?_⟩
  rintro i m H ⟨rfl, hi, p⟩
  have q := hG i H hi p
  by_cases hlt : i < n
  · refine .inr ⟨w.goes i H hlt q, Pv (i + 1), fun H' p' => ⟨n - (i + 1), by omega, rfl, hlt, p'⟩, fun x H' y => hs i x H H' hlt p (w.yields i H x H' hlt q y)⟩
  · have e : i = n := by omega
    subst e
    exact .inl ⟨w.stops H q, hd H p⟩
/-- .. over what is a list or a tuple -/
theorem dc_seqD {K : PySem.W.Frag} {a : Addr} {xs : List V} {g : TG} {tt : TT} {tk tv : TE} {vs : List Nat} {σ : St} {H : Hp} {Qd : Addr → Hp → Prop} (h : SqX H a xs) (Pv : Addr → Nat → Hp → Prop) (h0 : ∀ D, H D = none → Pv D 0 (upd H D (.dK [])))
    (hl : ∀ D i H', H D = none → i ≤ xs.length → Pv D i H' → H' a = H a)
    (hs : ∀ D i x H', H D = none → xs[i]? = some x → Pv D i H' → g x (wipe σ vs) H' fun σ2 H2 => wipe σ2 vs = wipe σ vs ∧ tt σ2 H2 fun b H3 =>
      if b = true then tk σ2 H3 fun y H4 => tv σ2 H4 fun z H5 => ∃ kvs k, y = kV k ∧ H5 D = some (.dK kvs) ∧ kvs.length < sizeLine ∧ Pv D (i + 1) (upd H5 D (.dK (putK kvs k z))) else Pv D (i + 1) H3) (hd : ∀ D H', H D = none → Pv D xs.length H' → Qd D H') :
    ∃ b, V.ref a = .ref b ∧ (((∃ ys, H b = some (.lst ys)) ∧ ∀ D, H D = none → ∃ W : Nat → Nat → Hp → Prop, (∃ m, W 0 m (upd H D (.dK []))) ∧ ∀ i m H, W i m H →
        ((Itl K b).stop i H ∧ Qd D H) ∨ ((Itl K b).go i H ∧ ∃ Nx : Hp → Prop, (∀ H', Nx H' → ∃ m', m' < m ∧ W (i + 1) m' H') ∧ ∀ x H', (Itl K b).yld i H x H' → g x (wipe σ vs) H' fun σ2 H2 => wipe σ2 vs = wipe σ vs ∧ tt σ2 H2 fun b H3 =>
          if b = true then tk σ2 H3 fun y H4 => tv σ2 H4 fun z H5 => ∃ kvs k, y = kV k ∧ H5 D = some (.dK kvs) ∧ kvs.length < sizeLine ∧ Nx (upd H5 D (.dK (putK kvs k z))) else Nx H3)) ∨
      ((∃ ys, H b = some (.tup ys)) ∧ ∀ D, H D = none → ∃ W : Nat → Nat → Hp → Prop, (∃ m, W 0 m (upd H D (.dK []))) ∧ ∀ i m H, W i m H →
        ((Itt K b).stop i H ∧ Qd D H) ∨ ((Itt K b).go i H ∧ ∃ Nx : Hp → Prop, (∀ H', Nx H' → ∃ m', m' < m ∧ W (i + 1) m' H') ∧ ∀ x H', (Itt K b).yld i H x H' → g x (wipe σ vs) H' fun σ2 H2 => wipe σ2 vs = wipe σ vs ∧ tt σ2 H2 fun b H3 =>
          if b = true then tk σ2 H3 fun y H4 => tv σ2 H4 fun z H5 => ∃ kvs k, y = kV k ∧ H5 D = some (.dK kvs) ∧ kvs.length < sizeLine ∧ Nx (upd H5 D (.dK (putK kvs k z))) else Nx H3))) := by
  refine ⟨a, rfl, ?_⟩
  rcases h with h | h
  · refine .inl ⟨⟨xs, h⟩, fun D hD => dc_it (walk_list (K := K) (a := a) (xs := xs)) (Pv D) (h0 D hD) (fun i H' hi p => SqL.of ((hl D i H' hD hi p).trans h)) ?_ fun H' p => hd D H' hD p⟩
    rintro i x H' _ _ p ⟨rfl, e⟩
    exact hs D i x _ hD e p
  · refine .inr ⟨⟨xs, h⟩, fun D hD => dc_it (walk_tup (K := K) (a := a) (xs := xs)) (Pv D) (h0 D hD) (fun i H' hi p => SqT.of ((hl D i H' hD hi p).trans h)) ?_ fun H' p => hd D H' hD p⟩
    rintro i x H' _ _ p ⟨rfl, e⟩
    exact hs D i x _ hD e p

/-- the reading of a comprehension over it -/
theorem lc_seqD {K : PySem.W.Frag} {a : Addr} {xs : List V} {g : TG} {tt : TT} {te : TE} {vs : List Nat} {σ : St} {H : Hp} {Qd : Addr → Hp → Prop} (h : SqX H a xs) (Pv : Addr → Nat → Hp → Prop) (h0 : ∀ D, H D = none → Pv D 0 (upd H D (.lst [])))
    (hl : ∀ D i H', H D = none → i ≤ xs.length → Pv D i H' → H' a = H a)
    (hs : ∀ D i x H', H D = none → xs[i]? = some x → Pv D i H' → g x (wipe σ vs) H' fun σ2 H2 => wipe σ2 vs = wipe σ vs ∧ tt σ2 H2 fun b H3 =>
      if b = true then te σ2 H3 fun y H4 => ∃ acc, H4 D = some (.lst acc) ∧ acc.length < sizeLine ∧ Pv D (i + 1) (upd H4 D (.lst (acc ++ [y]))) else Pv D (i + 1) H3) (hd : ∀ D H', H D = none → Pv D xs.length H' → Qd D H') :
    ∃ b, V.ref a = .ref b ∧ (((∃ ys, H b = some (.lst ys)) ∧ ∀ D, H D = none → ∃ W : Nat → Nat → Hp → Prop, (∃ m, W 0 m (upd H D (.lst []))) ∧ ∀ i m H, W i m H →
        ((Itl K b).stop i H ∧ Qd D H) ∨ ((Itl K b).go i H ∧ ∃ Nx : Hp → Prop, (∀ H', Nx H' → ∃ m', m' < m ∧ W (i + 1) m' H') ∧ ∀ x H', (Itl K b).yld i H x H' → g x (wipe σ vs) H' fun σ2 H2 => wipe σ2 vs = wipe σ vs ∧ tt σ2 H2 fun b H3 =>
          if b = true then te σ2 H3 fun y H4 => ∃ acc, H4 D = some (.lst acc) ∧ acc.length < sizeLine ∧ Nx (upd H4 D (.lst (acc ++ [y]))) else Nx H3)) ∨
      ((∃ ys, H b = some (.tup ys)) ∧ ∀ D, H D = none → ∃ W : Nat → Nat → Hp → Prop, (∃ m, W 0 m (upd H D (.lst []))) ∧ ∀ i m H, W i m H →
        ((Itt K b).stop i H ∧ Qd D H) ∨ ((Itt K b).go i H ∧ ∃ Nx : Hp → Prop, (∀ H', Nx H' → ∃ m', m' < m ∧ W (i + 1) m' H') ∧ ∀ x H', (Itt K b).yld i H x H' → g x (wipe σ vs) H' fun σ2 H2 => wipe σ2 vs = wipe σ vs ∧ tt σ2 H2 fun b H3 =>
          if b = true then te σ2 H3 fun y H4 => ∃ acc, H4 D = some (.lst acc) ∧ acc.length < sizeLine ∧ Nx (upd H4 D (.lst (acc ++ [y]))) else Nx H3))) := by
  refine ⟨a, rfl, ?_⟩
  rcases h with h | h
  · exact .inl ⟨⟨xs, h⟩, fun D hD => lc_list (K := K) (a := a) (xs := xs) (Pv D) (h0 D hD) (fun i H' hi p => SqL.of ((hl D i H' hD hi p).trans h)) (fun i x H' e p => hs D i x H' hD e p) fun H' p => hd D H' hD p⟩
  · exact .inr ⟨⟨xs, h⟩, fun D hD => lc_tup (K := K) (a := a) (xs := xs) (Pv D) (h0 D hD) (fun i H' hi p => SqT.of ((hl D i H' hD hi p).trans h)) (fun i x H' e p => hs D i x H' hD e p) fun H' p => hd D H' hD p⟩
/-! ### dicts whose keys are texts, as sets -/
def setK (zs : List Str) : List (Key × V) := zs.map fun z => (Sum.inr z, V.bl true)
theorem setK_put (zs : List Str) (z : Str) : putK (setK zs) (Sum.inr z) (.bl true) = setK (if z ∈ zs then zs else zs ++ [z]) := by
  unfold putK setK
  by_cases h : z ∈ zs
  · have : (List.map (fun z => ((Sum.inr z : Key), V.bl true)) zs).any (fun kv => decide (kv.1 = Sum.inr z)) = true := by
      rw [List.any_eq_true]
      exact ⟨(Sum.inr z, .bl true), by simp [h], by simp⟩
    rw [if_pos this, if_pos h, List.map_map]
    refine List.map_congr_left fun y hy => ?_
    by_cases e : y = z
    · subst e; simp
    · simp
  · have : (List.map (fun z => ((Sum.inr z : Key), V.bl true)) zs).any (fun kv => decide (kv.1 = Sum.inr z)) = false := by
      rw [List.any_eq_false]
      rintro ⟨k, v⟩ hk
      simp only [List.mem_map, Prod.mk.injEq] at hk
      obtain ⟨y, hy, rfl, rfl⟩ := hk
      simp only [decide_eq_true_eq, Sum.inr.injEq]
      rintro rfl
      exact h hy
    rw [if_neg (by simp [this]), if_neg h]
    simp
theorem joined_all (zs : List Str) (p : Nat → Bool) : (Str.join Str.empty zs).cps.toList.all p = zs.all fun z => z.cps.toList.all p := by
  have h := TL.tl_join Str.empty zs
  have e : ∀ l : List (List Nat), (TL.joinL [] l).all p = l.all fun c => c.all p := by
    intro l
    induction l with
    | nil => rfl
    | cons c l ih =>
      cases l with
      | nil => simp [TL.joinL]
      | cons d l => simp only [TL.joinL, List.nil_append, List.all_append, List.all_cons] at ih ⊢; rw [ih]
  have h2 : (Str.join Str.empty zs).cps.toList = TL.joinL [] (zs.map TL.tl) := h
  rw [h2, e, List.all_map]
  rfl
theorem joined_len (zs : List Str) : (Str.join Str.empty zs).length = (zs.map (·.length)).sum := by
  have h := TL.tl_join Str.empty zs
  have e : ∀ l : List (List Nat), (TL.joinL [] l).length = (l.map (·.length)).sum := by
    intro l
    induction l with
    | nil => rfl
    | cons c l ih =>
      cases l with
      | nil => simp [TL.joinL]
      | cons d l => simp only [TL.joinL, List.nil_append, List.length_append, List.map_cons, List.sum_cons] at ih ⊢; rw [ih]
  have h2 : (Str.join Str.empty zs).cps.toList = TL.joinL [] (zs.map TL.tl) := h
  have h3 : (Str.join Str.empty zs).length = (Str.join Str.empty zs).cps.toList.length := by simp [Str.length]
  rw [h3, h2, e, List.map_map]
  congr 1
theorem k_tup {X : Cx} {K : PySem.W.Frag} (hK : X.K = K) {es : List Expr} {k : Nat} {t : TGs} {n : Nat} {pos : Pos} (hc : X.calm = true) (h : PGs X es t)
    (hn : (assignEach es X.env).length = n := by rfl) (hst : (assignEach es X.env).findIdx? (·.1) = none := by rfl) : PG X (.Tuple es k pos) (gTup K n t) := by subst hK; exact pg_tup hc h hn hst
def nStr (d : PyData) : Bool := !dStr d
theorem wDs_filter (p : PyData → Bool) (l : List PyData) : wDs (l.filter p) ≤ wDs l := by
  induction l with
  | nil => exact Nat.le_refl _
  | cons d l ih =>
    rw [List.filter_cons]
    split <;> simp only [wDs] <;> omega
theorem parts_strs {es : List PyData} {zs : List Str} (hm : ∀ z, z ∈ zs ↔ PyData.str z ∈ es) : partsD es = (partsD (es.filter nStr) && zs.all isThingS) := by
  rw [partsD_eq, partsD_eq, Bool.eq_iff_iff, Bool.and_eq_true, List.all_eq_true, List.all_eq_true, List.all_eq_true]
  constructor
  · intro h
    exact ⟨fun d hd => h d (List.mem_filter.mp hd).1, fun z hz => h (.str z) ((hm z).mp hz)⟩
  · rintro ⟨h1, h2⟩ d hd
    by_cases s : dStr d = true
    · cases d with
      | str z => exact h2 z ((hm z).mpr hd)
      | _ => cases s
    · exact h1 d (List.mem_filter.mpr ⟨hd, by simpa [nStr] using s⟩)
theorem part_nstr {d : PyData} (s : dStr d = false) (h : againD d = false) : partD d = false := by
  rw [partD_eq, h]
  cases d <;> first | rfl | cases s
end MC

set_option Elab.async false
set_option linter.all false
set_option maxRecDepth 100000
set_option maxHeartbeats 4000000
/-! MR: enumerate of a tuple, a list by steps. -/
namespace MC
open PySem AutoSeq1
theorem enumT_new (l : Addr) (items : Array Value) (n : Nat) (dc : Option Addr) (ss : Array (Option Value)) : Meets (Builtin.«enumerate.__new__» ⟨[.type "enumerate", .ref l], []⟩) (fun _ R s =>
    s.heap.get? l = some { cls := .type "tuple", dict := dc, data := .seq items n, slots := ss } ∧
    R (.ok (.ret (.ref (s.heap.objs.size + 1)))) { s with heap := (s.heap.push { cls := .type "tuple_iterator", data := .fields #[.ref l, .int 0 0] }).push { cls := .type "enumerate", data := .fields #[.none, .bool false, .ref s.heap.objs.size, rawInt 0, .none, .none] } }) :=
  .of_wp fun prog w A R s h => by
    obtain ⟨hp, g, d, tk, os⟩ := s
    obtain ⟨hl, h⟩ := h
    have sub := sub_enumerate
    have hT : Heap.IsTuple (Shared.heap ⟨hp, g, d, tk, os⟩) l items := ⟨_, hl, rfl, n, rfl⟩
    have sz : (hp.push { cls := .type "tuple_iterator", data := .fields #[.ref l, .int 0 0] }).objs.size = hp.objs.size + 1 := Heap.size_push ..
    have h2 := h
    rw [← sz] at h2
    wp_walk using wpAny_loadPart' hl
    refine wpAny_stack_any fun st => wpAny_pure ?_
    split
    · rename_i c _ _ _ _ _
      cases (c == Value.type "enumerate") <;> (wp_walk using wpAny_loadPart' hl, wpAny_pyIter_tuple hT) <;> exact ⟨_, rfl, h2⟩
    · wp_walk using wpAny_loadPart' hl, wpAny_pyIter_tuple hT
      exact ⟨_, rfl, h2⟩
theorem call_enumT {prog : Program} {w : World} {A : Around} {E : Value → Shared → Prop} {s : Shared} {l : Addr} {items : Array Value} {Q : Value → Shared → Prop} (hL : s.heap.IsTuple l items)
    (h : ∀ h', IsEnum h' (s.heap.objs.size + 1) s.heap.objs.size 0 .none → h'.IsTupleIter s.heap.objs.size l 0 → (∀ b o, s.heap.get? b = some o → h'.get? b = some o) →
      Q (.ref (s.heap.objs.size + 1)) { s with heap := h' }) : wpAny (model prog w) A (call (.type "enumerate") [.ref l]) Q E s := by
  obtain ⟨⟨c, dc, dt, ss⟩, hl, hc, n, hd⟩ := hL
  cases (show c = .type "tuple" from hc)
  cases (show dt = .seq items n from hd)
  refine callType_new F.called_enumerate (by decide) (F.typeCall_enumerate_1 _) (F.newCall_enumerate_1 _) (fun ob => F.args_object_init_2 ob _) F.entry_enumerate_new (enumT_new l items n dc ss) ⟨hl, ?_⟩
  have sz : (s.heap.push { cls := .type "tuple_iterator", data := .fields #[.ref l, .int 0 0] }).objs.size = s.heap.objs.size + 1 := Heap.size_push ..
  have top := Heap.get?_push_size (s.heap.push { cls := .type "tuple_iterator", data := .fields #[.ref l, .int 0 0] })
    (o := { cls := .type "enumerate", data := .fields #[.none, .bool false, .ref s.heap.objs.size, rawInt 0, .none, .none] }) rfl
  rw [sz] at top
  exact ⟨⟨_, top, rfl⟩, h _ top ⟨_, Heap.get?_push_of_some _ (Heap.get?_push_size _ rfl), rfl, rfl⟩ fun b o y => Heap.get?_push_of_some _ (Heap.get?_push_of_some _ y)⟩
end MC
namespace MC
open PySem PySem.Spec L2
open PyProof.Rows hiding St
/-- enumerate of the tuple at a -/
def Iet (K : PySem.W.Frag) (a : Addr) : It :=
  ⟨fun i H => ∃ (ts : List V) (v : V), SqT K H a ts ∧ ts[i]? = some v,
   fun i H u H' => ∃ p v, u = .ref p ∧ H p = none ∧ H' = upd H p (.tup [.int (i : Nat), v]) ∧ ∀ ts, SqT K H a ts → ts[i]? = some v,
   fun i H => ∃ ts : List V, SqT K H a ts ∧ i = ts.length⟩
theorem turn_iet {P : Program} {w : World} {K : PySem.W.Frag} {elts : List Expr} {kk : Nat} {tpos : Pos} {a e it : Addr} (hae : a ≠ it) (hea : e ≠ a) :
    Turn P w K (.Tuple elts kk tpos) (Iet K a) [e, it] e (fun i h => (∃ old, IsEnum h e it ((i : Nat) : Int) old) ∧ h.IsTupleIter it a i ∧ e ≠ it) where
  mem := by simp
  obj := fun i h st b hb => by
    obtain ⟨⟨old, he⟩, ⟨o, ho, hc, hd⟩, _⟩ := st
    simp only [List.mem_cons, List.not_mem_nil, or_false] at hb
    rcases hb with rfl | rfl
    · exact ⟨_, he, fun v q => nomatch q⟩
    · exact ⟨o, ho, fun v q => by rw [hd] at q; cases q⟩
  keep := fun i h h' st k => by
    obtain ⟨⟨old, he⟩, hi, hne⟩ := st
    exact ⟨⟨old, k e (by simp) _ he⟩, hi.at fun o q => k it (by simp) o q, hne⟩
  item := by
    intro X hP hw hK hc i pins s σ H E I hf st hg
    subst hP hw hK
    obtain ⟨⟨old, he⟩, hit, hne⟩ := st
    obtain ⟨ts, v, hq, hv⟩ := hg
    obtain ⟨its, rv, p, hz⟩ := I.tuple hq
    obtain ⟨u, hu, ru⟩ := rv.get hv
    have hel : e < s.heap.objs.size := Heap.lt_size he
    have hil : it < s.heap.objs.size := by obtain ⟨_, q, _⟩ := hit; exact Heap.lt_size q
    have pt : s.heap.IsTuple a its.toArray := p
    refine wpAny_pyNext_enum_itemD (Draws.tuple (A := X.A.in1) (show X.A.in1.handled = none from I.ok.hd hc) it a hae its.toArray) (i := i) he ⟨hit, pt⟩ (by have := (List.getElem?_eq_some_iff.mp hu).1; simpa using this) hne (by simp; exact ⟨hne, hea⟩)
      fun x h' tk hx ho' st' hT hsz hk => ?_
    have ex : x = u := by
      rw [show its.toArray[i]? = some u by simpa using hu] at hx
      exact (Option.some.inj hx).symm
    subst ex
    refine ⟨_, rfl, wpAny_letOwnedTupleGo_enum (s := { s with heap := h', toks := tk + 1 }) ho' fun h'' he' sb => ?_⟩
    have hT2 : h''.get? s.heap.objs.size = some { cls := .type "tuple", data := .seq #[.int i tk, x] } := (sb.2 _ (Nat.ne_of_gt hel)).trans hT
    have nw : ObjOk X.prog X.w (upd H s.heap.objs.size (.tup [.int (i : Nat), v])) h'' s.heap.objs.size (.tup [.int (i : Nat), v]) :=
      ⟨by show 2 ≤ sizeLine; decide, [.int i tk, x], .cons ⟨_, rfl⟩ (.cons ru .nil), ⟨_, hT2, rfl, _, rfl⟩⟩
    have I1 : Inv X pins σ (upd H s.heap.objs.size (.tup [.int (i : Nat), v])) { s with heap := h'', toks := tk + 1 } :=
      I.turnedNew (ch := [e, it]) (fun b ob hb q => (sb.2 b (fun z => hb (by simp [z]))).trans (hk b ob (fun z => hb (by simp [z])) (fun z => hb (by simp [z])) q)) hf (Nat.le_refl _) nw
    refine ⟨.ref s.heap.objs.size, _, I1, rfl, ⟨_, v, rfl, I.hok.fresh (Nat.le_refl _), rfl, fun ys hy => by rw [I.tuple_inj hy hq]; exact hv⟩, ⟨⟨x, ?_⟩, st'.1.at fun o q => (sb.2 it (Ne.symm hne)).trans q, hne⟩, fun b hb => ?_⟩
    · rw [show ((i + 1 : Nat) : Int) = (i : Int) + 1 by omega]; exact he'
    · have hb' : b < s.heap.objs.size := by
        simp only [List.mem_cons, List.not_mem_nil, or_false] at hb
        rcases hb with rfl | rfl
        · exact hel
        · exact hil
      rw [upd_ne (Nat.ne_of_lt hb')]
      exact (hf b hb).1
  done := by
    intro X hP hw hK hc i pins s σ H E I hf st hg
    subst hP hw hK
    obtain ⟨⟨old, he⟩, hit, hne⟩ := st
    obtain ⟨ts, hq, hx⟩ := hg
    obtain ⟨its, rv, p, hz⟩ := I.tuple hq
    obtain ⟨f0, f1, f2, f3, f4, f5⟩ := hf it (by simp)
    have hl := rv.length
    have pt : s.heap.IsTuple a its.toArray := p
    have en : i = its.toArray.size := by simp; omega
    subst en
    refine wpAny_pyNext_enum_endD (Draws.tuple (A := X.A.in1) (show X.A.in1.handled = none from I.ok.hd hc) it a hae its.toArray) he ?_ fun h' eb => ⟨rfl, I.turned (t' := s.toks) (fun b o hb q => eb b o hb q) f0 f1 f3 f4 f5⟩
    exact ⟨hit, pt⟩
  self := fun A i s Q E st h => by
    obtain ⟨⟨_, he⟩, _⟩ := st
    exact wpAny_pyIter_enum he h
/-- enumerate of what is a list or a tuple -/
def iEnX (K : PySem.W.Frag) (ta : TA) : TI := fun σ H R => ta σ H fun vs H1 => ∃ a, vs = [.ref a] ∧ (((∃ xs, H1 a = some (.lst xs)) ∧ R (Ite K a) H1) ∨ ((∃ xs, H1 a = some (.tup xs)) ∧ R (Iet K a) H1))
theorem pi_enX {X : Cx} {e : Expr} {ta : TA} {p pos tpos : Pos} {elts : List Expr} {kk : Nat} (hg : Gl X "enumerate") (hm : X.mg "enumerate" = none) (ha : PA X [e] ta) (hs : starEach [e] X.env = [(false, eval e X.env)] := by rfl) :
    PI X (.Tuple elts kk tpos) (.Call (.Name "enumerate" p) [e] [] pos) (iEnX X.K ta) := by
  refine ⟨fun pins s σ H R I h => ?_⟩
  refine Call_ (ld_blt I hg hm boot_enumerate (PyProof.Rows.callWith_type1 (thn (ha.run pos pins s σ H _ I h) fun us s1 z => ?_) hs rfl))
  obtain ⟨vs, H1, I1, r1, a, rfl, q⟩ := z
  cases r1 with
  | cons r rr =>
    cases rr
    cases r
    have low : ∀ b ∈ [s1.heap.objs.size + 1, s1.heap.objs.size], FpOk X pins H1 b := fun b hb => by
      have le : s1.heap.objs.size ≤ b := by
        simp only [List.mem_cons, List.not_mem_nil, or_false] at hb
        rcases hb with rfl | rfl <;> omega
      exact I1.fpOk le (I1.hok.fresh le)
    rcases q with ⟨⟨xs, hx⟩, q⟩ | ⟨⟨xs, hx⟩, q⟩
    · obtain ⟨its, rv, p', hz⟩ := I1.list (SqL.of hx)
      refine call_enumerate_list p'.isList fun h' he hit hsz hk => wpAny_pyIter_enum he ?_
      have I2 : Inv X pins σ H1 { s1 with heap := h' } := I1.kept (t' := s1.toks) hk
      exact ⟨_, _, _, _, H1, rfl, I2, turn_enum a _ _, ⟨⟨.none, he⟩, hit, Nat.succ_ne_self _⟩, low, q⟩
    · obtain ⟨its, rv, p', hz⟩ := I1.tuple (SqT.of hx)
      have pt : s1.heap.IsTuple a its.toArray := p'
      have al : a < s1.heap.objs.size := by obtain ⟨_, q, _⟩ := pt; exact Heap.lt_size q
      refine call_enumT pt fun h' he hit hk => wpAny_pyIter_enum he ?_
      have I2 : Inv X pins σ H1 { s1 with heap := h' } := I1.kept (t' := s1.toks) hk
      exact ⟨_, _, _, _, H1, rfl, I2, turn_iet (Nat.ne_of_lt al) (Ne.symm (Nat.ne_of_lt (Nat.lt_succ_of_lt al))), ⟨⟨.none, he⟩, hit, Nat.succ_ne_self _⟩, low, q⟩
theorem for_enX {K : PySem.W.Frag} {a : Addr} {xs : List V} {g : TG} {tb : TS} {D : Ends} {σ : St} {H : Hp} (h : SqX H a xs) (Pv : Nat → St → Hp → Prop) (h0 : Pv 0 σ H) (hl : ∀ i σ' H', i ≤ xs.length → Pv i σ' H' → H' a = H a)
    (hs : ∀ (i : Nat) x p σ H', xs[i]? = some x → Pv i σ H' → H' p = none → g (.ref p) σ (upd H' p (.tup [.int (i : Nat), x])) fun σ2 H2 => tb { D with nx := Pv (i + 1), ct := Pv (i + 1), bk := D.nx } σ2 H2) (hd : ∀ σ H, Pv xs.length σ H → D.nx σ H) :
    ∃ b, [V.ref a] = [.ref b] ∧ (((∃ ys, H b = some (.lst ys)) ∧ ∃ W : Nat → Nat → St → Hp → Prop, (∃ m, W 0 m σ H) ∧ ∀ i m σ H, W i m σ H →
        ((Ite K b).stop i H ∧ D.nx σ H) ∨ ((Ite K b).go i H ∧ ∃ N : St → Hp → Prop, (∀ σ' H', N σ' H' → ∃ m', m' < m ∧ W (i + 1) m' σ' H') ∧ ∀ x H', (Ite K b).yld i H x H' → g x σ H' fun σ2 H2 => tb { D with nx := N, ct := N, bk := D.nx } σ2 H2)) ∨
      ((∃ ys, H b = some (.tup ys)) ∧ ∃ W : Nat → Nat → St → Hp → Prop, (∃ m, W 0 m σ H) ∧ ∀ i m σ H, W i m σ H →
        ((Iet K b).stop i H ∧ D.nx σ H) ∨ ((Iet K b).go i H ∧ ∃ N : St → Hp → Prop, (∀ σ' H', N σ' H' → ∃ m', m' < m ∧ W (i + 1) m' σ' H') ∧ ∀ x H', (Iet K b).yld i H x H' → g x σ H' fun σ2 H2 => tb { D with nx := N, ct := N, bk := D.nx } σ2 H2))) := by
  refine ⟨a, rfl, ?_⟩
  rcases h with h | h
  · refine .inl ⟨⟨xs, h⟩, fun i m σ' H' => m = xs.length - i ∧ i ≤ xs.length ∧ Pv i σ' H', ⟨_, rfl, Nat.zero_le _, h0⟩, ?_⟩
    rintro i m σ' H' ⟨rfl, hi, pv⟩
    have at' : SqL K H' a xs := SqL.of ((hl i σ' H' hi pv).trans h)
    by_cases lt : i < xs.length
    · refine .inr ⟨⟨xs, xs[i], at', List.getElem?_eq_getElem lt⟩, Pv (i + 1), fun σ2 H2 z => ⟨_, Nat.sub_lt_sub_left lt (Nat.lt_succ_self i), rfl, lt, z⟩, ?_⟩
      rintro v H2 ⟨p, x, rfl, hp, rfl, hx⟩
      exact hs i x p σ' H' (hx xs at') pv hp
    · exact .inl ⟨⟨xs, at', by omega⟩, hd σ' H' (by rw [show xs.length = i by omega]; exact pv)⟩
  · refine .inr ⟨⟨xs, h⟩, fun i m σ' H' => m = xs.length - i ∧ i ≤ xs.length ∧ Pv i σ' H', ⟨_, rfl, Nat.zero_le _, h0⟩, ?_⟩
    rintro i m σ' H' ⟨rfl, hi, pv⟩
    have at' : SqT K H' a xs := SqT.of ((hl i σ' H' hi pv).trans h)
    by_cases lt : i < xs.length
    · refine .inr ⟨⟨xs, xs[i], at', List.getElem?_eq_getElem lt⟩, Pv (i + 1), fun σ2 H2 z => ⟨_, Nat.sub_lt_sub_left lt (Nat.lt_succ_self i), rfl, lt, z⟩, ?_⟩
      rintro v H2 ⟨p, x, rfl, hp, rfl, hx⟩
      exact hs i x p σ' H' (hx xs at') pv hp
    · exact .inl ⟨⟨xs, at', by omega⟩, hd σ' H' (by rw [show xs.length = i by omega]; exact pv)⟩
theorem k_enX {X : Cx} {K : PySem.W.Frag} (hK : X.K = K) {e : Expr} {ta : TA} {p pos tpos : Pos} {elts : List Expr} {kk : Nat} (hg : Gl X "enumerate") (hm : X.mg "enumerate" = none) (ha : PA X [e] ta) (hs : starEach [e] X.env = [(false, eval e X.env)] := by rfl) :
    PI X (.Tuple elts kk tpos) (.Call (.Name "enumerate" p) [e] [] pos) (iEnX K ta) := by subst hK; exact pi_enX hg hm ha hs

/-! ### xs[::c] -/
def stepV (xs : List V) (c : Int) : List V := (sliceRange 0 xs.length c).filterMap (xs[·]?)
def tStep (K : PySem.W.Frag) (te tc : TE) : TE := fun σ H Q => te σ H fun x H1 => tPart tc σ H1 fun o H2 => ∃ a xs c, x = .ref a ∧ o = some c ∧ 0 < c ∧ SqL K H2 a xs ∧ ∀ p, H2 p = none → Q (.ref p) (upd H2 p (.lst (stepV xs c)))
theorem vals_pick {xs : List V} {us : List Value} (r : Vals xs us) (js : List Nat) : Vals (js.filterMap (xs[·]?)) (js.filterMap (us[·]?)) := by
  induction js with
  | nil => exact .nil
  | cons j js ih =>
    cases e : xs[j]? with
    | none =>
      have l := r.length
      have e2 : us[j]? = none := by rw [List.getElem?_eq_none_iff] at e ⊢; omega
      rw [List.filterMap_cons_none e, List.filterMap_cons_none e2]
      exact ih
    | some x =>
      obtain ⟨u, e2, ru⟩ := r.get e
      rw [List.filterMap_cons_some e, List.filterMap_cons_some e2]
      exact .cons ru ih
theorem step_bounds (c : Int) (h : 0 < c) (n : Nat) : sliceBounds none none (some c) n = (0, (n : Int), c) := by
  simp [sliceBounds, h]
theorem step_pick (us : List Value) (c : Int) (h : 0 < c) : (slicePick us.toArray none none (some c)) = ((sliceRange 0 us.length c).filterMap (us[·]?)).toArray := by
  unfold slicePick
  rw [List.size_toArray, step_bounds c h]
  simp
theorem pe_step {X : Cx} {K : PySem.W.Frag} (hK : X.K = K) {e ec : Expr} {te tc : TE} {p2 pos : Pos} (he : PE X e te) (hc : PE X ec tc)
    (ho : ∀ a b, subscripted (.Slice none none (some ec) p2) false (.ref a) (.ref b) = operate [.ref a, .ref b] (getItem (.ref a) (.ref b)) := by intro a b; with_unfolding_all rfl)
    (hg : ∀ a r, letTemporaryGo e (.ref a) r = pure () := by intro a r; with_unfolding_all rfl) :
    PE X (.Subscript e (.Slice none none (some ec) p2) pos) (tStep K te tc) := by
  subst hK
  refine ⟨fun pins s σ H Q I h => ?_⟩
  have hst : PO X (some ec) (tPart tc) := po_some hc
  refine Subscript_ (thn (he.run pins s σ H _ I h) fun v s1 z => ?_)
  obtain ⟨x, H1, I1, r1, q1⟩ := z
  refine wpAny_Slice (thn (po_none.run pins s1 σ H1 (fun o H' => o = none ∧ H' = H1) I1 ⟨rfl, rfl⟩) fun vl s2 z => ?_)
  obtain ⟨_, _, I2, pl, rfl, rfl⟩ := z
  refine thn (po_none.run pins s2 σ _ (fun o H' => o = none ∧ H' = _) I2 ⟨rfl, rfl⟩) fun vu s3 z => ?_
  obtain ⟨_, _, I3, pu, rfl, rfl⟩ := z
  refine thn (hst.run pins s3 σ _ (fun o H' => ∃ a xs c, x = .ref a ∧ o = some c ∧ 0 < c ∧ SqL X.K H' a xs ∧ ∀ p, H' p = none → Q (.ref p) (upd H' p (.lst (stepV xs c)))) I3 q1) fun vs s4 z => ?_
  obtain ⟨_, H4, I4, ps, a, xs, c, rfl, rfl, c0, hx, q⟩ := z
  cases r1
  have I5 := I4.kept (h' := s4.heap.push { cls := .type "slice", data := .fields #[vl, vu, vs] }) (t' := s4.toks) fun b ob q => Heap.get?_push_of_some _ q
  obtain ⟨its, r, ht, hz⟩ := I5.list hx
  have hl := r.length
  have new := vals_pick r (sliceRange 0 its.length c)
  rw [← hl] at new
  have il : (its.toArray).size ≤ sizeLine := by rw [List.size_toArray]; omega
  have ll : (stepV xs c).length ≤ sizeLine := by
    refine Nat.le_trans (List.length_filterMap_le _ _) (Nat.le_trans (sliceRange_length_le 0 xs.length c xs.length (fun _ => ⟨Int.le_refl 0, Int.le_refl _⟩) fun z => absurd c0 z) hz)
  refine tail_any (ops := [.ref a, .ref s4.heap.objs.size]) ht.isList.typeIs (PySem.slot_list_getitem.lookup) ?_ (ho _ _)
  refine wpAny_getItem_list_slice ht.isList (Heap.IsSliceOf.new _ vl vu vs) pl pu ps (fun z => by injection z with z; omega) ?_ il
  rw [step_pick its c c0, ← hl]
  exact ⟨.ref _, _, I5.laid (o := .lst (stepV xs c)) (t' := s4.toks) (fun b ob q => Heap.get?_push_of_some _ q) (Nat.le_refl _) ⟨ll, _, 0, new, Heap.get?_push_size _ rfl⟩, rfl, q _ (I5.hok.fresh (Nat.le_refl _))⟩
end MC

set_option Elab.async false
set_option linter.all false
set_option maxRecDepth 100000
set_option maxHeartbeats 4000000
set_option exponentiation.threshold 20000
/-! ME: how many asks, which stands where. -/
namespace MC
open PySem PySem.Spec L2
mutual
def manyR : PyData → Int
  | .list xs => manyPs xs
  | .tuple xs => manyPs xs
  | _ => 0
def manyP : PyData → Int
  | .str _ => 1
  | .tuple [r, .int t] => manyR r * t
  | _ => 0
def manyPs : List PyData → Int
  | [] => 0
  | x :: xs => manyP x + manyPs xs
end
mutual
def atR : PyData → Int → Str
  | .list xs, p => atPs xs p
  | .tuple xs, p => atPs xs p
  | _, _ => ⟨#[]⟩
def atP : PyData → Int → Str
  | .str z, _ => z
  | .tuple [r, .int _], p => atR r (p % manyR r)
  | _, _ => ⟨#[]⟩
def atPs : List PyData → Int → Str
  | [], _ => ⟨#[]⟩
  | x :: xs, p => if p < manyP x then atP x p else atPs xs (p - manyP x)
end
theorem manyR_elems {d : PyData} (k : dSeq d = true) : manyR d = manyPs (elemsD d) := by
  cases d <;> first | rfl | cases k
theorem atR_elems {d : PyData} (k : dSeq d = true) (p : Int) : atR d p = atPs (elemsD d) p := by
  cases d <;> first | rfl | cases k
theorem manyPs_append (xs ys : List PyData) : manyPs (xs ++ ys) = manyPs xs + manyPs ys := by
  induction xs with
  | nil => simp [manyPs]
  | cons x xs ih => simp only [List.cons_append, manyPs, ih, Int.add_assoc]
theorem rowD_is {d : PyData} (h : rowD d = true) : dSeq d = true := by
  cases d <;> first | rfl | simp [rowD] at h
theorem partsD_get {xs : List PyData} (h : partsD xs = true) {i : Nat} {d : PyData} (e : xs[i]? = some d) : partD d = true := by
  rw [partsD_eq, List.all_eq_true] at h
  exact h d (List.mem_of_getElem? e)
theorem partD_cases {d : PyData} (h : partD d = true) : (∃ z, d = .str z ∧ isThingS z = true) ∨ ∃ r t, d = .tuple [r, .int t] ∧ 1 ≤ t ∧ t ≤ 10 ^ 30 ∧ dNil r = false ∧ rowD r = true := by
  unfold partD at h
  split at h
  · exact .inl ⟨_, rfl, h⟩
  · rename_i r t
    simp only [timesOk, Bool.and_eq_true, decide_eq_true_eq, Bool.not_eq_true'] at h
    exact .inr ⟨r, t, rfl, h.1.1.1, h.1.1.2, h.1.2, h.2⟩
  · cases h
def Bd (n k : Nat) : Int := ((n * 2 ^ (100 * k) : Nat) : Int)
theorem Bd_mono {n n' k k' : Nat} (h : n ≤ n') (hk : k ≤ k') : Bd n k ≤ Bd n' k' :=
  Int.ofNat_le.mpr (Nat.mul_le_mul h (Nat.pow_le_pow_right (by decide) (Nat.mul_le_mul_left _ hk)))
theorem Bd_add (n m k : Nat) : Bd n k + Bd m k = Bd (n + m) k := by
  unfold Bd
  rw [← Int.natCast_add, ← Nat.add_mul]
theorem Bd_times {n k : Nat} {a t : Int} (ha : a ≤ Bd n k) (a0 : 0 ≤ a) (t1 : 1 ≤ t) (t2 : t ≤ 10 ^ 30) : a * t ≤ Bd n (k + 1) := by
  have h1 : t ≤ ((2 ^ 100 : Nat) : Int) := Int.le_trans t2 (by decide)
  have h2 : a * t ≤ Bd n k * ((2 ^ 100 : Nat) : Int) := Int.mul_le_mul ha h1 (by omega) (Int.le_trans a0 ha)
  refine Int.le_trans h2 (Int.le_of_eq ?_)
  unfold Bd
  rw [← Int.natCast_mul, Nat.mul_assoc, ← Nat.pow_add, Nat.mul_add]
mutual
/-- asks of a part are one at least, and not too many -/
theorem manyR_bound : ∀ d : PyData, rowD d = true → 0 ≤ manyR d ∧ (dNil d = false → 1 ≤ manyR d) ∧ manyR d ≤ Bd (wD d) d.depth
  | .list xs, h => by
    obtain ⟨h1, h2, h3⟩ := manyPs_bound xs h
    refine ⟨h1, fun e => ?_, Int.le_trans h3 (Bd_mono (by simp only [wD]; omega) (by simp only [PyData.depth]; omega))⟩
    cases xs with
    | nil => simp [dNil] at e
    | cons x xs => exact h2 (List.cons_ne_nil _ _)
  | .tuple xs, h => by
    obtain ⟨h1, h2, h3⟩ := manyPs_bound xs h
    refine ⟨h1, fun e => ?_, Int.le_trans h3 (Bd_mono (by simp only [wD]; omega) (by simp only [PyData.depth]; omega))⟩
    cases xs with
    | nil => simp [dNil] at e
    | cons x xs => exact h2 (List.cons_ne_nil _ _)
  | .none, h => by simp [rowD] at h
  | .bool _, h => by simp [rowD] at h
  | .int _, h => by simp [rowD] at h
  | .str _, h => by simp [rowD] at h
  | .dict _, h => by simp [rowD] at h
termination_by d => 2 * wD d
decreasing_by all_goals (simp only [wD]; omega)
theorem manyP_bound : ∀ d : PyData, partD d = true → 1 ≤ manyP d ∧ manyP d ≤ Bd (wD d) d.depth
  | .str _, h => ⟨Int.le_refl _, by
    show (1 : Int) ≤ _
    have := Bd_mono (n := 1) (n' := 1) (k := 0) (k' := 0) (Nat.le_refl _) (Nat.le_refl _)
    simp only [wD, PyData.depth, Bd]
    decide⟩
  | .tuple [r, .int t], h => by
    simp only [partD, timesOk, Bool.and_eq_true, decide_eq_true_eq, Bool.not_eq_true'] at h
    obtain ⟨⟨⟨t1, t2⟩, hn⟩, hr⟩ := h
    obtain ⟨h1, h2, h3⟩ := manyR_bound r hr
    have h4 := h2 hn
    refine ⟨?_, ?_⟩
    · show 1 ≤ manyR r * t
      have : (1 : Int) * 1 ≤ manyR r * t := Int.mul_le_mul h4 t1 (by decide) h1
      omega
    · refine Int.le_trans (Bd_times h3 h1 t1 t2) (Bd_mono (by simp only [wD, wDs]; omega) (by simp only [PyData.depth, PyData.depthAll]; omega))
  | .tuple [], h => by cases (show false = true from h)
  | .tuple [_], h => by cases (show false = true from h)
  | .tuple [_, .none], h => by cases (show false = true from h)
  | .tuple [_, .bool _], h => by cases (show false = true from h)
  | .tuple [_, .str _], h => by cases (show false = true from h)
  | .tuple [_, .list _], h => by cases (show false = true from h)
  | .tuple [_, .tuple _], h => by cases (show false = true from h)
  | .tuple [_, .dict _], h => by cases (show false = true from h)
  | .tuple (_ :: _ :: _ :: _), h => by rcases partD_cases h with ⟨z, e, _⟩ | ⟨r, t, e, _⟩ <;> cases e
  | .none, h => by cases (show false = true from h)
  | .bool _, h => by cases (show false = true from h)
  | .int _, h => by cases (show false = true from h)
  | .list _, h => by cases (show false = true from h)
  | .dict _, h => by cases (show false = true from h)
termination_by d => 2 * wD d
decreasing_by all_goals (simp only [wD, wDs]; omega)
theorem manyPs_bound : ∀ xs : List PyData, partsD xs = true → 0 ≤ manyPs xs ∧ (xs ≠ [] → 1 ≤ manyPs xs) ∧ manyPs xs ≤ Bd (wDs xs) (PyData.depthAll xs)
  | [], _ => ⟨Int.le_refl _, fun e => absurd rfl e, by simp only [manyPs, wDs, PyData.depthAll, Bd]; decide⟩
  | x :: xs, h => by
    simp only [partsD, Bool.and_eq_true] at h
    obtain ⟨h1, h2⟩ := manyP_bound x h.1
    obtain ⟨h3, _, h4⟩ := manyPs_bound xs h.2
    refine ⟨by simp only [manyPs]; omega, fun _ => by simp only [manyPs]; omega, ?_⟩
    have a1 := Int.le_trans h2 (Bd_mono (n' := wD x) (k' := PyData.depthAll (x :: xs)) (Nat.le_refl _) (by simp only [PyData.depthAll]; omega))
    have a2 := Int.le_trans h4 (Bd_mono (n' := wDs xs) (k' := PyData.depthAll (x :: xs)) (Nat.le_refl _) (by simp only [PyData.depthAll]; omega))
    have a3 := Bd_add (wD x) (wDs xs) (PyData.depthAll (x :: xs))
    simp only [manyPs, wDs]
    omega
termination_by xs => 2 * wDs xs + 1
decreasing_by all_goals (have := wD_pos x; simp only [wDs]; omega)
end
/-- bits of a count -/
theorem many_bits {d : PyData} (h : rowD d = true) (hw : wD d ≤ 2000) (hd : d.depth ≤ 60) : (manyR d).natAbs < 2 ^ 6100 := by
  obtain ⟨h1, _, h2⟩ := manyR_bound d h
  have h3 := Int.le_trans h2 (Bd_mono hw hd)
  have h4 : (manyR d).natAbs ≤ 2000 * 2 ^ (100 * 60) := by
    unfold Bd at h3
    omega
  refine Nat.lt_of_le_of_lt h4 ?_
  have e : (2 : Nat) ^ 6100 = 2 ^ 100 * 2 ^ (100 * 60) := by rw [← Nat.pow_add]
  rw [e]
  exact Nat.mul_lt_mul_of_pos_right (by decide) (Nat.pow_pos (by decide))
mutual
def outR : PyData → List Str
  | .list xs => outPs xs
  | .tuple xs => outPs xs
  | _ => []
def outP : PyData → List Str
  | .str z => [z]
  | .tuple [r, .int t] => (List.replicate t.toNat (outR r)).flatten
  | _ => []
def outPs : List PyData → List Str
  | [] => []
  | x :: xs => outP x ++ outPs xs
end
theorem outR_elems {d : PyData} (k : dSeq d = true) : outR d = outPs (elemsD d) := by
  cases d <;> first | rfl | cases k
theorem outPs_append (xs ys : List PyData) : outPs (xs ++ ys) = outPs xs ++ outPs ys := by
  induction xs with
  | nil => rfl
  | cons x xs ih => simp only [List.cons_append, outPs, ih, List.append_assoc]
theorem rep_len {α : Type} (n : Nat) (l : List α) : (List.replicate n l).flatten.length = n * l.length := by
  induction n with
  | zero => simp
  | succ n ih => rw [List.replicate_succ, List.flatten_cons, List.length_append, ih, Nat.succ_mul]; omega
theorem rep_get {α : Type} (l : List α) (n k : Nat) (h : k < n * l.length) : (List.replicate n l).flatten[k]? = l[k % l.length]? := by
  induction n generalizing k with
  | zero => omega
  | succ n ih =>
    rw [List.replicate_succ, List.flatten_cons]
    have l0 : 0 < l.length := by
      cases l with
      | nil => simp at h
      | cons _ _ => simp
    by_cases lt : k < l.length
    · rw [List.getElem?_append_left lt, Nat.mod_eq_of_lt lt]
    · rw [List.getElem?_append_right (by omega), ih (k - l.length) (by rw [Nat.succ_mul] at h; omega)]
      rw [Nat.mod_eq_sub_mod (by omega : k ≥ l.length)]
mutual
theorem outR_get : ∀ d : PyData, rowD d = true → ((outR d).length : Int) = manyR d ∧ ∀ k : Nat, (k : Int) < manyR d → (outR d)[k]? = some (atR d k)
  | .list xs, h => outPs_get xs h
  | .tuple xs, h => outPs_get xs h
  | .none, h => by simp [rowD] at h
  | .bool _, h => by simp [rowD] at h
  | .int _, h => by simp [rowD] at h
  | .str _, h => by simp [rowD] at h
  | .dict _, h => by simp [rowD] at h
termination_by d => 2 * wD d
decreasing_by all_goals (simp only [wD]; omega)
theorem outP_get : ∀ d : PyData, partD d = true → ((outP d).length : Int) = manyP d ∧ ∀ k : Nat, (k : Int) < manyP d → (outP d)[k]? = some (atP d k)
  | .str z, h => ⟨rfl, fun k hk => by
    have : k = 0 := by simp only [manyP] at hk; omega
    subst this; rfl⟩
  | .tuple [r, .int t], h => by
    simp only [partD, timesOk, Bool.and_eq_true, decide_eq_true_eq, Bool.not_eq_true'] at h
    obtain ⟨⟨⟨t1, t2⟩, hn⟩, hr⟩ := h
    obtain ⟨h1, h2⟩ := outR_get r hr
    have m1 := (manyR_bound r hr).2.1 hn
    have tt : ((t.toNat : Nat) : Int) = t := by omega
    have len : (((List.replicate t.toNat (outR r)).flatten.length : Nat) : Int) = manyR r * t := by
      rw [rep_len, Int.natCast_mul, h1, tt, Int.mul_comm]
    refine ⟨len, fun k hk => ?_⟩
    have hk' : (k : Int) < manyR r * t := hk
    rw [← len] at hk'
    have hk2 : k < (List.replicate t.toNat (outR r)).flatten.length := by omega
    rw [rep_len] at hk2
    show (List.replicate t.toNat (outR r)).flatten[k]? = some (atR r (k % manyR r))
    rw [rep_get _ _ _ hk2]
    have km : ((k % (outR r).length : Nat) : Int) = (k : Int) % manyR r := by rw [Int.natCast_emod, h1]
    rw [h2 _ (by rw [km]; exact Int.emod_lt_of_pos _ (by omega)), km]
  | .tuple [], h => by cases (show false = true from h)
  | .tuple [_], h => by cases (show false = true from h)
  | .tuple [_, .none], h => by cases (show false = true from h)
  | .tuple [_, .bool _], h => by cases (show false = true from h)
  | .tuple [_, .str _], h => by cases (show false = true from h)
  | .tuple [_, .list _], h => by cases (show false = true from h)
  | .tuple [_, .tuple _], h => by cases (show false = true from h)
  | .tuple [_, .dict _], h => by cases (show false = true from h)
  | .tuple (_ :: _ :: _ :: _), h => by rcases partD_cases h with ⟨z, e, _⟩ | ⟨r, t, e, _⟩ <;> cases e
  | .none, h => by cases (show false = true from h)
  | .bool _, h => by cases (show false = true from h)
  | .int _, h => by cases (show false = true from h)
  | .list _, h => by cases (show false = true from h)
  | .dict _, h => by cases (show false = true from h)
termination_by d => 2 * wD d
decreasing_by all_goals (simp only [wD, wDs]; omega)
theorem outPs_get : ∀ xs : List PyData, partsD xs = true → ((outPs xs).length : Int) = manyPs xs ∧ ∀ k : Nat, (k : Int) < manyPs xs → (outPs xs)[k]? = some (atPs xs k)
  | [], _ => ⟨rfl, fun k hk => by simp only [manyPs] at hk; omega⟩
  | x :: xs, h => by
    simp only [partsD, Bool.and_eq_true] at h
    obtain ⟨h1, h2⟩ := outP_get x h.1
    obtain ⟨h3, h4⟩ := outPs_get xs h.2
    refine ⟨by simp only [outPs, manyPs, List.length_append]; omega, fun k hk => ?_⟩
    simp only [manyPs] at hk
    simp only [outPs, atPs]
    by_cases lt : (k : Int) < manyP x
    · rw [if_pos lt, List.getElem?_append_left (by omega), h2 k lt]
    · rw [if_neg lt, List.getElem?_append_right (by omega)]
      have e : ((k - (outP x).length : Nat) : Int) = (k : Int) - manyP x := by omega
      rw [h4 _ (by rw [e]; omega), e]
termination_by xs => 2 * wDs xs + 1
decreasing_by all_goals (have := wD_pos x; simp only [wDs]; omega)
end
theorem parts_split {xs : List PyData} (h : partsD xs = true) (i : Nat) : partsD (xs.take i) = true ∧ partsD (xs.drop i) = true := by
  rw [← List.take_append_drop i xs, partsD_eq, List.all_append, Bool.and_eq_true, ← partsD_eq, ← partsD_eq] at h
  exact h
theorem many_take {xs : List PyData} (h : partsD xs = true) (i : Nat) : 0 ≤ manyPs (xs.take i) ∧ manyPs (xs.take i) ≤ manyPs xs := by
  obtain ⟨h1, h2⟩ := parts_split h i
  have e := manyPs_append (xs.take i) (xs.drop i)
  rw [List.take_append_drop] at e
  have a := (manyPs_bound _ h1).1
  have b := (manyPs_bound _ h2).1
  omega
theorem many_one {xs : List PyData} (h : partsD xs = true) {i : Nat} {d : PyData} (e : xs[i]? = some d) : manyP d ≤ manyPs xs := by
  have h1 := many_take h i
  have h2 := many_take h (i + 1)
  have tk : xs.take (i + 1) = xs.take i ++ [d] := by rw [List.take_succ, e]; rfl
  rw [tk, manyPs_append] at h2
  simp only [manyPs] at h2
  omega
theorem many_upto {xs : List PyData} (h : partsD xs = true) {i : Nat} {d : PyData} (e : xs[i]? = some d) : manyPs (xs.take i) + manyP d ≤ manyPs xs := by
  have h2 := many_take h (i + 1)
  have tk : xs.take (i + 1) = xs.take i ++ [d] := by rw [List.take_succ, e]; rfl
  rw [tk, manyPs_append] at h2
  simp only [manyPs] at h2
  omega
theorem drop_at {α : Type} {xs : List α} {i : Nat} {d : α} (e : xs[i]? = some d) : xs.drop i = d :: xs.drop (i + 1) := by
  obtain ⟨il, e⟩ := List.getElem?_eq_some_iff.mp e
  rw [← e]; exact List.drop_eq_getElem_cons il
end MC

set_option Elab.async false
set_option linter.all false
set_option maxRecDepth 100000
set_option maxHeartbeats 4000000
/-! MF: a list of texts by steps, told again. -/
namespace MC
open PySem PySem.Spec L2
/-! a list of texts by steps, told again -/
theorem count_up {n : Nat} {c : Int} (hc : 1 ≤ c) : Builtin.Range.rangeSize 0 n c = ((((n : Int) + c - 1) / c).toNat : Nat) := by
  have h := PyProof.Rows.rangeSize_pos (len := (n : Int)) hc (by omega)
  rw [h]
  have : 0 ≤ ((n : Int) + c - 1) / c := Int.ediv_nonneg (by omega) (by omega)
  omega
theorem up_lt {n k : Nat} {c : Int} (hc : 1 ≤ c) (h : k < (((n : Int) + c - 1) / c).toNat) : (k : Int) * c < n := by
  have h1 : (k : Int) + 1 ≤ ((n : Int) + c - 1) / c := by omega
  have h2 : ((k : Int) + 1) * c ≤ (n : Int) + c - 1 := by
    have := Int.mul_le_mul_of_nonneg_right h1 (show 0 ≤ c by omega)
    have h3 := Int.ediv_mul_le ((n : Int) + c - 1) (show c ≠ 0 by omega)
    omega
  rw [Int.add_mul] at h2
  omega
theorem range_up {n : Nat} {c : Int} (hn : n < 10000) (hc : 1 ≤ c) (hc2 : c < 10000) : RgC 0 n c (((n : Int) + c - 1) / c).toNat := by
  have h := count_up (n := n) hc
  refine ⟨by omega, by omega, ?_, h⟩
  have hb : (((n : Int) + c - 1) / c).toNat ≤ 20000 := by
    have : ((n : Int) + c - 1) / c ≤ (n : Int) + c - 1 := Int.ediv_le_self _ (by omega)
    omega
  unfold Builtin.Range.small
  rw [h]
  have c0 : c > 0 := by omega
  simp only [Builtin.Range.rangeFitsLong, Bool.and_eq_true, Bool.or_eq_true, decide_eq_true_eq, beq_iff_eq, c0, if_true]
  omega
theorem fm_map {α β : Type} {f : α → Option β} {g : α → β} : ∀ {l : List α}, (∀ x ∈ l, f x = some (g x)) → l.filterMap f = l.map g
  | [], _ => rfl
  | x :: l, h => by
    rw [List.filterMap_cons_some (h x (by simp)), List.map_cons, fm_map fun y hy => h y (by simp [hy])]
theorem step_out {d : PyData} (hr : rowD d = true) {c : Int} (hc : 1 ≤ c) : stepV ((outR d).map V.str) c = (List.range (((((outR d).length : Nat) : Int) + c - 1) / c).toNat).map fun k => V.str (atR d ((k : Nat) * c)) := by
  obtain ⟨h1, h2⟩ := outR_get d hr
  unfold stepV sliceRange
  rw [List.length_map]
  have e : (if c > 0 then (if (0 : Int) < (((outR d).length : Nat) : Int) then ((((outR d).length : Nat) : Int) - 0 + c - 1) / c else 0) else (if (0 : Int) > (((outR d).length : Nat) : Int) then (0 - (((outR d).length : Nat) : Int) - c - 1) / (-c) else 0)) = ((((outR d).length : Nat) : Int) + c - 1) / c := by
    rw [if_pos (by omega)]
    by_cases z : (0 : Int) < (((outR d).length : Nat) : Int)
    · rw [if_pos z, Int.sub_zero]
    · rw [if_neg z]
      have : (((outR d).length : Nat) : Int) = 0 := by omega
      rw [this]
      exact (Int.ediv_eq_zero_of_lt (by omega) (by omega)).symm
  rw [e, List.filterMap_map]
  refine fm_map fun k hk => ?_
  have kl := up_lt hc (List.mem_range.mp hk)
  have k0 : 0 ≤ (k : Int) * c := Int.mul_nonneg (by omega) (by omega)
  show ((outR d).map V.str)[(0 + c * (k : Int)).toNat]? = _
  have e2 : (0 + c * (k : Int)).toNat = ((k : Int) * c).toNat := by rw [Int.mul_comm]; congr 1; omega
  rw [e2, List.getElem?_map, h2 _ (by omega), show ((((k : Int) * c).toNat : Nat) : Int) = (k : Int) * c by omega]
  rfl
mutual
theorem outR_things : ∀ d : PyData, rowD d = true → (outR d).all isThingS = true
  | .list xs, h => outPs_things xs h
  | .tuple xs, h => outPs_things xs h
  | .none, h => by simp [rowD] at h
  | .bool _, h => by simp [rowD] at h
  | .int _, h => by simp [rowD] at h
  | .str _, h => by simp [rowD] at h
  | .dict _, h => by simp [rowD] at h
termination_by d => 2 * wD d
decreasing_by all_goals (simp only [wD]; omega)
theorem outP_things : ∀ d : PyData, partD d = true → (outP d).all isThingS = true
  | .str z, h => by
    have h' : isThingS z = true := h
    simp [outP, h']
  | .tuple [r, .int t], h => by
    simp only [partD, timesOk, Bool.and_eq_true, decide_eq_true_eq, Bool.not_eq_true'] at h
    have hr := outR_things r h.2
    rw [List.all_eq_true] at hr ⊢
    intro z hz
    obtain ⟨l, hl, hz2⟩ := List.mem_flatten.mp (show z ∈ (List.replicate t.toNat (outR r)).flatten from hz)
    rw [(List.mem_replicate.mp hl).2] at hz2
    exact hr z hz2
  | .tuple [], h => by cases (show false = true from h)
  | .tuple [_], h => by cases (show false = true from h)
  | .tuple [_, .none], h => by cases (show false = true from h)
  | .tuple [_, .bool _], h => by cases (show false = true from h)
  | .tuple [_, .str _], h => by cases (show false = true from h)
  | .tuple [_, .list _], h => by cases (show false = true from h)
  | .tuple [_, .tuple _], h => by cases (show false = true from h)
  | .tuple [_, .dict _], h => by cases (show false = true from h)
  | .tuple (_ :: _ :: _ :: _), h => by rcases partD_cases h with ⟨z, e, _⟩ | ⟨r, t, e, _⟩ <;> cases e
  | .none, h => by cases (show false = true from h)
  | .bool _, h => by cases (show false = true from h)
  | .int _, h => by cases (show false = true from h)
  | .list _, h => by cases (show false = true from h)
  | .dict _, h => by cases (show false = true from h)
termination_by d => 2 * wD d
decreasing_by all_goals (simp only [wD, wDs]; omega)
theorem outPs_things : ∀ xs : List PyData, partsD xs = true → (outPs xs).all isThingS = true
  | [], _ => rfl
  | x :: xs, h => by
    simp only [partsD, Bool.and_eq_true] at h
    simp only [outPs, List.all_append, outP_things x h.1, outPs_things xs h.2, Bool.and_self]
termination_by xs => 2 * wDs xs + 1
decreasing_by all_goals (have := wD_pos x; simp only [wDs]; omega)
end
theorem atPs_after {xs : List PyData} (h : partsD xs = true) (ys : List PyData) {p : Int} (hp : manyPs xs ≤ p) : atPs (xs ++ ys) p = atPs ys (p - manyPs xs) := by
  induction xs generalizing p with
  | nil => simp [manyPs]
  | cons x xs ih =>
    simp only [partsD, Bool.and_eq_true] at h
    have h1 := (manyP_bound x h.1).1
    have h2 := (manyPs_bound xs h.2).1
    simp only [manyPs] at hp ⊢
    simp only [List.cons_append, atPs]
    rw [if_neg (by omega), ih h.2 (by omega)]
    congr 1
    omega
theorem dp_strs (K : PySem.W.Frag) (H : Hp) : ∀ zs : List Str, DpAll K H (zs.map V.str) (zs.map PyData.str)
  | [] => .nil
  | z :: zs => .cons (.str z) (dp_strs K H zs)
theorem eqv_strs : ∀ zs : List Str, PyData.eqvAll (zs.map PyData.str) (zs.map PyData.str) = true
  | [] => by simp only [List.map_nil, PyData.eqvAll]
  | z :: zs => by simp only [List.map_cons, PyData.eqvAll, PyData.eqv, eqv_strs zs, beq_self_eq_true, Bool.and_self]
theorem lay_strs : ∀ zs : List Str, zs.all isThingS = true → PyData.canLayAll0 (zs.map PyData.str) = true ∧ PyData.depthAll (zs.map PyData.str) = 0
  | [], _ => ⟨by simp only [List.map_nil, PyData.canLayAll0], by simp only [List.map_nil, PyData.depthAll]⟩
  | z :: zs, h => by
    rw [List.all_cons, Bool.and_eq_true] at h
    obtain ⟨h1, h2⟩ := lay_strs zs h.2
    refine ⟨?_, by simp only [List.map_cons, PyData.depthAll, PyData.depth, h2]; omega⟩
    simp only [List.map_cons, PyData.canLayAll0, PyData.canLay0, h1, Bool.and_true]
    have ht := h.1
    unfold isThingS at ht
    simp only [Bool.and_eq_true, List.all_eq_true] at ht
    show PySem.PyData.strOk z = true
    unfold PySem.PyData.strOk
    rw [← Array.all_toList, List.all_eq_true]
    intro c hc
    have := ht.2 c hc
    unfold isSign at this
    simp only [Bool.and_eq_true, decide_eq_true_eq] at this
    exact decide_eq_true (Nat.lt_of_le_of_lt this.2 (by decide))
theorem shaped_strs {zs : List Str} (h : zs.all isThingS = true) : SeqAt.shaped (.list (zs.map PyData.str)) = true := by
  obtain ⟨h1, h2⟩ := lay_strs zs h
  unfold SeqAt.shaped
  rw [Bool.and_eq_true]
  refine ⟨by simp only [PyData.canLay0]; exact h1, decide_eq_true (by simp only [PyData.depth]; omega)⟩
/-- what stands at places is a thing -/
theorem at_thing {d : PyData} (h : rowD d = true) {p : Int} (h0 : 0 ≤ p) (h1 : p < manyR d) : isThingS (atR d p) = true := by
  have g := (outR_get d h).2 p.toNat (by omega)
  rw [show ((p.toNat : Nat) : Int) = p by omega] at g
  exact List.all_eq_true.mp (outR_things d h) _ (List.mem_of_getElem? g)
end MC

set_option Elab.async false
set_option linter.all false
set_option maxRecDepth 100000
set_option maxHeartbeats 4000000
/-! MG: how often ahead, the place of the so-manieth: on rows laid out. -/
namespace MC
open PySem PySem.Spec L2
/-- how often z stands ahead of place p of l -/
def aheadL (l : List Str) (z : Str) (p : Nat) : Nat := (l.take p).count z
/-- p is the place of the n-th z -/
def IsNth (l : List Str) (z : Str) (n p : Nat) : Prop := l[p]? = some z ∧ aheadL l z p = n
theorem aheadL_le (l : List Str) (z : Str) (p : Nat) : aheadL l z p ≤ l.count z := List.Sublist.count_le z (List.take_sublist p l)
theorem aheadL_all {l : List Str} {z : Str} {p : Nat} (h : l.length ≤ p) : aheadL l z p = l.count z := by
  unfold aheadL; rw [List.take_of_length_le h]
theorem aheadL_append (a b : List Str) (z : Str) (p : Nat) : aheadL (a ++ b) z p = aheadL a z p + aheadL b z (p - a.length) := by
  unfold aheadL; rw [List.take_append, List.count_append]
theorem aheadL_succ {l : List Str} {p : Nat} {x : Str} (h : l[p]? = some x) (z : Str) : aheadL l z (p + 1) = aheadL l z p + (if x = z then 1 else 0) := by
  unfold aheadL
  rw [show l.take (p + 1) = l.take p ++ [x] by rw [List.take_succ, h]; rfl, List.count_append, List.count_singleton]
  by_cases e : x = z
  · simp [e]
  · simp [e]
theorem aheadL_mono (l : List Str) (z : Str) {p q : Nat} (h : p ≤ q) : aheadL l z p ≤ aheadL l z q := by
  unfold aheadL
  exact List.Sublist.count_le z ((List.take_prefix_take_left h).sublist)
/-- there is but one -/
theorem isNth_inj {l : List Str} {z : Str} {n p q : Nat} (h : IsNth l z n p) (k : IsNth l z n q) : p = q := by
  have main : ∀ {p q : Nat}, IsNth l z n p → IsNth l z n q → ¬ p < q := fun {p q} h k lt => by
    have a := aheadL_succ h.1 z
    have b := aheadL_mono l z (show p + 1 ≤ q from lt)
    rw [if_pos rfl, h.2] at a
    rw [k.2] at b
    omega
  have h1 := main h k
  have h2 := main k h
  omega
theorem isNth_lt {l : List Str} {z : Str} {n p : Nat} (h : IsNth l z n p) : p < l.length := (List.getElem?_eq_some_iff.mp h.1).1
theorem rep_take {α : Type} (l : List α) (h : 0 < l.length) (t p : Nat) (hp : p ≤ t * l.length) : (List.replicate t l).flatten.take p = (List.replicate (p / l.length) l).flatten ++ l.take (p % l.length) := by
  induction t generalizing p with
  | zero =>
    have : p = 0 := by omega
    subst this
    simp
  | succ t ih =>
    rw [List.replicate_succ, List.flatten_cons, List.take_append]
    by_cases lt : p < l.length
    · rw [Nat.div_eq_of_lt lt, Nat.mod_eq_of_lt lt, show p - l.length = 0 by omega]
      simp
    · have ge : l.length ≤ p := by omega
      rw [List.take_of_length_le ge, ih (p - l.length) (by rw [Nat.succ_mul] at hp; omega)]
      have e1 : p / l.length = (p - l.length) / l.length + 1 := by rw [Nat.div_eq_sub_div h ge]
      have e2 : p % l.length = (p - l.length) % l.length := by rw [Nat.mod_eq_sub_mod ge]
      rw [e1, e2, List.replicate_succ, List.flatten_cons, List.append_assoc]
theorem rep_count (l : List Str) (z : Str) (t : Nat) : (List.replicate t l).flatten.count z = t * l.count z := by
  induction t with
  | zero => simp
  | succ t ih => rw [List.replicate_succ, List.flatten_cons, List.count_append, ih, Nat.succ_mul]; omega
/-- ahead of a place within what is said over -/
theorem aheadL_rep {l : List Str} {z : Str} (h : 0 < l.length) {t p : Nat} (hp : p ≤ t * l.length) : aheadL (List.replicate t l).flatten z p = p / l.length * l.count z + aheadL l z (p % l.length) := by
  unfold aheadL
  rw [rep_take l h t p hp, List.count_append, rep_count]
/-- the n-th within what is said over -/
theorem isNth_rep {l : List Str} {z : Str} {t k n p : Nat} (hk : k < t) (h : IsNth l z n p) : IsNth (List.replicate t l).flatten z (k * l.count z + n) (k * l.length + p) := by
  have pl := isNth_lt h
  have l0 : 0 < l.length := by omega
  have lt : k * l.length + p < t * l.length := by
    have : (k + 1) * l.length ≤ t * l.length := Nat.mul_le_mul_right _ hk
    rw [Nat.succ_mul] at this
    omega
  have e1 : (k * l.length + p) % l.length = p := by rw [Nat.add_comm, Nat.add_mul_mod_self_right, Nat.mod_eq_of_lt pl]
  have e2 : (k * l.length + p) / l.length = k := by rw [Nat.add_comm, Nat.add_mul_div_right _ _ l0, Nat.div_eq_of_lt pl]; omega
  refine ⟨?_, ?_⟩
  · rw [rep_get _ _ _ lt, e1]; exact h.1
  · rw [aheadL_rep l0 (Nat.le_of_lt lt), e1, e2, h.2]
theorem isNth_after {a b : List Str} {z : Str} {n p : Nat} (h : IsNth b z n p) : IsNth (a ++ b) z (a.count z + n) (a.length + p) := by
  refine ⟨?_, ?_⟩
  · rw [List.getElem?_append_right (by omega), show a.length + p - a.length = p by omega]; exact h.1
  · rw [aheadL_append, aheadL_all (by omega), show a.length + p - a.length = p by omega, h.2]
theorem isNth_before {a b : List Str} {z : Str} {n p : Nat} (h : IsNth a z n p) : IsNth (a ++ b) z n p := by
  have pl := isNth_lt h
  refine ⟨?_, ?_⟩
  · rw [List.getElem?_append_left pl]; exact h.1
  · rw [aheadL_append, h.2, show p - a.length = 0 by omega]; simp [aheadL]
end MC

set_option Elab.async false
set_option linter.all false
set_option maxRecDepth 100000
set_option maxHeartbeats 4000000
/-! MH: lists that hold lists and dicts from texts to numbers: their repr. -/
namespace MC
open PySem PySem.Spec L2
def dctV (kvs : List (Str × Int)) : List (Key × V) := kvs.map fun p => (Sum.inr p.1, V.int p.2)
def dctD (kvs : List (Str × Int)) : List (PyData × PyData) := kvs.map fun p => (PyData.str p.1, PyData.int p.2)
mutual
inductive DE (H : Hp) : V → PyData → Prop
  | of {v : V} {d : PyData} (h : DD H v d) : DE H v d
  | dct {a : Addr} {kvs : List (Str × Int)} (h : H a = some (.dK (dctV kvs))) : DE H (.ref a) (.dict (dctD kvs))
  | lst {a : Addr} {xs : List V} {ds : List PyData} (h : H a = some (.lst xs)) (hs : DEs H xs ds) : DE H (.ref a) (.list ds)
inductive DEs (H : Hp) : List V → List PyData → Prop
  | nil : DEs H [] []
  | cons {v : V} {vs : List V} {d : PyData} {ds : List PyData} (h : DE H v d) (hs : DEs H vs ds) : DEs H (v :: vs) (d :: ds)
end
section
variable {X : Cx} {pins : List (Addr × Obj)} {σ : St} {H : Hp} {s : Shared}
theorem pairs_reads {h : Heap} {P : Program} {w : World} : ∀ {kvs : List (Str × Int)} {vs : List (Key × Value)} {es : List DictEntry}, KV (dctV kvs) vs → Pairs (mixKind P w) es vs →
    ReadsAll h (es.map (·.key)) ((dctD kvs).map (·.1)) [] ∧ ReadsAll h (es.map (·.val)) ((dctD kvs).map (·.2)) []
  | [], _, _, kv, p => by
    cases kv; cases p
    exact ⟨.nil, .nil⟩
  | (x, i) :: kvs, _, _, kv, p => by
    cases kv with
    | cons h1 h2 =>
      cases p with
      | @cons en kw es' kvs' g1 g2 g3 =>
        obtain ⟨a, b⟩ := pairs_reads (h := h) h2 g3
        obtain ⟨e1, t, e2⟩ := h1
        rw [← e1] at g1
        rw [e2] at g2
        have hk : ∃ t', en.key = Value.str x t' := by
          have g : keyIs (Sum.inr x : Key) en.key = true := g1
          rcases keyIs_shape g with ⟨j, t', e, _⟩ | ⟨y, t', e, e'⟩
          · exact nomatch e
          · injection e with e
            subst e
            exact ⟨t', e'⟩
        obtain ⟨t', ek⟩ := hk
        refine ⟨?_, ?_⟩
        · show ReadsAll h (en.key :: es'.map (·.key)) (.str x :: (dctD kvs).map (·.1)) ([] ++ [])
          rw [ek]
          exact .cons (.str x t') a
        · show ReadsAll h (en.val :: es'.map (·.val)) (.int i :: (dctD kvs).map (·.2)) ([] ++ [])
          rw [g2]
          exact .cons (.int i t) b
mutual
theorem DE.reads (I : Inv X pins σ H s) : ∀ {d : PyData} {v : V} {u : Value}, DE H v d → RelV v u → ∃ as, Reads s.heap u d as ∧ ∀ b ∈ as, H b ≠ none
  | _, _, _, .of h, r => DD.reads I _ _ _ h r
  | _, _, _, .dct (kvs := kvs) h, r => by
    cases r
    obtain ⟨_, _, vs, kv, o, es, ep, ho, hx, hd, _, hm, _⟩ := (show ObjOk X.prog X.w H s.heap _ (.dK (dctV kvs)) from I.hok _ _ h)
    obtain ⟨a, b⟩ := pairs_reads (h := s.heap) kv hm
    refine ⟨_, .dict ho hx.1 hd a b, fun b hb => ?_⟩
    rw [List.append_nil] at hb
    rw [List.mem_singleton.mp hb, h]
    exact fun z => nomatch z
  | _, _, _, .lst h hs, r => by
    cases r
    obtain ⟨_, its, n, rv, ho⟩ := (show ObjOk X.prog X.w H s.heap _ (.lst _) from I.hok _ _ h)
    obtain ⟨as, hr, hb⟩ := DEs.reads I hs rv
    refine ⟨_, .list ho rfl rfl (by simpa using hr), fun b hbm => ?_⟩
    rcases List.mem_cons.mp hbm with rfl | hbm
    · rw [h]; exact fun z => nomatch z
    · exact hb b hbm
theorem DEs.reads (I : Inv X pins σ H s) : ∀ {ds : List PyData} {vs : List V} {us : List Value}, DEs H vs ds → Vals vs us → ∃ as, ReadsAll s.heap us ds as ∧ ∀ b ∈ as, H b ≠ none
  | _, _, _, .nil, r => by
    cases r
    exact ⟨_, .nil, fun b hb => nomatch hb⟩
  | _, _, _, .cons h hs, r => by
    cases r with
    | cons r1 r2 =>
      obtain ⟨as, q1, b1⟩ := DE.reads I h r1
      obtain ⟨bs, q2, b2⟩ := DEs.reads I hs r2
      exact ⟨_, .cons q1 q2, fun b hb => (List.mem_append.mp hb).elim (b1 b) (b2 b)⟩
end
def rReprE : List V → Hp → VK → Prop := fun xs H Q => ∃ (a : Addr) (d : PyData), xs = [.ref a] ∧ DE H (.ref a) d ∧ d.showable = true ∧ d.depth ≤ 100 ∧ d.shown.length ≤ sizeLine ∧ Q (.str d.shown) H
theorem call_reprE (hg : X.A.guards = some []) (hu : X.A.units + 200 < cLine) (hn : NoSys X) : CallR X (.builtin "repr") rReprE := by
  intro pins s σ H xs us Q I r h
  obtain ⟨a, d, rfl, hd, hs, hdp, hz, q⟩ := h
  obtain ⟨u, rfl, rx⟩ := vals1 r
  obtain ⟨as, rd, nb⟩ := DE.reads I hd rx
  cases rx
  refine repr_of_reads' rd hs (fun _ hm => ?_) hg (by omega) (fun _ _ e => e) (fun h' u tk hk => ⟨.str _, H, I.kept (h' := h') (t' := tk) hk, ⟨_, rfl⟩, q⟩) hz
  obtain ⟨o, ho⟩ := hn
  exact nb _ hm (I.bs _ _ (I.ok.mod.kin _ _ ho)).2
end
end MC

set_option Elab.async false
set_option linter.all false
set_option maxRecDepth 100000
set_option maxHeartbeats 4000000
/-! MI: the order of first asks. -/
namespace MC
open PySem PySem.Spec L2
def addF (acc : List Str) (z : Str) : List Str := if z ∈ acc then acc else acc ++ [z]
def firstsL (l : List Str) : List Str := l.foldl addF []
theorem firstsL_snoc (l : List Str) (z : Str) : firstsL (l ++ [z]) = addF (firstsL l) z := by
  unfold firstsL; rw [List.foldl_append]; rfl
theorem snoc_ind {P : List Str → Prop} (h0 : P []) (hs : ∀ l z, P l → P (l ++ [z])) : ∀ l, P l := by
  intro l
  have main : ∀ r : List Str, P r.reverse := fun r => by
    induction r with
    | nil => exact h0
    | cons x r ih => rw [List.reverse_cons]; exact hs _ _ ih
  have := main l.reverse
  rwa [List.reverse_reverse] at this
theorem mem_firstsL (z : Str) (l : List Str) : z ∈ firstsL l ↔ z ∈ l := by
  refine snoc_ind (P := fun l => z ∈ firstsL l ↔ z ∈ l) (by simp [firstsL]) (fun l y ih => ?_) l
  rw [firstsL_snoc]
  unfold addF
  by_cases h : y ∈ firstsL l
  · rw [if_pos h, ih]
    constructor
    · intro g; exact List.mem_append_left _ g
    · intro g
      rcases List.mem_append.mp g with g | g
      · exact g
      · rw [List.mem_singleton.mp g] at ih ⊢
        exact ih.mp h
  · rw [if_neg h]
    simp only [List.mem_append, List.mem_singleton, ih]
theorem firstsL_nodup (l : List Str) : (firstsL l).Nodup := by
  refine snoc_ind (P := fun l => (firstsL l).Nodup) (by simp [firstsL]) (fun l y ih => ?_) l
  rw [firstsL_snoc]
  unfold addF
  by_cases h : y ∈ firstsL l
  · rw [if_pos h]; exact ih
  · rw [if_neg h, List.nodup_append]
    refine ⟨ih, by simp, ?_⟩
    intro a ha b hb e
    rw [List.mem_singleton.mp hb] at e
    exact h (e ▸ ha)
theorem fold_add (acc l : List Str) : l.foldl addF acc = acc ++ (firstsL l).filter (fun z => decide (z ∉ acc)) := by
  refine snoc_ind (P := fun l => l.foldl addF acc = acc ++ (firstsL l).filter (fun z => decide (z ∉ acc))) (by simp [firstsL]) (fun l y ih => ?_) l
  rw [List.foldl_append, ih, firstsL_snoc]
  show addF (acc ++ (firstsL l).filter (fun z => decide (z ∉ acc))) y = acc ++ (addF (firstsL l) y).filter (fun z => decide (z ∉ acc))
  unfold addF
  by_cases ha : y ∈ acc
  · rw [if_pos (List.mem_append_left _ ha)]
    by_cases h : y ∈ firstsL l
    · rw [if_pos h]
    · rw [if_neg h, List.filter_append]; simp [ha]
  · by_cases h : y ∈ firstsL l
    · rw [if_pos h, if_pos (List.mem_append_right _ (List.mem_filter.mpr ⟨h, by simpa using ha⟩))]
    · rw [if_neg h, if_neg (fun g => by
        rcases List.mem_append.mp g with g | g
        · exact ha g
        · exact h (List.mem_filter.mp g).1), List.filter_append]
      simp [ha, List.append_assoc]
theorem firstsL_append (a b : List Str) : firstsL (a ++ b) = firstsL a ++ (firstsL b).filter (fun z => decide (z ∉ firstsL a)) := by
  unfold firstsL
  rw [List.foldl_append]
  exact fold_add _ b
/-- what asks nothing new adds nothing -/
theorem firstsL_old {a b : List Str} (h : ∀ z ∈ b, z ∈ a) : firstsL (a ++ b) = firstsL a := by
  rw [firstsL_append, List.filter_eq_nil_iff.mpr, List.append_nil]
  intro z hz
  have := h z ((mem_firstsL z b).mp hz)
  simp [(mem_firstsL z a).mpr this]
theorem firstsL_rep {l : List Str} {t : Nat} (h : 1 ≤ t) : firstsL (List.replicate t l).flatten = firstsL l := by
  obtain ⟨n, rfl⟩ : ∃ n, t = n + 1 := ⟨t - 1, by omega⟩
  rw [List.replicate_succ, List.flatten_cons]
  refine firstsL_old fun z hz => ?_
  obtain ⟨m, hm, hz2⟩ := List.mem_flatten.mp hz
  rw [(List.mem_replicate.mp hm).2] at hz2
  exact hz2
theorem rep_reverse (l : List Str) (t : Nat) : (List.replicate t l).flatten.reverse = (List.replicate t l.reverse).flatten := by
  rw [List.reverse_flatten, List.map_replicate, List.reverse_replicate]
/-- the same first asks, the same last ones -/
def Al (a b : List Str) : Prop := firstsL a = firstsL b ∧ firstsL a.reverse = firstsL b.reverse
theorem Al.append {a a' b b' : List Str} (h : Al a a') (k : Al b b') : Al (a ++ b) (a' ++ b') := by
  refine ⟨?_, ?_⟩
  · rw [firstsL_append, firstsL_append, h.1, k.1]
  · rw [List.reverse_append, List.reverse_append, firstsL_append, firstsL_append, h.2, k.2]
theorem Al.rep {a a' : List Str} (h : Al a a') {t t' : Nat} (ht : 1 ≤ t) (ht' : 1 ≤ t') : Al (List.replicate t a).flatten (List.replicate t' a').flatten := by
  refine ⟨?_, ?_⟩
  · rw [firstsL_rep ht, firstsL_rep ht', h.1]
  · rw [rep_reverse, rep_reverse, firstsL_rep ht, firstsL_rep ht', h.2]
mutual
/-- each again said twice at most, in lists -/
def twR : PyData → PyData
  | .list xs => .list (twPs xs)
  | .tuple xs => .list (twPs xs)
  | d => d
def twP : PyData → PyData
  | .tuple [r, .int t] => .tuple [twR r, .int (min 2 t)]
  | d => d
def twPs : List PyData → List PyData
  | [] => []
  | x :: xs => twP x :: twPs xs
end
mutual
theorem twR_al : ∀ d : PyData, rowD d = true → Al (outR (twR d)) (outR d) ∧ rowD (twR d) = true ∧ dNil (twR d) = dNil d
  | .list xs, h => by
    obtain ⟨h1, h2, h3⟩ := twPs_al xs h
    exact ⟨h1, h2, by cases xs <;> rfl⟩
  | .tuple xs, h => by
    obtain ⟨h1, h2, h3⟩ := twPs_al xs h
    exact ⟨h1, h2, by cases xs <;> rfl⟩
  | .none, h => by simp [rowD] at h
  | .bool _, h => by simp [rowD] at h
  | .int _, h => by simp [rowD] at h
  | .str _, h => by simp [rowD] at h
  | .dict _, h => by simp [rowD] at h
termination_by d => 2 * wD d
decreasing_by all_goals (simp only [wD]; omega)
theorem twP_al : ∀ d : PyData, partD d = true → Al (outP (twP d)) (outP d) ∧ partD (twP d) = true
  | .str z, h => ⟨⟨rfl, rfl⟩, h⟩
  | .tuple [r, .int t], h => by
    simp only [partD, timesOk, Bool.and_eq_true, decide_eq_true_eq, Bool.not_eq_true'] at h
    obtain ⟨⟨⟨t1, t2⟩, hn⟩, hr⟩ := h
    obtain ⟨h1, h2, h3⟩ := twR_al r hr
    refine ⟨?_, ?_⟩
    · show Al (List.replicate (min 2 t).toNat (outR (twR r))).flatten (List.replicate t.toNat (outR r)).flatten
      exact h1.rep (by omega) (by omega)
    · show (timesOk (min 2 t) && !dNil (twR r) && rowD (twR r)) = true
      rw [h3, h2, hn]
      have : timesOk (min 2 t) = true := by
        simp only [timesOk, Bool.and_eq_true, decide_eq_true_eq]
        omega
      rw [this]
      rfl
  | .tuple [], h => by cases (show false = true from h)
  | .tuple [_], h => by cases (show false = true from h)
  | .tuple [_, .none], h => by cases (show false = true from h)
  | .tuple [_, .bool _], h => by cases (show false = true from h)
  | .tuple [_, .str _], h => by cases (show false = true from h)
  | .tuple [_, .list _], h => by cases (show false = true from h)
  | .tuple [_, .tuple _], h => by cases (show false = true from h)
  | .tuple [_, .dict _], h => by cases (show false = true from h)
  | .tuple (_ :: _ :: _ :: _), h => by rcases partD_cases h with ⟨z, e, _⟩ | ⟨r, t, e, _⟩ <;> cases e
  | .none, h => by cases (show false = true from h)
  | .bool _, h => by cases (show false = true from h)
  | .int _, h => by cases (show false = true from h)
  | .list _, h => by cases (show false = true from h)
  | .dict _, h => by cases (show false = true from h)
termination_by d => 2 * wD d
decreasing_by all_goals (simp only [wD, wDs]; omega)
theorem twPs_al : ∀ xs : List PyData, partsD xs = true → Al (outPs (twPs xs)) (outPs xs) ∧ partsD (twPs xs) = true ∧ (twPs xs).length = xs.length
  | [], _ => ⟨⟨rfl, rfl⟩, rfl, rfl⟩
  | x :: xs, h => by
    simp only [partsD, Bool.and_eq_true] at h
    obtain ⟨h1, h2⟩ := twP_al x h.1
    obtain ⟨k1, k2, k3⟩ := twPs_al xs h.2
    refine ⟨?_, ?_, ?_⟩
    · simp only [twPs, outPs]; exact h1.append k1
    · simp only [twPs, partsD, h2, k2, Bool.and_self]
    · simp only [twPs, List.length_cons, k3]
termination_by xs => 2 * wDs xs + 1
decreasing_by all_goals (have := wD_pos x; simp only [wDs]; omega)
end
end MC

set_option Elab.async false
set_option linter.all false
set_option maxRecDepth 100000
set_option maxHeartbeats 4000000
/-! MJ: a list or a tuple from its end. -/
namespace MC
open PySem PySem.Spec PyProof.Rows
section
variable {prog : Program} {w : World} {A : Around} {E : Value → Shared → Prop} {s : Shared}
theorem rev_bounds (n : Nat) : Builtin.Slice.sliceAdjust none none (-1) (n : Int) = ((n : Int) - 1, -1) := by
  simp [Builtin.Slice.sliceAdjust]
theorem rev_places (n : Nat) : Builtin.Slice.slicePlaces ((n : Int) - 1) (-1) (-1) = n := by
  unfold Builtin.Slice.slicePlaces
  by_cases h : n = 0
  · subst h; decide
  · simp
    omega
theorem rev_pick (xs : Array Value) : ((List.range xs.size).filterMap fun (k : Nat) => xs[((xs.size : Int) - 1 + (k : Int) * -1).toNat]?).toArray = xs.toList.reverse.toArray := by
  have e : (fun (k : Nat) => xs[((xs.size : Int) - 1 + (k : Int) * -1).toNat]?) = (xs[·]?) ∘ fun k => xs.size - 1 - k := by
    funext k
    show xs[((xs.size : Int) - 1 + (k : Int) * -1).toNat]? = xs[xs.size - 1 - k]?
    rw [show ((xs.size : Int) - 1 + (k : Int) * -1).toNat = xs.size - 1 - k by omega]
  rw [e, ← List.filterMap_map, PySem.W.krv_range, List.filterMap_reverse, PySem.W.krv_all]
theorem rev_applied {sl : Addr} {vl vu vs : Value} {n : Nat} {Q : Int × Int × Nat → Shared → Prop} (hs : s.heap.IsSliceOf sl vl vu vs) (pl : IsPart vl none) (pu : IsPart vu none) (ps : IsPart vs (some (-1)))
    (h : Q ((n : Int) - 1, -1, n) s) : wpAny (model prog w) A (Builtin.Slice.sliceApplied (.ref sl) (pure (n : Int))) Q E s := by
  obtain ⟨o, ho, hc, hd⟩ := id hs
  unfold Builtin.Slice.sliceApplied; unfold Builtin.Slice.sliceFields
  refine wpAny_bind (wpAny_bind (wpAny_field ho hd (x := vl) rfl (wpAny_bind (wpAny_field ho hd (x := vu) rfl (wpAny_bind (wpAny_field ho hd (x := vs) rfl (wpAny_pure ?_)))))))
  refine wpAny_bind (HT.slicePart_ ps ?_)
  show wpAny _ _ (if ((-1 : Int) == 0) = true then _ else _) _ _ s
  rw [if_neg (by decide)]
  refine wpAny_bind (HT.slicePart_ pl (wpAny_bind (HT.slicePart_ pu (wpAny_bind (wpAny_pure ?_)))))
  show wpAny _ _ (match Builtin.Slice.sliceAdjust none none (-1) (n : Int) with | (a, b) => pure (a, (-1 : Int), Builtin.Slice.slicePlaces a b (-1))) _ _ s
  rw [rev_bounds n]
  show wpAny _ _ (pure ((n : Int) - 1, (-1 : Int), Builtin.Slice.slicePlaces ((n : Int) - 1) (-1) (-1))) _ _ s
  rw [rev_places]
  exact wpAny_pure h
theorem tup_rev {t sl : Addr} {items : Array Value} {vl vu vs : Value} {Q : Value → Shared → Prop} (ht : IsTup s.heap t items) (hs : s.heap.IsSliceOf sl vl vu vs) (pl : IsPart vl none) (pu : IsPart vu none) (ps : IsPart vs (some (-1)))
    (h : Q (.ref s.heap.objs.size) { s with heap := s.heap.push { cls := .type "tuple", data := .seq items.toList.reverse.toArray } }) (hz : items.size ≤ sizeLine) : wpAny (model prog w) A (getItem (.ref t) (.ref sl)) Q E s := by
  have ok : sizeOk (.seq items.toList.reverse.toArray) := by
    (show items.toList.reverse.toArray.size ≤ sizeLine); skip
    rw [List.size_toArray, List.length_reverse, Array.length_toList]
    exact hz
  obtain ⟨o, ho, hc, hd⟩ := id hs
  have ty : s.TypeIs (.ref sl) "slice" := ⟨o, ho, hc⟩
  unfold getItem; (try with_reducible refine wpAny_holding ?_); (first | refine wpAny_bind (wpAny_pure ?_) | skip); refine wpAny_bind (wpAny_sequenceKey ht.typeIs (by decide) ?_)
  refine wpAny_bind (wpAny_callSpecial?_slot (name := Str.ofString "__getitem__") ht.typeIs PyProof.Rows.slot_tuple_getitem (wpAny_call_entry PyProof.Rows.slot_tuple_getitem ht.typeIs entry_tuple_getitem ?_ (args_tuple_getitem _ _)))
  (show wpAny _ _ (Builtin.Tuple.tupleItemsOf (.ref t) >>= _) _ _ s); refine wpAny_bind (tupleItemsOf_ ht (wpAny_bind (wpAny_typeOf ty ?_))); rw [if_pos (by decide)]
  refine wpAny_bind (rev_applied hs pl pu ps ?_)
  have no : ¬ ((((items.size : Int) - 1) == 0 && (-1 : Int) == 1 && items.size == items.size) = true) := by simp
  show wpAny _ _ (if (((items.size : Int) - 1) == 0 && (-1 : Int) == 1 && items.size == items.size) = true then _ else _) _ _ s
  rw [if_neg no, rev_pick]
  (first | (exact wpAny_bind (m := Builtin.Tuple.tupleExact _) (wpAny_newObj_type (wpAny_pure ⟨_, rfl, wpAny_pure h⟩) ok)) | (exact wpAny_bind (m := Builtin.Tuple.tupleExact _) (wpAny_newObj_type (wpAny_bind (wpAny_pure (wpAny_pure ⟨_, rfl, wpAny_pure h⟩))) ok)) | (exact wpAny_bind (wpAny_bind (m := Builtin.Tuple.tupleExact _) (wpAny_newObj_type (wpAny_pure (wpAny_pure ⟨_, rfl, wpAny_pure h⟩)) ok))) | (exact wpAny_bind (wpAny_bind (m := Builtin.Tuple.tupleExact _) (wpAny_newObj_type (wpAny_pure ⟨_, rfl, wpAny_pure h⟩) ok))))
end
end MC
namespace MC
open PySem PySem.Spec L2
open PyProof.Rows hiding St
/-- xs[::-1] of a list or a tuple -/
def tRevX (te : TE) : TE := fun σ H Q => te σ H fun x H1 => ∃ a xs, x = .ref a ∧ SqX H1 a xs ∧ ∀ b H2, Same H1 H2 → SqX H2 b xs.reverse → Q (.ref b) H2
theorem pe_revX {X : Cx} {e : Expr} {te : TE} {k : Nat} {p1 p2 p3 pos : Pos} (he : PE X e te)
    (ho : ∀ a b, subscripted (.Slice none none (some (.UnaryOp .USub (.Constant (.int 1) k p1) p2)) p3) false (.ref a) (.ref b) = operate [.ref a, .ref b] (getItem (.ref a) (.ref b)) := by intro a b; with_unfolding_all rfl)
    : PE X (.Subscript e (.Slice none none (some (.UnaryOp .USub (.Constant (.int 1) k p1) p2)) p3) pos) (tRevX te) := by
  refine ⟨fun pins s σ H Q I h => ?_⟩
  have minus : PO X (some (.UnaryOp .USub (.Constant (.int 1) k p1) p2)) (tPart (tUn (rU fun j => .int (-j)) (tC (.int 1)))) := po_some (pe_un un_neg pe_int)
  refine Subscript_ (thn (he.run pins s σ H _ I h) fun v s1 z => ?_)
  obtain ⟨x, H1, I1, r1, a, xs, rfl, hx, q⟩ := z
  refine wpAny_Slice (thn (po_none.run pins s1 σ H1 (fun o H' => o = none ∧ H' = H1) I1 ⟨rfl, rfl⟩) fun vl s2 z => ?_)
  obtain ⟨_, _, I2, pl, rfl, rfl⟩ := z
  refine thn (po_none.run pins s2 σ _ (fun o H' => o = none ∧ H' = _) I2 ⟨rfl, rfl⟩) fun vu s3 z => ?_
  obtain ⟨_, H3, I3, pu, rfl, e3⟩ := z
  subst e3
  refine thn (minus.run pins s3 σ _ (fun o H' => o = some (-1) ∧ H' = _) I3 ⟨1, rfl, -1, rfl, rfl, rfl⟩) fun vs s4 z => ?_
  obtain ⟨_, H4, I4, ps, rfl, e4⟩ := z
  subst e4
  cases r1
  have I5 := I4.kept (h' := s4.heap.push { cls := .type "slice", data := .fields #[vl, vu, vs] }) (t' := s4.toks) fun b ob q => Heap.get?_push_of_some _ q
  have fresh := I5.hok.fresh (Nat.le_refl _)
  rcases hx with hx | hx
  · obtain ⟨its, r, ht, hz⟩ := I5.list (SqL.of hx)
    have hl := r.length
    refine tail_any (ops := [.ref a, .ref s4.heap.objs.size]) ht.isList.typeIs (PySem.slot_list_getitem.lookup) ?_ (ho _ _)
    have il : its.toArray.size ≤ sizeLine := by rw [List.size_toArray]; omega
    refine wpAny_getItem_list_slice ht.isList (Heap.IsSliceOf.new _ vl vu vs) pl pu ps (by decide) ?_ il; rw [PySem.W.krv_pick]
    exact ⟨.ref _, _, I5.laid (o := .lst xs.reverse) (t' := s4.toks) (fun b ob q => Heap.get?_push_of_some _ q) (Nat.le_refl _) ⟨by rw [List.length_reverse]; exact hz, _, 0, r.reverse, Heap.get?_push_size _ rfl⟩, rfl, q _ _ (fun b o e => by rw [upd_ne (ne_of_none e fresh)]; exact e) (.inl upd_same)⟩
  · obtain ⟨its, r, ht, hz⟩ := I5.tuple (SqT.of hx)
    have hl := r.length
    refine tail_any (ops := [.ref a, .ref s4.heap.objs.size]) ht.typeIs (PyProof.Rows.slot_tuple_getitem.lookup) ?_ (ho _ _)
    refine tup_rev ht (Heap.IsSliceOf.new _ vl vu vs) pl pu ps ?_ (by rw [List.size_toArray]; omega)
    exact ⟨.ref _, _, I5.laid (o := .tup xs.reverse) (t' := s4.toks) (fun b ob q => Heap.get?_push_of_some _ q) (Nat.le_refl _) ⟨by rw [List.length_reverse]; exact hz, _, r.reverse, IsTup.new _ _⟩, rfl, q _ _ (fun b o e => by rw [upd_ne (ne_of_none e fresh)]; exact e) (.inr upd_same)⟩
end MC

set_option Elab.async false
set_option linter.all false
set_option maxRecDepth 100000
set_option maxHeartbeats 4000000
/-! MK: tables of counts, in the order of first asks. -/
namespace MC
open PySem PySem.Spec L2
def tabL (ks : List Str) (f : Str → Int) : List (Str × Int) := ks.map fun z => (z, f z)
def cntsL (l : List Str) : List (Str × Int) := tabL (firstsL l) fun z => (l.count z : Nat)
theorem valV_tab (ks : List Str) (f : Str → Int) (z : Str) : valV (dctV (tabL ks f)) (.inr z) = if z ∈ ks then some (.int (f z)) else none := by
  induction ks with
  | nil => rfl
  | cons k ks ih =>
    show valV ((Sum.inr k, V.int (f k)) :: dctV (tabL ks f)) (.inr z) = _
    by_cases e : k = z
    · subst e
      rw [valV_pos rfl, if_pos (by simp)]
    · rw [valV_neg (fun u : (Sum.inr k : Key) = .inr z => e (by injection u)), ih]
      simp [show ¬ z = k from fun u => e u.symm]
theorem put_tab {ks : List Str} (f : Str → Int) (z : Str) (v : Int) : putK (dctV (tabL ks f)) (.inr z) (.int v) = dctV (tabL (addF ks z) fun y => if y = z then v else f y) := by
  unfold putK
  rw [valV_any, valV_tab]
  unfold addF
  by_cases h : z ∈ ks
  · rw [if_pos h, if_pos h]
    show (if true = true then _ else _) = _
    rw [if_pos rfl]
    unfold dctV tabL
    rw [List.map_map, List.map_map, List.map_map]
    apply List.map_congr_left
    intro y hy
    show (if (Sum.inr y : Key) = .inr z then (Sum.inr y, V.int v) else (Sum.inr y, V.int (f y))) = (Sum.inr y, V.int (if y = z then v else f y))
    by_cases e : y = z
    · rw [if_pos e, if_pos (by rw [e])]
    · rw [if_neg e, if_neg (fun u => e (by injection u))]
  · rw [if_neg h, if_neg h]
    show (if false = true then _ else _) = _
    rw [if_neg (by decide)]
    unfold dctV tabL
    rw [List.map_append, List.map_append, List.map_map, List.map_map]
    congr 1
    · apply List.map_congr_left
      intro y hy
      have : y ≠ z := fun e => h (e ▸ hy)
      show (Sum.inr y, V.int (f y)) = (Sum.inr y, V.int (if y = z then v else f y))
      rw [if_neg this]
    · simp
theorem tab_congr {ks : List Str} {f g : Str → Int} (h : ∀ z ∈ ks, f z = g z) : tabL ks f = tabL ks g := List.map_congr_left fun z hz => by rw [h z hz]
/-- one ask more -/
theorem put_count (l : List Str) (z : Str) : putK (dctV (cntsL l)) (.inr z) (.int (((l.count z : Nat) : Int) + 1)) = dctV (cntsL (l ++ [z])) := by
  unfold cntsL
  rw [put_tab, firstsL_snoc]
  congr 1
  refine tab_congr fun y _ => ?_
  rw [List.count_append, List.count_singleton]
  by_cases e : y = z
  · subst e; simp
  · rw [if_neg e]; simp [show ¬ z = y from fun u => e u.symm]
theorem get_count (l : List Str) (z : Str) : (valV (dctV (cntsL l)) (.inr z)).getD (.int 0) = .int (l.count z : Nat) := by
  unfold cntsL
  rw [valV_tab]
  by_cases h : z ∈ firstsL l
  · rw [if_pos h]; rfl
  · rw [if_neg h]
    have : l.count z = 0 := List.count_eq_zero.mpr (fun g => h ((mem_firstsL z l).mpr g))
    rw [this]
    rfl
theorem drop_split {α : Type} {xs : List α} (j : Nat) {x : α} (h : xs[j]? = some x) : xs = xs.take j ++ x :: xs.drop (j + 1) := by
  rw [← drop_at h, List.take_append_drop]
/-! what an again adds, thing by thing -/
def midL (l m : List Str) (t : Int) (j : Nat) : List (Str × Int) := tabL (((firstsL m).take j).foldl addF (firstsL l)) fun y => ((l.count y : Nat) : Int) + if y ∈ (firstsL m).take j then (m.count y : Nat) * t else 0
theorem mem_fold (z : Str) : ∀ (zs acc : List Str), z ∈ zs.foldl addF acc ↔ z ∈ acc ∨ z ∈ zs
  | [], acc => by simp
  | y :: zs, acc => by
    rw [List.foldl_cons, mem_fold z zs]
    unfold addF
    by_cases h : y ∈ acc
    · rw [if_pos h]
      constructor
      · intro g; exact g.imp id (List.mem_cons_of_mem _)
      · intro g
        rcases g with g | g
        · exact .inl g
        · rcases List.mem_cons.mp g with rfl | g
          · exact .inl h
          · exact .inr g
    · rw [if_neg h]
      simp [or_assoc]
theorem mid_zero (l m : List Str) (t : Int) : midL l m t 0 = cntsL l := by
  unfold midL cntsL
  exact tab_congr fun y _ => by simp
theorem mid_get {l m : List Str} {t : Int} {j : Nat} {z : Str} (h : (firstsL m)[j]? = some z) : (valV (dctV (midL l m t j)) (.inr z)).getD (.int 0) = .int (l.count z : Nat) := by
  have nd := firstsL_nodup m
  have no : z ∉ (firstsL m).take j := fun g => by
    rw [drop_split j h] at nd
    exact (List.nodup_append.mp nd).2.2 z g z (by simp) rfl
  unfold midL
  rw [valV_tab]
  by_cases k : z ∈ ((firstsL m).take j).foldl addF (firstsL l)
  · rw [if_pos k]
    show V.int _ = _
    rw [if_neg no, Int.add_zero]
  · rw [if_neg k]
    have : z ∉ l := fun g => k ((mem_fold z _ _).mpr (.inl ((mem_firstsL z l).mpr g)))
    rw [List.count_eq_zero.mpr this]
    rfl
theorem mid_put {l m : List Str} {t : Int} {j : Nat} {z : Str} (h : (firstsL m)[j]? = some z) : putK (dctV (midL l m t j)) (.inr z) (.int (((l.count z : Nat) : Int) + (m.count z : Nat) * t)) = dctV (midL l m t (j + 1)) := by
  have tk : (firstsL m).take (j + 1) = (firstsL m).take j ++ [z] := by rw [List.take_succ, h]; rfl
  unfold midL
  rw [put_tab, tk, List.foldl_append]
  congr 1
  refine tab_congr fun y _ => ?_
  by_cases e : y = z
  · subst e; simp
  · rw [if_neg e]
    simp [e]
theorem mid_end {l m : List Str} {t : Nat} (h : 1 ≤ t) : midL l m t (firstsL m).length = cntsL (l ++ (List.replicate t m).flatten) := by
  unfold midL cntsL
  rw [List.take_of_length_le (Nat.le_refl _), firstsL_append, firstsL_rep h, fold_add]
  have e : (firstsL (firstsL m)) = firstsL m := by
    have main : ∀ zs acc : List Str, (acc ++ zs).Nodup → zs.foldl addF acc = acc ++ zs := by
      intro zs
      induction zs with
      | nil => intro acc _; simp
      | cons y zs ih =>
        intro acc nd
        rw [List.foldl_cons]
        have ny : y ∉ acc := fun g => (List.nodup_append.mp nd).2.2 y g y (by simp) rfl
        unfold addF
        rw [if_neg ny]
        have := ih (acc ++ [y]) (by simpa [List.append_assoc] using nd)
        unfold addF at this
        rw [this, List.append_assoc]
        rfl
    have := main (firstsL m) [] (by simpa using firstsL_nodup m)
    simpa [firstsL] using this
  rw [e]
  refine tab_congr fun y _ => ?_
  rw [List.count_append, rep_count]
  by_cases k : y ∈ firstsL m
  · rw [if_pos k, Int.natCast_add, Int.natCast_mul, Int.mul_comm]
  · rw [if_neg k, List.count_eq_zero.mpr (fun g => k ((mem_firstsL y m).mpr g))]
    simp
end MC

set_option Elab.async false
set_option linter.all false
set_option maxRecDepth 100000
set_option maxHeartbeats 4000000
/-! MP: pots of chance (a list of three numbers); what stays; removing from a list, a slice of a list set anew, powers of great numbers. -/
namespace MC
open PySem PySem.Spec L2
open PyProof.Rows hiding St
/-! ### what stays beside a pot -/
def Oth (t : Addr) (H H' : Hp) : Prop := ∀ b o, b ≠ t → H b = some o → H' b = some o
theorem Oth.refl (t : Addr) (H : Hp) : Oth t H H := fun _ _ _ h => h
theorem Oth.trans {t : Addr} {H H1 H2 : Hp} (a : Oth t H H1) (b : Oth t H1 H2) : Oth t H H2 := fun x o h1 h => b x o h1 (a x o h1 h)
theorem Oth.same {t : Addr} {H H1 H2 : Hp} (a : Oth t H H1) (b : Same H1 H2) : Oth t H H2 := fun x o h1 h => b x o (a x o h1 h)
theorem Oth.of {t : Addr} {H H2 : Hp} (b : Same H H2) : Oth t H H2 := fun x o _ h => b x o h
theorem Oth.updt {t : Addr} {H H1 : Hp} (a : Oth t H H1) (o : HO) : Oth t H (upd H1 t o) := fun x u h1 h => by rw [upd_ne h1]; exact a x u h1 h
theorem Oth.updn {t : Addr} {H H1 : Hp} (a : Oth t H H1) {p : Addr} (hp : H p = none) (o : HO) : Oth t H (upd H1 p o) := fun x u h1 h => by rw [upd_ne (ne_of_none h hp)]; exact a x u h1 h
/-- what is no longer free was not free -/
theorem Oth.free {t : Addr} {H H' : Hp} (a : Oth t H H') {p : Addr} (ht : H' t ≠ none) (hp : H' p = none) : H p = none := by
  match e : H p with
  | none => rfl
  | some o =>
    by_cases z : p = t
    · exact absurd (z ▸ hp) ht
    · rw [a p o z e] at hp; cases hp
def Pot (H : Hp) (t : Addr) (N : Nat) : Prop := ∃ a b c : Int, H t = some (.lst [.int a, .int b, .int c]) ∧ 0 ≤ b ∧ b < 10 ^ 45 ∧ 0 ≤ c ∧ c ≤ (N : Int)
theorem Pot.mono {H : Hp} {t : Addr} {N M : Nat} (h : Pot H t N) (hm : N ≤ M) : Pot H t M := by
  obtain ⟨a, b, c, h1, h2, h3, h4, h5⟩ := h
  exact ⟨a, b, c, h1, h2, h3, h4, by omega⟩
theorem Pot.same {H H' : Hp} {t : Addr} {N : Nat} (h : Pot H t N) (e : Same H H') : Pot H' t N := by
  obtain ⟨a, b, c, h1, r⟩ := h
  exact ⟨a, b, c, e _ _ h1, r⟩
theorem Pot.at {H : Hp} {t : Addr} {N : Nat} (h : Pot H t N) : H t ≠ none := by
  obtain ⟨a, b, c, h1, r⟩ := h
  rw [h1]; exact fun z => nomatch z
theorem Pot.upd {H : Hp} {t p : Addr} {N : Nat} {o : HO} (h : Pot H t N) (h1 : p ≠ t) : Pot (L2.upd H p o) t N := by
  obtain ⟨a, b, c, k1, r⟩ := h
  exact ⟨a, b, c, by rw [upd_ne h1.symm]; exact k1, r⟩
theorem Pot.ne {H : Hp} {t p : Addr} {N : Nat} (h : Pot H t N) (hp : H p = none) : p ≠ t := fun z => h.at (z ▸ hp)
/-- a number from 0 on below k is drawn -/
def spDraw : Sp := fun vs H Q _ => ∃ (t : Addr) (N : Nat) (k : Int), vs = [.ref t, .int k] ∧ Pot H t N ∧ N ≤ 10 ^ 12 ∧ 1 ≤ k ∧ k ≤ 10 ^ 31 ∧
  ∀ r H', 0 ≤ r → r < k → Oth t H H' → Pot H' t (N + 1) → Q (.int r) H'
theorem spDraw_len : ∀ vs H Q E, spDraw vs H Q E → vs.length = 2 := fun vs H Q E h => by
  obtain ⟨t, N, k, rfl, _⟩ := h
  rfl
theorem spDraw_ok {k : Int} (h1 : 1 ≤ k) (h2 : k ≤ 10 ^ 31) : CDivW 0 k := wide_div (b := 200) (by omega) (Nat.lt_of_le_of_lt (show k.natAbs ≤ 10 ^ 31 by omega) (by decide)) (by decide) (by decide)

/-! ### the heap without what may change -/
def Hid (S : List Addr) (H : Hp) : Hp := fun a => if a ∈ S then none else H a
theorem hid_in {S : List Addr} {H : Hp} {a : Addr} (h : a ∈ S) : Hid S H a = none := if_pos h
theorem hid_out {S : List Addr} {H : Hp} {a : Addr} (h : a ∉ S) : Hid S H a = H a := if_neg h
theorem hid_some {S : List Addr} {H : Hp} {a : Addr} {o : HO} (h : Hid S H a = some o) : a ∉ S ∧ H a = some o := by
  by_cases q : a ∈ S
  · rw [hid_in q] at h; cases h
  · rw [hid_out q] at h; exact ⟨q, h⟩
theorem hid_same {S : List Addr} {H : Hp} : Same (Hid S H) H := fun b o h => (hid_some h).2
theorem Same.hid {S : List Addr} {H H' : Hp} (e : Same H H') : Same (Hid S H) (Hid S H') := fun b o h => by
  obtain ⟨h1, h2⟩ := hid_some h
  rw [hid_out h1]; exact e _ _ h2
theorem Oth.hid {t : Addr} {H H' : Hp} (e : Oth t H H') : Same (Hid [t] H) (Hid [t] H') := fun b o h => by
  obtain ⟨n, q⟩ := hid_some h
  rw [hid_out n]; exact e _ _ (by simpa using n) q
theorem hid_of {t : Addr} {H H' : Hp} (e : Same (Hid [t] H) (Hid [t] H')) : Oth t H H' := fun b o hb h => by
  have n : b ∉ [t] := by simpa using hb
  have := e b o (by rw [hid_out n]; exact h)
  rw [hid_out n] at this
  exact this

/-! ### powers -/
/-- i ** j: bits of i times j within the line -/
def CPowW (i j : Int) : Prop := 0 ≤ j ∧ j ≤ 1000 ∧ i.natAbs < 2 ^ 1000
theorem op_powW {X : Cx} : OpR X (binaryOp .Pow) (rI CPowW fun i j => .int (i ^ j.toNat)) := opI fun i j _ _ _ _ _ hc q => by
  obtain ⟨h0, h1, h2⟩ := hc
  refine PyProof.Rows.pow_int h0 ?_ q
  have b : Builtin.Int.intBits i ≤ i.natAbs.log2 + 1 := by
    unfold Builtin.Int.intBits
    split <;> omega
  have l := PySem.Flt.log2_lt_of (by decide) h2
  have h3 : (Builtin.Int.intBits i : Int) ≤ 1000 := by omega
  have h4 : (Builtin.Int.intBits i : Int) * j ≤ 1000 * 1000 := Int.mul_le_mul h3 h1 h0 (by decide)
  omega

/-! ### xs.remove(y) -/
def rRemF : V → List V → Hp → VK → Prop := fun x xs H Q => ∃ (l : Addr) (ys : List V) (y : V) (j : Nat) (z : V), x = .ref l ∧ xs = [y] ∧ H l = some (.lst ys) ∧ flatV y = true ∧ ys.all flatV = true ∧ ys[j]? = some z ∧ eqV z y = true ∧
  (∀ m z', m < j → ys[m]? = some z' → eqV z' y = false) ∧ Q .non (upd H l (.lst (ys.eraseIdx j)))
theorem mt_removeF {X : Cx} : MtM X "list.remove" rRemF := by
  intro pins s σ H x xs v us Q I rx rxs h
  obtain ⟨l, ys, y, j, z, rfl, rfl, hH, fy, fys, hz, hzj, hno, q⟩ := h
  cases rx
  obtain ⟨uy, rfl, ry⟩ := rxs.one
  obtain ⟨hzz, its, n, rv, hl, e⟩ := I.lstM hH
  obtain ⟨u, hu, ru⟩ := rv.get hz
  obtain ⟨hjl, hje⟩ := List.getElem?_eq_some_iff.mp hu
  have hj : j < its.toArray.size := by simpa using hjl
  refine call_meets PySem.F.slot_list_remove ⟨_, e, rfl⟩ PySem.F.entry_list_remove (PySem.F.args_list_remove_2 _ _) (SeqAt.list_removeAt l its.toArray n _ _ uy (eqU y) j hj ?_ (fun m hm hmj => ?_) (by rw [List.size_toArray]; omega)) ⟨e, fun u' hu' => mem_eqAt ry fy rv fys u' (by simpa using hu'), ?_⟩
  · rw [show its.toArray[j] = u by simpa using hje, eqU_of ru (flat_at fys hz)]; exact hzj
  · have hml : m < its.length := by simpa using hm
    have hy' : ys[m]? = some ys[m] := List.getElem?_eq_getElem (by omega)
    obtain ⟨u2, hu2, ru2⟩ := rv.get hy'
    obtain ⟨_, hme⟩ := List.getElem?_eq_some_iff.mp hu2
    rw [show its.toArray[m] = u2 by simpa using hme, eqU_of ru2 (flat_at fys hy')]; exact hno m _ hmj hy'
  · refine ⟨.non, _, I.lset (its' := its.eraseIdx j) (t' := s.toks) hH e ?_ (rv.eraseIdx j) ?_, rfl, q⟩
    · show its.toArray.eraseIdxIfInBounds j = (its.eraseIdx j).toArray
      rw [List.eraseIdxIfInBounds_toArray]
    · rw [List.length_eraseIdx]; split <;> omega
end MC

set_option Elab.async false
set_option linter.all false
set_option maxRecDepth 100000
set_option maxHeartbeats 4000000
/-! MU: the plain rule: things by their last asks, the latest first. -/
namespace MC
open PySem PySem.Spec L2
def lruL (l : List Str) : List Str := l.foldl (fun L z => z :: L.erase z) []
theorem lru_snoc (l : List Str) (z : Str) : lruL (l ++ [z]) = z :: (lruL l).erase z := by unfold lruL; rw [List.foldl_append]; rfl
theorem lru_nodup (l : List Str) : (lruL l).Nodup := by
  refine snoc_ind (P := fun l => (lruL l).Nodup) (by simp [lruL]) (fun l z ih => ?_) l
  rw [lru_snoc, List.nodup_cons]
  exact ⟨fun h => (List.Nodup.mem_erase_iff ih).mp h |>.1 rfl, ih.erase z⟩
theorem mem_lru (y : Str) (l : List Str) : y ∈ lruL l ↔ y ∈ l := by
  refine snoc_ind (P := fun l => y ∈ lruL l ↔ y ∈ l) (by simp [lruL]) (fun l z ih => ?_) l
  rw [lru_snoc, List.mem_cons, List.Nodup.mem_erase_iff (lru_nodup l), List.mem_append, List.mem_singleton, ih]
  by_cases e : y = z
  · simp [e]
  · simp [e]
theorem lru_len (l : List Str) : (lruL l).length ≤ l.length := by
  refine snoc_ind (P := fun l => (lruL l).length ≤ l.length) (by simp [lruL]) (fun l z ih => ?_) l
  rw [lru_snoc, List.length_cons, List.length_append]
  have := List.length_erase_le (a := z) (l := lruL l)
  simp only [List.length_cons, List.length_nil]
  omega
def depOf (L : List Str) (z : Str) : Option Nat := if z ∈ L then some (L.idxOf z) else none
def depL (l : List Str) : List (Option Nat) := (List.range l.length).map fun i => depOf (lruL (l.take i)) (l[i]?.getD Str.empty)
theorem depL_snoc (l : List Str) (z : Str) : depL (l ++ [z]) = depL l ++ [depOf (lruL l) z] := by
  unfold depL
  rw [List.length_append, List.length_singleton, List.range_succ, List.map_append]
  congr 1
  · refine List.map_congr_left fun i hi => ?_
    have il := List.mem_range.mp hi
    rw [List.take_append_of_le_length (by omega), List.getElem?_append_left il]
  · simp
theorem depL_len (l : List Str) : (depL l).length = l.length := by unfold depL; simp
theorem depL_take {l : List Str} {i : Nat} {z : Str} (h : l[i]? = some z) : depL (l.take (i + 1)) = depL (l.take i) ++ [depOf (lruL (l.take i)) z] := by
  rw [show l.take (i + 1) = l.take i ++ [z] by rw [List.take_succ, h]; rfl, depL_snoc]
theorem depOf_lt {l : List Str} {z : Str} {n : Nat} (h : depOf (lruL l) z = some n) : n < l.length := by
  unfold depOf at h
  split at h
  · rename_i m
    injection h with h
    have := List.idxOf_lt_length_of_mem m
    have := lru_len l
    omega
  · cases h
/-- missed with so many places -/
def missD (p : Int) : Option Nat → Bool
  | none => true
  | some n => decide (p ≤ (n : Int))
def missL (p : Int) (l : List Str) : List Nat := (List.range l.length).filter fun i => missD p ((depL l)[i]?.getD none)
theorem missL_snoc (p : Int) (l : List Str) (z : Str) : missL p (l ++ [z]) = missL p l ++ (if missD p (depOf (lruL l) z) = true then [l.length] else []) := by
  unfold missL
  rw [List.length_append, List.length_singleton, List.range_succ, List.filter_append]
  congr 1
  · refine List.filter_congr fun i hi => ?_
    have il := List.mem_range.mp hi
    rw [depL_snoc, List.getElem?_append_left (by rw [depL_len]; exact il)]
  · rw [depL_snoc, List.filter_cons, List.getElem?_append_right (by rw [depL_len]; exact Nat.le_refl _), depL_len]
    simp
theorem missL_take {p : Int} {l : List Str} {i : Nat} {z : Str} (h : l[i]? = some z) : missL p (l.take (i + 1)) = missL p (l.take i) ++ (if missD p (depOf (lruL (l.take i)) z) = true then [i] else []) := by
  have il := (List.getElem?_eq_some_iff.mp h).1
  rw [show l.take (i + 1) = l.take i ++ [z] by rw [List.take_succ, h]; rfl, missL_snoc, List.length_take, Nat.min_eq_left (Nat.le_of_lt il)]
/-! the law's rule: so many, the latest last -/
def keepL (p : Nat) (l : List Str) : List Str := ((lruL l).take p).reverse
theorem take_erase (p : Nat) : ∀ (L : List Str) (z : Str), L.Nodup → z ∈ L.take (p + 1) → (L.take (p + 1)).erase z = (L.erase z).take p
  | [], z, _, h => by simp at h
  | y :: L, z, nd, h => by
    rw [List.take_succ_cons] at h ⊢
    by_cases e : y = z
    · subst e
      rw [List.erase_cons_head, List.erase_cons_head]
    · have hz : z ∈ L.take p := by
        rcases List.mem_cons.mp h with h | h
        · exact absurd h.symm e
        · exact h
      rw [List.erase_cons_tail (by simpa using e), List.erase_cons_tail (by simpa using e)]
      cases p with
      | zero => simp at hz
      | succ p =>
        rw [List.take_succ_cons, take_erase p L z (List.nodup_cons.mp nd).2 hz]
theorem take_erase_not (p : Nat) : ∀ (L : List Str) (z : Str), z ∉ L.take (p + 1) → (L.erase z).take p = L.take p
  | [], z, _ => by simp
  | y :: L, z, h => by
    rw [List.take_succ_cons, List.mem_cons, not_or] at h
    rw [List.erase_cons_tail (by simpa using fun e => h.1 e.symm)]
    cases p with
    | zero => rfl
    | succ p => rw [List.take_succ_cons, List.take_succ_cons, take_erase_not p L z h.2]
/-- one ask more -/
theorem keep_snoc (p : Nat) (l : List Str) (z : Str) : keepL (p + 1) (l ++ [z]) = (if z ∈ keepL (p + 1) l then (keepL (p + 1) l).erase z ++ [z] else ((keepL (p + 1) l ++ [z]).drop ((keepL (p + 1) l).length + 1 - (p + 1)))) := by
  have mem : z ∈ keepL (p + 1) l ↔ z ∈ (lruL l).take (p + 1) := by unfold keepL; rw [List.mem_reverse]
  have nd := lru_nodup l
  have e0 : keepL (p + 1) (l ++ [z]) = (((lruL l).erase z).take p).reverse ++ [z] := by
    unfold keepL; rw [lru_snoc, List.take_succ_cons, List.reverse_cons]
  rw [e0]
  by_cases h : z ∈ keepL (p + 1) l
  · rw [if_pos h]
    rw [← take_erase p _ z nd (mem.mp h)]
    congr 1
    unfold keepL
    have nt : ((lruL l).take (p + 1)).Nodup := List.Sublist.nodup (List.take_sublist _ _) nd
    generalize (lruL l).take (p + 1) = L at nt
    rw [List.Nodup.erase_eq_filter nt, List.Nodup.erase_eq_filter ((List.reverse_perm _).nodup_iff.mpr nt), List.filter_reverse]
  · rw [if_neg h, take_erase_not p _ z (fun g => h (mem.mpr g))]
    have len : (keepL (p + 1) l).length = min (p + 1) (lruL l).length := by unfold keepL; rw [List.length_reverse, List.length_take]
    have tk : (lruL l).take p = ((lruL l).take (p + 1)).take p := by rw [List.take_take, Nat.min_eq_left (Nat.le_succ p)]
    rw [tk, List.drop_append_of_le_length (by omega)]
    congr 1
    unfold keepL
    rw [List.drop_reverse, List.length_reverse]
    by_cases g : p + 1 ≤ (lruL l).length
    · have e1 : ((lruL l).take (p + 1)).length = p + 1 := by rw [List.length_take]; omega
      rw [e1, show p + 1 - (p + 1 + 1 - (p + 1)) = p by omega]
    · have e1 : ((lruL l).take (p + 1)).length ≤ p := by rw [List.length_take]; omega
      rw [List.take_of_length_le (i := p) e1]
      congr 1
      exact (List.take_of_length_le (by omega)).symm
theorem miss_keep {p : Nat} (l : List Str) (z : Str) : missD ((p : Int) + 1) (depOf (lruL l) z) = decide (z ∉ keepL (p + 1) l) := by
  have mem : z ∈ keepL (p + 1) l ↔ z ∈ (lruL l).take (p + 1) := by unfold keepL; rw [List.mem_reverse]
  unfold depOf
  by_cases h : z ∈ lruL l
  · rw [if_pos h]
    show decide ((p : Int) + 1 ≤ ((lruL l).idxOf z : Nat)) = _
    have e : z ∈ (lruL l).take (p + 1) ↔ (lruL l).idxOf z < p + 1 := by
      have il := List.idxOf_lt_length_of_mem h
      constructor
      · intro g
        obtain ⟨j, hj⟩ := List.getElem?_of_mem g
        rw [List.getElem?_take] at hj
        split at hj
        · rename_i jl
          obtain ⟨jl2, hj2⟩ := List.getElem?_eq_some_iff.mp hj
          have := List.Nodup.idxOf_getElem (lru_nodup l) j jl2
          rw [hj2] at this
          omega
        · cases hj
      · intro g
        have : ((lruL l).take (p + 1))[(lruL l).idxOf z]? = some z := by
          rw [List.getElem?_take, if_pos g, List.getElem?_eq_getElem il, List.getElem_idxOf]
        exact List.mem_of_getElem? this
    have e2 := mem.trans e
    by_cases g : (lruL l).idxOf z < p + 1
    · rw [decide_eq_false (by omega), decide_eq_false (by simpa using e2.mpr g)]
    · rw [decide_eq_true (by omega)]
      exact (decide_eq_true (show ¬ z ∈ keepL (p + 1) l from fun h => g (e2.mp h))).symm
  · rw [if_neg h]
    have : z ∉ keepL (p + 1) l := fun g => h (List.mem_of_mem_take (mem.mp g))
    show true = _
    rw [decide_eq_true this]
/-! the law's depths: how many stand later -/
def lastP (l : List Str) (z : Str) : Int := (l.length : Int) - 1 - (l.reverse.idxOf z : Nat)
theorem lastP_snoc (l : List Str) (x z : Str) : lastP (l ++ [x]) z = if z = x then (l.length : Int) else lastP l z := by
  unfold lastP
  rw [List.reverse_append, List.length_append]
  show ((l.length + 1 : Nat) : Int) - 1 - ((x :: l.reverse).idxOf z : Nat) = _
  rw [List.idxOf_cons]
  by_cases e : z = x
  · subst e; simp
  · have : (x == z) = false := by simpa using fun h => e h.symm
    rw [this, if_neg e]
    simp only [cond_false, Nat.succ_eq_add_one]
    omega
theorem lastP_lt (l : List Str) (z : Str) : lastP l z < (l.length : Int) := by unfold lastP; omega
theorem lru_desc (l : List Str) : (lruL l).Pairwise fun a b => lastP l b < lastP l a := by
  refine snoc_ind (P := fun l => (lruL l).Pairwise fun a b => lastP l b < lastP l a) (by simp [lruL]) (fun l z ih => ?_) l
  rw [lru_snoc, List.pairwise_cons]
  have nd := lru_nodup l
  have ne : ∀ y ∈ (lruL l).erase z, y ≠ z := fun y hy => ((List.Nodup.mem_erase_iff nd).mp hy).1
  refine ⟨fun y hy => ?_, ?_⟩
  · rw [lastP_snoc, lastP_snoc, if_neg (ne y hy), if_pos rfl]
    exact lastP_lt l y
  · refine List.Pairwise.imp_of_mem (fun {a b} ha hb h => ?_) (List.Pairwise.sublist (List.erase_sublist) ih)
    rw [lastP_snoc, lastP_snoc, if_neg (ne a ha), if_neg (ne b hb)]
    exact h
theorem desc_count (f : Str → Int) : ∀ (L : List Str) (z : Str), (L.Pairwise fun a b => f b < f a) → z ∈ L → (L.filter fun y => decide (f z < f y)).length = L.idxOf z
  | [], z, _, h => by simp at h
  | y :: L, z, p, h => by
    rw [List.pairwise_cons] at p
    rw [List.filter_cons, List.idxOf_cons]
    by_cases e : y = z
    · subst e
      rw [decide_eq_false (by omega)]
      have : L.filter (fun x => decide (f y < f x)) = [] := by
        rw [List.filter_eq_nil_iff]
        intro x hx
        have := p.1 x hx
        simp; omega
      simp [this]
    · have hz : z ∈ L := by
        rcases List.mem_cons.mp h with h | h
        · exact absurd h.symm e
        · exact h
      have g := p.1 z hz
      have : (y == z) = false := by simpa using e
      rw [decide_eq_true g, this]
      simp only [if_true, List.length_cons, cond_false]
      rw [desc_count f L z p.2 hz]
theorem later_count {l : List Str} {z : Str} (h : z ∈ l) : ((firstsL l).filter fun y => decide (lastP l z < lastP l y)).length = (lruL l).idxOf z := by
  rw [← desc_count (lastP l) (lruL l) z (lru_desc l) ((mem_lru z l).mpr h)]
  refine List.Perm.length_eq (List.Perm.filter _ ?_)
  rw [List.perm_ext_iff_of_nodup (firstsL_nodup l) (lru_nodup l)]
  intro y
  rw [mem_firstsL, mem_lru]
theorem inV_strs (z : Str) (l : List Str) : inV (.str z) (l.map V.str) = decide (z ∈ l) := by
  unfold inV
  rw [List.any_map]
  induction l with
  | nil => rfl
  | cons y l ih =>
    rw [List.any_cons, ih]
    show ((y == z) || decide (z ∈ l)) = decide (z ∈ y :: l)
    by_cases e : y = z
    · subst e; simp
    · have : (y == z) = false := by simpa using e
      rw [this]
      simp [show ¬ z = y from fun u => e u.symm]
theorem flat_strs (l : List Str) : (l.map V.str).all flatV = true := by
  rw [List.all_map, List.all_eq_true]
  intro z _
  rfl
theorem erase_idx (L : List Str) (z : Str) (h : z ∈ L) : L.eraseIdx (L.idxOf z) = L.erase z := by
  induction L with
  | nil => simp at h
  | cons y L ih =>
    rw [List.idxOf_cons]
    by_cases e : y = z
    · subst e; simp
    · have e2 : (y == z) = false := by simpa using e
      rw [e2, List.erase_cons_tail (by simpa using e)]
      simp only [cond_false, Nat.succ_eq_add_one, List.eraseIdx_cons_succ]
      rw [ih (by rcases List.mem_cons.mp h with h | h; exact absurd h.symm e; exact h)]
theorem idx_before {L : List Str} {z : Str} {m : Nat} {y : V} (hm : m < L.idxOf z) (h : (L.map V.str)[m]? = some y) : eqV y (.str z) = false := by
  rw [List.getElem?_map] at h
  cases e : L[m]? with
  | none => rw [e] at h; cases h
  | some x =>
    rw [e] at h
    cases h
    obtain ⟨ml, hx⟩ := List.getElem?_eq_some_iff.mp e
    have := List.not_of_lt_findIdx (p := (· == z)) (xs := L) (i := m) hm
    rw [hx] at this
    show (x == z) = false
    simpa using this
def depV : Option Nat → V
  | none => .non
  | some n => .int (n : Nat)
end MC

set_option Elab.async false
set_option linter.all false
set_option maxRecDepth 100000
set_option maxHeartbeats 4000000
/-! MV: xs[a:b] = ys, b past the end too. -/
namespace MC
open PySem PySem.Spec PyProof.Rows L2
open PySem.SeqAt
open PySem.MeetsSeq PySem.MeetsSeq2 PySem.MeetsSeq3
theorem bounds_over {a c n : Nat} (h1 : a ≤ c) (h2 : a ≤ n) : sliceBounds (some (a : Int)) (some (c : Int)) none n = ((a : Int), ((min c n : Nat) : Int), 1) := by
  have b1 : ¬ ((a : Int) < 0) := by omega
  have b2 : ¬ ((c : Int) < 0) := by omega
  simp only [sliceBounds, Option.getD_none, b1, b2, if_false, show (1 : Int) > 0 by decide, if_true]
  refine Prod.ext ?_ (Prod.ext ?_ rfl)
  · show max 0 (min (a : Int) (n : Int)) = (a : Int)
    omega
  · show max 0 (min (c : Int) (n : Int)) = ((min c n : Nat) : Int)
    omega
section
variable {pg : Program} {wd : World} {R : Around} {Er : Value → Shared → Prop} {s : Shared}
set_option maxRecDepth 100000 in
theorem setItem_over {l b sl : Addr} {is nw : Array Value} {n n2 : Nat} {v1 v2 : Value} {a c : Nat} {Z : Unit → Shared → Prop}
    (u1 : s.heap.get? l = some { cls := .type "list", data := .seq is n }) (u2 : s.heap.get? b = some { cls := .type "list", data := .seq nw n2 }) (ne : l ≠ b)
    (us : s.heap.IsSliceOf sl v1 v2 .none) (p1 : IsPart v1 (some (a : Int))) (p2 : IsPart v2 (some (c : Int))) (ac : a ≤ c) (an : a ≤ is.size)
    (sz : is.size + nw.size ≤ sizeLine) (z : Z () { s with heap := s.heap.update l (Obj.mapSeq fun xs => xs.extract 0 a ++ nw ++ xs.extract (min c is.size) xs.size) }) :
    wpAny (model pg wd) R (setItem (.ref l) (.ref sl) (.ref b)) Z Er s := by
  have l1 : s.heap.IsList l is := PySem.IsL.isList u1
  have l2 : s.heap.IsList b nw := PySem.IsL.isList u2
  obtain ⟨ob, k1, k2, k3⟩ := id us
  have kt : s.TypeIs (.ref sl) "slice" := ⟨ob, k1, k2⟩
  have st : ¬ ((rawPart none == rawInt 0) = true) := Bool.false_ne_true
  have no : Builtin.List.listSameRef (.ref l) (.ref b) = false := by
    unfold Builtin.List.listSameRef; exact beq_eq_false_iff_ne.mpr ne
  have mx : (max (a : Int) ((min c is.size : Nat) : Int)).toNat = min c is.size := by omega
  have z' : ((fun xs : Array Value => xs.extract 0 a ++ nw ++ xs.extract (min c is.size) xs.size) is).size ≤ sizeLine + 1 := by
    simp only [Array.size_append, Array.size_extract]; omega
  unfold setItem; try with_reducible refine wpAny_holding ?_
  first | refine wpAny_bind (wpAny_pure ?_) | skip
  refine wpAny_bind (wpAny_sequenceKey l1.typeIs (by decide) ?_)
  refine wpAny_bind (wpAny_callSpecial?_slot (name := Str.ofString "__setitem__") l1.typeIs slot_list_setitem (wpAny_call_entry slot_list_setitem l1.typeIs entry_list_setitem ?_ (args_list_setitem _ _ _)))
  show wpAny _ _ (Builtin.List.listSubscript? (.ref sl) >>= _) _ _ s; refine wpAny_bind ?_
  unfold Builtin.List.listSubscript?; refine wpAny_bind (wpAny_specialOf kt slice_no_index ?_)
  simp only [Option.isNone_none, if_true]; refine wpAny_pure ?_
  show wpAny _ _ (typeOf (.ref sl) >>= _) _ _ s; refine wpAny_bind (wpAny_typeOf kt ?_)
  first | rw [if_neg (by decide)] | refine PySem.W.KFB.if_not (by decide) ?_
  rw [listSliceParts_eq]; refine wpAny_bind (wpAny_bind (wpAny_field k1 k3 (x := .none) rfl (wpAny_bind (wpAny_listPart .none ?_))))
  rw [if_neg st]; refine wpAny_bind (wpAny_field k1 k3 (x := v1) rfl (wpAny_bind (wpAny_listPart p1 ?_)))
  refine wpAny_bind (wpAny_field k1 k3 (x := v2) rfl (wpAny_bind (wpAny_listPart p2 (wpAny_pure ?_))))
  first
    | simp only [no, Bool.false_eq_true, if_false]
    | refine PySem.W.KFB.if_not no ?_
    | (dsimp only; rw [if_neg (by rw [no]; exact Bool.false_ne_true)])
  refine wpAny_bind (m := Builtin.List.listAllItems (.ref b) "must assign iterable to extended slice") (by
    unfold Builtin.List.listAllItems; refine wpAny_bind (wpAny_typeOf l2.typeIs ?_)
    first | refine PySem.W.KFB.if_so (by decide) ?_ | rw [if_pos (by decide)] | simp only [beq_self_eq_true, Bool.true_or, if_true]
    unfold Builtin.List.listItems; refine wpAny_bind (wpAny_seqItems u2 rfl (wpAny_pure ?_))
    refine wpAny_bind (wpAny_bind (wpAny_seqItems u1 rfl (wpAny_pure ?_)))
    refine wpAny_bind (wpAny_of_eq ((sliceIndices_raw (some (a : Int)) (some (c : Int)) none is.size (by simp)).trans (congrArg (pure : Int × Int × Int → Sem (Int × Int × Int)) (bounds_over ac an))) ?_)
    show wpAny _ _ (if ((1 : Int) == 1) = true then _ else _) _ _ s; rw [if_pos (by decide)]
    refine wpAny_bind (wpAny_rule ?_); first | simp only [notLongL sz, Bool.false_eq_true, if_false] | refine PySem.W.KFB.if_not (notLongL sz) ?_
    first | refine wpAny_bind (wpAny_pure ?_) | skip
    show wpAny _ _ (updateSeq l (fun xs => xs.extract 0 ((a : Int)).toNat ++ nw ++ xs.extract (max (a : Int) ((min c is.size : Nat) : Int)).toNat xs.size) >>= _) _ _ s
    rw [mx, Int.toNat_natCast]; refine wpAny_bind (wpAny_updateSeq (hz := Nat.le_trans (Nat.le_add_right _ _) sz) (_hz' := z') u1 rfl ?_)
    refine wpAny_bind (wpAny_letGo ?_)
    first | exact wpAny_bind (wpAny_pure (wpAny_pure ⟨.none, rfl, wpAny_pure z⟩)) | exact wpAny_pure ⟨.none, rfl, wpAny_pure z⟩)
end
def tSlSet (tv to : TE) (tl th : TO) : TS := fun D σ H => tv σ H fun v H1 => to σ H1 fun x H2 => tl σ H2 fun lo H3 => th σ H3 fun hi H4 => ∃ (l b : Addr) (xs ys : List V) (a c : Nat), x = .ref l ∧ v = .ref b ∧ lo = some (a : Int) ∧ hi = some (c : Int) ∧ H4 l = some (.lst xs) ∧ H4 b = some (.lst ys) ∧ l ≠ b ∧ a ≤ c ∧ a ≤ xs.length ∧ xs.length + ys.length ≤ sizeLine ∧
  D.nx σ (upd H4 l (.lst (xs.take a ++ ys ++ xs.drop (min c xs.length))))
theorem ps_slset {X : Cx} {o : Expr} {lo hi : Option Expr} {value : Expr} {tv to : TE} {tl th : TO} {p2 pos' pos : Pos} (ho : PE X o to) (hl : PO X lo tl) (hu : PO X hi th) (hv : PE X value tv)
    (hs : swapsWith value (some (.Subscript o (.Slice lo hi none p2) pos')) pos.line X.env = pure false) : PS X (.Assign [.Subscript o (.Slice lo hi none p2) pos'] value pos) (tSlSet tv to tl th) := by
  refine ⟨fun pins s σ H D I h => ?_⟩
  refine wpAny_Assign_Subscript (thn (hv.run pins s σ H _ I h) fun r s1 ⟨v, H1, I1, rv, q1⟩ => thn (ho.run pins s1 σ H1 _ I1 q1) fun u s2 ⟨x, H2, I2, rx, q2⟩ => ?_) hs
  refine wpAny_Slice (thn (hl.run pins s2 σ H2 _ I2 q2) fun w1 s3 ⟨o1, H3, I3, p1, q3⟩ => thn (hu.run pins s3 σ H3 _ I3 q3) fun w2 s4 ⟨o2, H4, I4, p2, q4⟩ => ?_)
  rw [evalPart_none]; refine wpAny_pure ?_
  have I5 : Inv X pins σ H4 { s4 with heap := s4.heap.push { cls := .type "slice", data := .fields #[w1, w2, .none] } } := I4.kept (t' := s4.toks) fun b ob q => Heap.get?_push_of_some _ q
  obtain ⟨l, b, xs, ys, a, c, ex, ev, e1, e2, hH, hB, ne, ac, an, zz, q⟩ := q4
  subst ex ev e1 e2
  obtain rfl : u = Value.ref l := rx
  obtain rfl : r = Value.ref b := rv
  obtain ⟨_, its, n, rr, hl1, ee⟩ := I5.lstM hH
  obtain ⟨_, its2, n2, r2, hl2, ee2⟩ := I5.lstM hB
  refine setItem_over ee ee2 ne (Heap.IsSliceOf.new ..) p1 p2 ac (by rw [List.size_toArray]; omega) (by rw [List.size_toArray, List.size_toArray]; omega) ⟨σ, _, I5.lset (its' := its.take a ++ its2 ++ its.drop (min c xs.length)) (t' := s4.toks) hH ee ?_ (Vals.append (Vals.append (rr.take _) r2) (rr.drop _)) ?_, q⟩
  · have es : its.toArray.size = xs.length := by rw [List.size_toArray]; omega
    rw [← es]
    exact splice_eq its its2 a (min c its.toArray.size)
  · rw [List.length_append, List.length_append, List.length_take, List.length_drop]; omega
end MC

set_option Elab.async false
set_option linter.all false
set_option maxRecDepth 100000
set_option maxHeartbeats 4000000
namespace K28
open PySem PySem.Spec L2 MC
open PyProof.Rows hiding St
def top (i : Nat) : Stmt := PySem.Challenge.pw_missclock_k28_the_plain_rule.main.body.getD i (.Pass ⟨0, 0, 0, 0⟩)
abbrev s_is_whole : Stmt := top 2
theorem sc_is_whole : FnScope ["value"] ["value"] (defScope s_is_whole) := ⟨rfl, rfl, rfl, by decide +kernel, rfl, by decide +kernel, by decide +kernel⟩
abbrev s_copied : Stmt := top 3
theorem sc_copied : FnScope ["value", "deep", "item", "key"] ["value", "deep"] (defScope s_copied) := ⟨rfl, rfl, rfl, by decide +kernel, rfl, by decide +kernel, by decide +kernel⟩
abbrev s_are_things : Stmt := top 14
theorem sc_are_things : FnScope ["values", "texts", "text"] ["values"] (defScope s_are_things) := ⟨rfl, rfl, rfl, by decide +kernel, rfl, by decide +kernel, by decide +kernel⟩
abbrev s_are_small : Stmt := top 15
theorem sc_are_small : FnScope ["signs"] ["signs"] (defScope s_are_small) := ⟨rfl, rfl, rfl, by decide +kernel, rfl, by decide +kernel, by decide +kernel⟩
abbrev s_is_row : Stmt := top 16
theorem sc_is_row : FnScope ["thing", "waiting", "row", "deep", "agains", "part"] ["thing"] (defScope s_is_row) := ⟨rfl, rfl, rfl, by decide +kernel, rfl, by decide +kernel, by decide +kernel⟩
abbrev s_looks_again : Stmt := top 17
theorem sc_looks_again : FnScope ["part", "row", "times"] ["part"] (defScope s_looks_again) := ⟨rfl, rfl, rfl, by decide +kernel, rfl, by decide +kernel, by decide +kernel⟩
abbrev s_near : Stmt := top 18
theorem sc_near : FnScope ["row"] ["row"] (defScope s_near) := ⟨rfl, rfl, rfl, by decide +kernel, rfl, by decide +kernel, by decide +kernel⟩
abbrev s_check_row : Stmt := top 19
theorem sc_check_row : FnScope ["row"] ["row"] (defScope s_check_row) := ⟨rfl, rfl, rfl, by decide +kernel, rfl, by decide +kernel, by decide +kernel⟩
abbrev s_check_near : Stmt := top 20
theorem sc_check_near : FnScope ["row", "many"] ["row"] (defScope s_check_near) := ⟨rfl, rfl, rfl, by decide +kernel, rfl, by decide +kernel, by decide +kernel⟩
abbrev s_count_asks : Stmt := top 21
theorem sc_count_asks : FnScope ["row", "agains", "part", "inner", "times"] ["row"] (defScope s_count_asks) := ⟨rfl, rfl, rfl, by decide +kernel, rfl, by decide +kernel, by decide +kernel⟩
abbrev s_laid_out : Stmt := top 22
theorem sc_laid_out : FnScope ["row", "asks", "part", "inner", "times"] ["row"] (defScope s_laid_out) := ⟨rfl, rfl, rfl, by decide +kernel, rfl, by decide +kernel, by decide +kernel⟩
abbrev s_is_missed : Stmt := top 24
theorem sc_is_missed : FnScope ["depth", "drawers"] ["depth", "drawers"] (defScope s_is_missed) := ⟨rfl, rfl, rfl, by decide +kernel, rfl, by decide +kernel, by decide +kernel⟩
abbrev s_check_places : Stmt := top 26
theorem sc_check_places : FnScope ["places"] ["places"] (defScope s_check_places) := ⟨rfl, rfl, rfl, by decide +kernel, rfl, by decide +kernel, by decide +kernel⟩
abbrev s_plain_depths : Stmt := top 28
theorem sc_plain_depths : FnScope ["row"] ["row"] (defScope s_plain_depths) := ⟨rfl, rfl, rfl, by decide +kernel, rfl, by decide +kernel, by decide +kernel⟩
abbrev s_plain_misses : Stmt := top 29
theorem sc_plain_misses : FnScope ["row", "places", "asks", "at", "depth"] ["row", "places"] (defScope s_plain_misses) := ⟨rfl, rfl, rfl, by decide +kernel, rfl, by decide +kernel, by decide +kernel⟩
abbrev s_plain : Stmt := top 30
theorem sc_plain : FnScope ["asks", "told", "latest", "thing", "depth"] ["asks"] (defScope s_plain) := ⟨rfl, rfl, rfl, by decide +kernel, rfl, by decide +kernel, by decide +kernel⟩
abbrev s_l_till : Stmt := top 32
theorem sc_l_till : FnScope ["_law_script", "_law_k", "_law_cell"] ["_law_script", "_law_k"] (defScope s_l_till) := ⟨rfl, rfl, rfl, by decide +kernel, rfl, by decide +kernel, by decide +kernel⟩
abbrev s_l_coin : Stmt := top 33
theorem sc_l_coin : FnScope ["_law_till_here", "_law_many", "_law_found", "_law_one"] ["_law_till_here", "_law_many"] (defScope s_l_coin) := ⟨rfl, rfl, rfl, by decide +kernel, rfl, by decide +kernel, by decide +kernel⟩
abbrev s_l_names : Stmt := top 34
theorem sc_l_names : FnScope ["_law_till_here", "_law_many", "_law_letters", "_law_left", "_law_letter", "_law_k"] ["_law_till_here", "_law_many"] (defScope s_l_names) := ⟨rfl, rfl, rfl, by decide +kernel, rfl, by decide +kernel, by decide +kernel⟩
abbrev s_l_some : Stmt := top 35
theorem sc_l_some : FnScope ["_law_till_here", "_law_names_here", "_law_most", "_law_way", "_law_at", "_law_found", "_law_k"] ["_law_till_here", "_law_names_here", "_law_most"] (defScope s_l_some) := ⟨rfl, rfl, rfl, by decide +kernel, rfl, by decide +kernel, by decide +kernel⟩
abbrev s_l_row : Stmt := top 36
theorem sc_l_row : FnScope ["_law_till_here", "_law_most", "_law_wide", "_law_names_here", "_law_part", "_law_head", "_law_loop", "_law_times", "_law_tail", "_law_asks", "_law_written"] ["_law_till_here", "_law_most", "_law_wide"] (defScope s_l_row) := ⟨rfl, rfl, rfl, by decide +kernel, rfl, by decide +kernel, by decide +kernel⟩
abbrev s_l_plain : Stmt := top 37
theorem sc_l_plain : FnScope ["_law_asks", "_law_places", "_law_found", "_law_there", "_law_place", "_law_thing"] ["_law_asks", "_law_places"] (defScope s_l_plain) := ⟨rfl, rfl, rfl, by decide +kernel, rfl, by decide +kernel, by decide +kernel⟩
abbrev s_l_deep : Stmt := top 38
theorem sc_l_deep : FnScope ["_law_asks", "_law_found", "_law_spots", "_law_place", "_law_thing", "_law_there", "_law_one"] ["_law_asks"] (defScope s_l_deep) := ⟨rfl, rfl, rfl, by decide +kernel, rfl, by decide +kernel, by decide +kernel⟩
abbrev s_l_right : Stmt := top 39
theorem sc_l_right : FnScope ["_law_till_here", "_law_row_here", "_law_asks", "_law_due", "_law_turn", "_law_told", "_law_places"] ["_law_till_here", "_law_row_here", "_law_asks"] (defScope s_l_right) := ⟨rfl, rfl, rfl, by decide +kernel, rfl, by decide +kernel, by decide +kernel⟩
abbrev s_l_anew_right : Stmt := top 40
theorem sc_l_anew_right : FnScope ["_law_till_here", "_law_asks", "_law_other", "_law_turn", "_law_at"] ["_law_till_here", "_law_asks"] (defScope s_l_anew_right) := ⟨rfl, rfl, rfl, by decide +kernel, rfl, by decide +kernel, by decide +kernel⟩
abbrev s_law : Stmt := top 41
theorem sc_law : FnScope ["_law_script", "_law_k", "_law_till_here", "_law_most", "_law_wide", "_law_row_here", "_law_asks", "_law_kept"] ["_law_script"] (defScope s_law) := ⟨rfl, rfl, rfl, by decide +kernel, rfl, by decide +kernel, by decide +kernel⟩
/-- a def of the text, as it is called -/
structure Own (K : PySem.W.Frag) (mg : Str → Option Value) (x : Str) (st : Stmt) (f : Addr) (fd : FuncData) (ps : List Str) : Prop where
  F : Fun K x x st f fd
  m : mg x = some (.ref f)
  b : Binds K fd ps []
structure Txt (K : PySem.W.Frag) (mg : Str → Option Value) : Prop where
  n_isinstance : mg "isinstance" = none
  n_int : mg "int" = none
  n_bool : mg "bool" = none
  n_str : mg "str" = none
  n_list : mg "list" = none
  n_tuple : mg "tuple" = none
  n_len : mg "len" = none
  n_all : mg "all" = none
  n_range : mg "range" = none
  n_min : mg "min" = none
  n_repr : mg "repr" = none
  n_enumerate : mg "enumerate" = none
  n_sum : mg "sum" = none
  n_zip : mg "zip" = none
  n_max : mg "max" = none
  c_LONGEST_THING : ∃ t, mg "LONGEST_THING" = some (.int 8 t)
  c_MOST_TIMES : ∃ t, mg "MOST_TIMES" = some (.int 1000000000000000000000000000000 t)
  c_DEEPEST_ROW : ∃ t, mg "DEEPEST_ROW" = some (.int 2000000 t)
  c_MOST_NEAR : ∃ t, mg "MOST_NEAR" = some (.int 400 t)
  sys : ∃ o, K.lookup sysModules = some o

/-! ### promises -/
theorem weak {P : Program} {w : World} {K : PySem.W.Frag} {mg : Str → Option Value} {base : Heap} {k : Nat} {f : Addr} {fd : FuncData} {ps : List Str} {sp sp' : Sp} (F : FnOk P w K mg base CX0 k f fd ps sp) (h : ∀ vs H Q E, sp' vs H Q E → sp vs H Q E) : FnOk P w K mg base CX0 k f fd ps sp' :=
  ⟨fun vs H Q E z => F.len vs H Q E (h vs H Q E z), fun A outer s H args us vs Q E a b c d z => F.run A outer s H args us vs Q E a b c d (h vs H Q E z)⟩
def spD0 (g : PyData → Bool) : Sp := fun vs H Q _ => ∃ x d, vs = [x] ∧ DD H x d ∧ ∀ H', Same H H' → Q (.bl (g d)) H'
theorem spD0_len {g : PyData → Bool} : ∀ vs H Q E, spD0 g vs H Q E → vs.length = 1 := fun vs H Q E h => by
  obtain ⟨x, d, rfl, _⟩ := h
  rfl
/-- all that was tracked stays, the answer is the data's -/
def spD (g : PyData → Bool) : Sp := fun vs H Q _ => ∃ x d, vs = [x] ∧ DD H x d ∧ okD d = true ∧ d.depth ≤ 60 ∧ wD d ≤ 2000 ∧ ∀ H', Same H H' → Q (.bl (g d)) H'
theorem spD_len {g : PyData → Bool} : ∀ vs H Q E, spD g vs H Q E → vs.length = 1 := fun vs H Q E h => by
  obtain ⟨x, d, rfl, _⟩ := h
  rfl
section
variable {P : Program} {w : World} {K : PySem.W.Frag} {mg : Str → Option Value} {base : Heap}
variable {f_is_whole f_is_thing f_is_row f_looks_again f_are_small f_are_things : Addr} {fd_is_whole fd_is_thing fd_is_row fd_looks_again fd_are_small fd_are_things : FuncData}

theorem ok_is_whole0 (T : Txt K mg) (O_is_whole : Own K mg "is_whole" s_is_whole f_is_whole fd_is_whole ["value"]) : FnOk P w K mg base CX0 1 f_is_whole fd_is_whole ["value"] (spD0 wholeD) := by
  refine O_is_whole.F.ok sc_is_whole spD0_len (fun cdv A outer s H vs Q E hr h => ?_)
  obtain ⟨x, d, rfl, hd, q⟩ := h
  refine ⟨_, (pss_one (ps_ret (pe_and (pe_callB (k_isi (K := K) rfl) (by rfl) T.n_isinstance (by decide +kernel) (pa_cons (pv 0) (pa_cons (pe_bltn (v := .ty "int") (by rfl) T.n_int (by decide +kernel) rfl) pa_nil))) (pe_one (pe_not (pe_callB (k_isi (K := K) rfl) (by rfl) T.n_isinstance (by decide +kernel) (pa_cons (pv 0) (pa_cons (pe_bltn (v := .ty "bool") (by rfl) T.n_bool (by decide +kernel) rfl) pa_nil)))))))), ?_⟩
  refine ⟨_, rfl, _, _, _, _, _, rfl, .ty _, ty_of hd, kI_int, _, rfl, ?_⟩
  refine ite2 (fun c => ?_) (fun c => ?_)
  · refine ⟨_, rfl, _, _, _, _, _, rfl, .ty _, ty_of hd, kI_bool, _, rfl, ?_⟩
    have e : (!dBool d) = wholeD d := by cases d <;> simp [dInt, dBool, wholeD] at c ⊢
    rw [e]
    exact q H (Same.refl H)
  · have e : wholeD d = false := by cases d <;> simp [dInt, wholeD] at c ⊢
    have q := q H (Same.refl H)
    rw [e] at q
    exact q

theorem ok_is_whole (T : Txt K mg) (O_is_whole : Own K mg "is_whole" s_is_whole f_is_whole fd_is_whole ["value"]) : FnOk P w K mg base CX0 1 f_is_whole fd_is_whole ["value"] (spD wholeD) :=
  weak (ok_is_whole0 T O_is_whole) fun vs H Q E h => by
    obtain ⟨x, d, rfl, hd, hok, hdp, hwd, q⟩ := h
    exact ⟨x, d, rfl, hd, q⟩
theorem ok_looks_again (T : Txt K mg) (G_is_whole : FnOk P w K mg base CX0 1 f_is_whole fd_is_whole ["value"] (spD wholeD)) (O_is_whole : Own K mg "is_whole" s_is_whole f_is_whole fd_is_whole ["value"]) (O_looks_again : Own K mg "_looks_again" s_looks_again f_looks_again fd_looks_again ["part"]) : FnOk P w K mg base CX0 2 f_looks_again fd_looks_again ["part"] (spD againD) := by
  refine O_looks_again.F.ok sc_looks_again spD_len (fun cdv A outer s H vs Q E hr h => ?_)
  obtain ⟨x, d, rfl, hd, hok, hdp, hwd, q⟩ := h
  obtain ⟨tmt, c_MOST_TIMES⟩ := T.c_MOST_TIMES
  refine ⟨_, (pss_cons (ps_if (PW.pt (pw_or (pt_not (pt_val (pe_callB (k_isi (K := K) rfl) (by rfl) T.n_isinstance (by decide +kernel) (pa_cons (pv 0) (pa_cons (pe_bltn (v := .ty "tuple") (by rfl) T.n_tuple (by decide +kernel) rfl) pa_nil))))) (pw_or1 (pt_cmpR op_ne (pe_callB (k_len_seq (K := K) rfl) (by rfl) T.n_len (by decide +kernel) (pa_cons (pv 0) pa_nil)) pe_int (nomark _)))))
    (pss_one (ps_ret pe_bl))
    pss_nil)
    (pss_cons (ps_asg (pv 0) (pg_tup rfl (pgs_cons (pg_name (i := 1) sc_looks_again.nd rfl (Or.inl rfl)) (pgs_cons (pg_name (i := 2) sc_looks_again.nd rfl (Or.inl rfl)) pgs_nil))))
    (pss_cons (ps_if (PW.pt (pw_or (pt_not (pt_val (pe_callB (k_isiT (K := K) rfl) (by rfl) T.n_isinstance (by decide +kernel) (pa_cons (pv 1) (pa_cons (pe_tup (pa_cons (pe_bltn (v := .ty "list") (by rfl) T.n_list (by decide +kernel) rfl) (pa_cons (pe_bltn (v := .ty "tuple") (by rfl) T.n_tuple (by decide +kernel) rfl) pa_nil))) pa_nil))))) (pw_or1 (pt_cmpR op_eq (pe_callB (k_len_seq (K := K) rfl) (by rfl) T.n_len (by decide +kernel) (pa_cons (pv 1) pa_nil)) pe_int (nomark _)))))
    (pss_one (ps_ret pe_bl))
    pss_nil)
    (pss_one (ps_ret (pe_and (pe_call G_is_whole (hr.mono (by omega)) rfl O_is_whole.m O_is_whole.F.kp O_is_whole.b .nil pass0 (pa_cons (pv 2) pa_nil)) (pe_one (pe_chain op_le op_le pe_int (pv 2) (pe_glob (v := .int 1000000000000000000000000000000) rfl c_MOST_TIMES ⟨_, rfl⟩))))))))), ?_⟩
  have no : dTup d = false → againD d = false := fun e => by cases d <;> first | rfl | cases e
  refine ⟨_, rfl, _, _, _, _, _, rfl, .ty _, ty_of hd, kI_tuple, _, rfl, ?_⟩
  refine ite2 (fun c => ?_) (fun c => ?_)
  · have q := q H (Same.refl H)
    rw [no (by simpa using c)] at q
    exact iteT q
  have ct : dTup d = true := by simpa using c
  cases hd with
  | @tup a xs ds ha hs =>
    refine ⟨_, rfl, _, _, rfl, .inr (SqT.of ha), rfl, _, rfl, ?_⟩
    refine ite2 (fun c2 => ?_) (fun c2 => ?_)
    · have q := q H (Same.refl H)
      have e : againD (.tuple ds) = false := by
        unfold againD
        split
        · rename_i r t e
          injection e with e
          rw [e] at hs
          have l := hs.length
          simp [l] at c2
        · rfl
      rw [e] at q
      exact q
    have l2 : xs.length = 2 := by
      simp only [Bool.not_eq_true', decide_eq_false_iff_not, Decidable.not_not, V.int.injEq] at c2
      omega
    match xs, ds, hs, l2 with
    | [v1, v2], [d1, d2], .cons h1 (.cons h2 .nil), _ =>
      refine ⟨_, rfl, a, _, rfl, SqT.of ha, rfl, _, _, rfl, _, _, rfl, rfl, ?_⟩
      have hok2 : okD d1 = true ∧ okD d2 = true := by simpa [okD, oksD] using hok
      have hdp2 : d2.depth ≤ 60 := by simp only [PyData.depth, PyData.depthAll] at hdp; omega
      refine ⟨_, rfl, by decide, fun p hp => ?_⟩
      have s1 : Same H (upd H p (.tup [.ty "list", .ty "tuple"])) := fun b o e => by rw [upd_ne (ne_of_none e hp)]; exact e
      refine ⟨_, _, _, _, _, _, rfl, upd_same, cl_seq, ty_of (h1.mono s1), kit_seq, _, rfl, ?_⟩
      refine ite2 (fun c3 => ?_) (fun c3 => ?_)
      · have e : againD (.tuple [d1, d2]) = false := by
          have z : dSeq d1 = false := by simpa using c3
          cases d2 <;> first | rfl | simp [againD, z]
        have q := q _ s1
        rw [e] at q
        exact iteT q
      have k1 : dSeq d1 = true := by simpa using c3
      obtain ⟨a1, xs1, rfl, hx, hs1⟩ := h1.seq k1
      refine ⟨_, rfl, _, _, rfl, (hx.mono s1).lt, rfl, _, rfl, ?_⟩
      refine ite2 (fun c4 => ?_) (fun c4 => ?_)
      · have z : xs1 = [] := by
          simp only [decide_eq_true_eq, V.int.injEq] at c4
          exact List.length_eq_zero_iff.mp (by omega)
        have e : againD (.tuple [d1, d2]) = false := by
          have z3 : elemsD d1 = [] := List.length_eq_zero_iff.mp (by rw [← hs1.length, z]; rfl)
          have z2 : dNil d1 = true := by rw [dNil_elems k1, z3]; rfl
          cases d2 <;> first | rfl | simp [againD, z2]
        have q := q _ s1
        rw [e] at q
        exact q
      have k2 : dNil d1 = false := by
        rw [dNil_elems k1]
        cases e : elemsD d1 with
        | nil =>
          have l := hs1.length
          rw [e] at l
          simp [l] at c4
        | cons _ _ => rfl
      refine ⟨_, rfl, v2, d2, rfl, h2.mono s1, hok2.2, hdp2, by simp only [wD, wDs] at hwd; omega, fun H2 s2 => ⟨_, rfl, ?_⟩⟩
      have q := q H2 (s1.trans s2)
      refine ite2 (fun c5 => ?_) (fun c5 => ?_)
      · cases h2 with
        | int t =>
          refine ⟨_, rfl, _, _, rfl, rfl, _, rfl, ?_⟩
          refine ite2 (fun c6 => ?_) (fun c6 => ?_)
          · refine ⟨_, _, rfl, rfl, ?_⟩
            have e : againD (.tuple [d1, .int t]) = decide (t ≤ 1000000000000000000000000000000) := by
              have c6 : (1 : Int) ≤ t := by simpa using c6
              simp [againD, k1, k2, timesOk, c6]
            rw [e] at q
            exact q
          · have e : againD (.tuple [d1, .int t]) = false := by
              have c6 : ¬ (1 : Int) ≤ t := by simpa using c6
              simp [againD, k1, k2, timesOk, c6]
            rw [e] at q
            exact q
        | _ => cases c5
      · have e : againD (.tuple [d1, d2]) = false := by
          cases d2 <;> first | rfl | simp [wholeD] at c5
        rw [e] at q
        exact q
  | _ => cases ct
end
end K28

set_option Elab.async false
set_option linter.all false
set_option maxRecDepth 100000
set_option maxHeartbeats 4000000
namespace MC
open PySem PySem.Spec L2
theorem same_new {H : Hp} {p : Addr} (h : H p = none) (o : HO) : Same H (upd H p o) := fun b u e => by rw [upd_ne (ne_of_none e h)]; exact e
theorem same_mut {H H' : Hp} {p : Addr} (e : Same H H') (h : H p = none) (o : HO) : Same H (upd H' p o) := fun b u q => by rw [upd_ne (ne_of_none q h)]; exact e b u q
theorem take_more {α : Type} {l : List α} {i : Nat} {x : α} (h : l[i]? = some x) : l.take (i + 1) = l.take i ++ [x] := by
  rw [List.take_succ, h]; rfl
theorem lt1 (a b : Nat) : decide ([a] < [b]) = decide (a < b) := by
  have : ([a] < [b]) ↔ a < b := by
    constructor
    · intro h
      cases h with
      | rel h => exact h
      | cons h => cases h
    · intro h; exact .rel h
  simp [this]
end MC
namespace K28
open PySem PySem.Spec L2 MC
open PyProof.Rows hiding St
def spSm : Sp := fun vs H Q _ => ∃ z : Str, vs = [.str z] ∧ z.length ≤ 5592405 ∧ Q (.bl (z.cps.toList.all isSign)) H
/-- a dict of texts: each of them a thing -/
def spTh : Sp := fun vs H Q _ => ∃ (D : Addr) (zs : List Str), vs = [.ref D] ∧ H D = some (.dK (setK zs)) ∧ zs.length ≤ 2000 ∧ (∀ z ∈ zs, z.length ≤ 9) ∧ ∀ H', Same H H' → Q (.bl (zs.all isThingS)) H'
def midZ (z : Str) : Bool := decide (1 ≤ z.length) && decide (z.length ≤ 8)
theorem mid_all (zs : List Str) : zs.all isThingS = (decide ((zs.filter midZ).length = zs.length) && (zs.filter midZ).all fun z => z.cps.toList.all isSign) := by
  induction zs with
  | nil => rfl
  | cons z zs ih =>
    have e : isThingS z = (midZ z && z.cps.toList.all isSign) := by unfold isThingS midZ; rfl
    have h := List.length_filter_le midZ zs
    rw [List.all_cons, ih, e, List.filter_cons]
    cases midZ z with
    | true =>
      simp only [if_true, List.length_cons, List.all_cons, Bool.true_and, Nat.add_right_cancel_iff]
      cases z.cps.toList.all isSign <;> simp
    | false =>
      simp only [Bool.false_and, Bool.false_eq_true, if_false, List.length_cons]
      rw [decide_eq_false (by omega), Bool.false_and]
section
variable {P : Program} {w : World} {K : PySem.W.Frag} {mg : Str → Option Value} {base : Heap}
variable {f_is_whole f_is_thing f_is_row f_looks_again f_are_small f_are_things : Addr} {fd_is_whole fd_is_thing fd_is_row fd_looks_again fd_are_small fd_are_things : FuncData}
theorem ok_are_small (T : Txt K mg) (O_are_small : Own K mg "are_small" s_are_small f_are_small fd_are_small ["signs"]) : FnOk P w K mg base CX0 1 f_are_small fd_are_small ["signs"] spSm := by
  refine O_are_small.F.ok sc_are_small (fun vs H Q E h => by obtain ⟨z, rfl, _⟩ := h; rfl) (fun cdv A outer s H vs Q E hr h => ?_)
  obtain ⟨z, rfl, hz, q⟩ := h
  refine ⟨_, (pss_one (ps_ret (pe_or (pe_cmpR op_eq (pv 0) pe_str (nomark _)) (pe_one (pe_and (pe_m0 PySem.F.slot_str_isascii PySem.F.type_str_isascii mt_isascii (pv 0)) (pe_and (pe_m0 PySem.F.slot_str_isalpha PySem.F.type_str_isalpha mt_isalpha (pv 0)) (pe_one (pe_cmpR op_eq (pv 0) (pe_lower (pv 0)) (nomark _))))))))), ?_⟩
  rw [← small_look] at q
  have e0 : decide (V.str z = V.str (Str.ofString "")) = decide (z = Str.empty) := by
    have : Str.ofString "" = Str.empty := by decide +kernel
    rw [this]
    simp
  refine ⟨_, rfl, rfl, _, rfl, ?_⟩
  rw [e0]
  refine ite2 (fun c => ?_) (fun c => ?_)
  · rw [c, Bool.true_or] at q
    exact q
  have c : decide (z = Str.empty) = false := by simpa using c
  rw [c, Bool.false_or] at q
  refine ⟨_, rfl, ⟨_, rfl⟩, z, rfl, rfl, trivial, _, rfl, ?_⟩
  refine ite2 (fun c1 => ?_) (fun c1 => ?_)
  · rw [c1, Bool.true_and] at q
    refine ⟨_, rfl, ⟨_, rfl⟩, z, rfl, rfl, trivial, _, rfl, ?_⟩
    refine ite2 (fun c2 => ?_) (fun c2 => ?_)
    · rw [c2, Bool.true_and] at q
      have e1 : decide (V.str z = V.str (Txt.lower z)) = decide (z = Txt.lower z) := by simp
      refine ⟨_, rfl, _, rfl, ⟨_, rfl⟩, z, rfl, rfl, hz, rfl, ?_⟩
      rw [e1]
      exact q
    · have c2 : Txt.isalpha z = false := by simpa using c2
      rw [c2, Bool.false_and] at q
      exact q
  · have c1 : Txt.isascii z = false := by simpa using c1
    rw [c1, Bool.false_and] at q
    exact q
theorem ok_are_things (T : Txt K mg) (G_are_small : FnOk P w K mg base CX0 1 f_are_small fd_are_small ["signs"] spSm) (O_are_small : Own K mg "are_small" s_are_small f_are_small fd_are_small ["signs"]) (O_are_things : Own K mg "are_things" s_are_things f_are_things fd_are_things ["values"]) : FnOk P w K mg base CX0 2 f_are_things fd_are_things ["values"] spTh := by
  refine O_are_things.F.ok sc_are_things (fun vs H Q E h => by obtain ⟨D, zs, rfl, _⟩ := h; rfl) (fun cdv A outer s H vs Q E hr h => ?_)
  obtain ⟨D, zs, rfl, hD, hn, hz, q⟩ := h
  obtain ⟨tmt, c_LONGEST_THING⟩ := T.c_LONGEST_THING
  refine ⟨_, (pss_cons (ps_lock (ps_setLc (i := 1) (own := [("text", 2)]) rfl sc_are_things.nd rfl rfl (sw_true rfl rfl rfl (by decide +kernel)) (pi_keys (pv 0)) (blkOk_by (own := [("text", 2)]) (N := ["values", "texts", "text"]) (sc := defScope s_are_things) (by decide +kernel)) (fun _ _ _ _ _ => (pg_name (i := 2) sc_are_things.nd rfl (Or.inl rfl))) (fun _ _ _ _ _ => pts_one (PW.pt (pw_and (pt_val (pe_callB (k_isi (K := K) rfl) (by rfl) T.n_isinstance (by decide +kernel) (pa_cons (pv 2) (pa_cons (pe_bltn (v := .ty "str") (by rfl) T.n_str (by decide +kernel) rfl) pa_nil)))) (pw_and1 (pt_chain op_le op_le pe_int (pe_callB (k_len_str (K := K) rfl) (by rfl) T.n_len (by decide +kernel) (pa_cons (pv 2) pa_nil)) (pe_glob (v := .int 8) rfl c_LONGEST_THING ⟨_, rfl⟩)))))) (fun _ _ _ _ _ => (pv 2))))
    (pss_one (ps_ret (pe_and (pe_cmpR op_eq (pe_callB (k_len_seq (K := K) rfl) (by rfl) T.n_len (by decide +kernel) (pa_cons (pv 1) pa_nil)) (pe_callB call_lenD (by rfl) T.n_len (by decide +kernel) (pa_cons (pv 0) pa_nil)) (nomark _)) (pe_one (pe_call G_are_small (hr.mono (by omega)) rfl O_are_small.m O_are_small.F.kp O_are_small.b .nil pass0 (pa_cons (pe_join pe_str (pv 1)) pa_nil))))))), ?_⟩
  refine ⟨D, _, hD, trivial, fun od => ?_⟩
  refine ⟨_, rfl, D, od, rfl, .inl ⟨_, upd_same, fun L hL => lc_it (walk_keys (o := od)) (fun i H' => H' D = some (.frz od (.dK (setK zs))) ∧ (∀ b o, b ≠ D → H b = some o → H' b = some o) ∧ H' L = some (.lst (((zs.take i).filter midZ).map V.str))) ?_ (fun i H' _ p => p.1) ?_ ?_⟩⟩
  · have LD : L ≠ D := fun z => by rw [z, upd_same] at hL; cases hL
    refine ⟨by rw [upd_ne LD.symm, upd_same], fun b o hb e => ?_, by rw [upd_same]; rfl⟩
    rw [upd_ne (ne_of_none (by rw [upd_ne hb]; exact e) hL), upd_ne hb]
    exact e
  · rintro i x _ H1 hi ⟨h1, h2, h3⟩ ⟨rfl, k, v, hk, rfl⟩
    have hkz : ∃ z, zs[i]? = some z ∧ k = Sum.inr z := by
      unfold setK at hk
      rw [List.getElem?_map] at hk
      cases e : zs[i]? with
      | none => rw [e] at hk; cases hk
      | some z => rw [e] at hk; cases hk; exact ⟨z, rfl, rfl⟩
    obtain ⟨z, ez, rfl⟩ := hkz
    have hz9 := hz z (List.mem_of_getElem? ez)
    have hz2 : z.length ≤ sizeLine := Nat.le_trans hz9 (by decide)
    have LD : L ≠ D := fun z => by rw [z, h1] at h3; cases h3
    have tk : zs.take (i + 1) = zs.take i ++ [z] := take_more ez
    have len : ((zs.take i).filter midZ).length ≤ 2000 := by
      have h1 := List.length_filter_le midZ (zs.take i)
      rw [List.length_take] at h1
      omega
    have yes : midZ z = true → ∃ acc, H1 L = some (HO.lst acc) ∧ acc.length < sizeLine ∧ upd H1 L (HO.lst (acc ++ [V.str z])) D = some (HO.frz od (HO.dK (setK zs))) ∧
        (∀ (b : Addr) (o : HO), b ≠ D → H b = some o → upd H1 L (HO.lst (acc ++ [V.str z])) b = some o) ∧ upd H1 L (HO.lst (acc ++ [V.str z])) L = some (HO.lst (List.map V.str (List.filter midZ (List.take (i + 1) zs)))) := fun m => by
      refine ⟨_, h3, by rw [List.length_map]; exact Nat.lt_of_le_of_lt len (by decide), by rw [upd_ne LD.symm]; exact h1, fun b o hb e => ?_, ?_⟩
      · have LH : b ≠ L := fun q => by rw [q] at e hb; rw [upd_ne hb, e] at hL; cases hL
        rw [upd_ne LH]; exact h2 b o hb e
      · rw [upd_same, tk, List.filter_append, List.map_append]
        simp [m]
    have no : midZ z = false → H1 D = some (HO.frz od (HO.dK (setK zs))) ∧ (∀ (b : Addr) (o : HO), b ≠ D → H b = some o → H1 b = some o) ∧ H1 L = some (HO.lst (List.map V.str (List.filter midZ (List.take (i + 1) zs)))) := fun m => by
      refine ⟨h1, h2, ?_⟩
      rw [tk, List.filter_append]
      simpa [m] using h3
    refine ⟨rfl, _, rfl, _, _, _, _, _, rfl, .ty _, .base (.str z), kit_ty (by decide +kernel), _, rfl, iteT ?_⟩
    refine ⟨_, rfl, z, rfl, hz2, _, _, rfl, rfl, _, rfl, ?_⟩
    refine ite2 (fun c1 => ?_) (fun c1 => ?_)
    · refine ⟨_, _, rfl, rfl, _, rfl, ?_⟩
      refine ite2 (fun c2 => ?_) (fun c2 => ?_)
      · exact ⟨_, rfl, yes (by unfold midZ; simp at c1 c2 ⊢; omega)⟩
      · exact no (by unfold midZ; simp at c1 c2 ⊢; omega)
    · exact ⟨_, rfl, iteF (no (by unfold midZ; simp at c1 ⊢; omega))⟩
  · rintro H1 ⟨h1, h2, h3⟩
    have full : zs.take (setK zs).length = zs := List.take_of_length_le (by simp [setK])
    rw [full] at h3
    have LD : L ≠ D := fun z => by rw [z, h1] at h3; cases h3
    have sm : Same H (upd H1 D (.dK (setK zs))) := fun b o e => by
      by_cases hb : b = D
      · subst hb; rw [upd_same]; rw [hD] at e; exact e
      · rw [upd_ne hb]; exact h2 b o hb e
    have hL2 : upd H1 D (.dK (setK zs)) L = some (.lst ((zs.filter midZ).map V.str)) := by rw [upd_ne LD]; exact h3
    refine ⟨h1, ?_⟩
    have q := q _ sm
    rw [mid_all] at q
    have ll : ((zs.filter midZ).map V.str).length = (zs.filter midZ).length := by simp
    have lk : (setK zs).length = zs.length := by simp [setK]
    have e1 : decide (V.int ((zs.filter midZ).map V.str).length = V.int (setK zs).length) = decide ((zs.filter midZ).length = zs.length) := by
      rw [ll, lk, Bool.eq_iff_iff, decide_eq_true_eq, decide_eq_true_eq, V.int.injEq, Int.natCast_inj]
    refine ⟨_, rfl, L, _, rfl, .inl (SqL.of hL2), _, rfl, D, _, rfl, upd_same, rfl, _, rfl, ?_⟩
    rw [e1]
    refine ite2 (fun c => ?_) (fun c => ?_)
    · rw [c, Bool.true_and] at q
      have sum8 : ∀ l : List Str, (∀ z ∈ l, z.length ≤ 9) → (l.map (·.length)).sum ≤ 9 * l.length := by
        intro l
        induction l with
        | nil => intro _; simp
        | cons z l ih =>
          intro h
          have h1 := h z (by simp)
          have h2 := ih fun y hy => h y (by simp [hy])
          simp only [List.map_cons, List.sum_cons, List.length_cons]
          omega
      have s9 := sum8 (zs.filter midZ) fun z hz' => hz z (List.mem_filter.mp hz').1
      have lf := List.length_filter_le midZ zs
      refine ⟨⟨_, rfl⟩, _, rfl, Str.ofString "", L, zs.filter midZ, rfl, rfl, .inl (SqL.of hL2), ?_, ?_⟩
      · have : (Str.ofString "").length = 0 := by decide +kernel
        rw [this]; omega
      · have ee : Str.ofString "" = Str.empty := by decide +kernel
        rw [TL.join_eq, ee]
        refine ⟨_, rfl, ?_, ?_⟩
        · rw [joined_len]; omega
        · rw [joined_all]
          exact q
    · have c : decide ((zs.filter midZ).length = zs.length) = false := by simpa using c
      rw [c, Bool.false_and] at q
      exact q
end
end K28

set_option Elab.async false
set_option linter.all false
set_option maxRecDepth 100000
set_option maxHeartbeats 4000000
namespace K28
open PySem PySem.Spec L2 MC
open PyProof.Rows hiding St
/-- what waits: a tuple of a row (over H0) and how deep it lies -/
def Ent (H0 H : Hp) (v : V) (d : PyData) : Prop := ∃ t x k, v = .ref t ∧ H t = some (.tup [x, .int k]) ∧ DD H0 x d ∧ dSeq d = true ∧ okD d = true ∧ 0 ≤ k ∧ d.depth + k.toNat ≤ 60
theorem Ent.mono {H0 H H' : Hp} {v : V} {d : PyData} (h : Ent H0 H v d) (e : ∀ t xs, H t = some (.tup xs) → H' t = some (.tup xs)) : Ent H0 H' v d := by
  obtain ⟨t, x, k, h1, h2, r⟩ := h
  exact ⟨t, x, k, h1, e _ _ h2, r⟩
def wsum (es : List (V × PyData)) : Nat := wDs (es.map (·.2))
theorem wsum_append (a b : List (V × PyData)) : wsum (a ++ b) = wsum a + wsum b := by unfold wsum; rw [List.map_append, wDs_append]
theorem keep_upd {H : Hp} {w : Addr} {xs : List V} (h : H w = some (.lst xs)) (ys : List V) : ∀ t zs, H t = some (.tup zs) → upd H w (.lst ys) t = some (.tup zs) := fun t zs e => by
  rw [upd_ne (ne_of e h (fun z => nomatch z))]; exact e
theorem last_split {α : Type} {l : List α} (h : l ≠ []) : ∃ a b, l = a ++ [b] := ⟨_, _, (List.dropLast_concat_getLast h).symm⟩
section
variable {P : Program} {w : World} {K : PySem.W.Frag} {mg : Str → Option Value} {base : Heap}
variable {f_is_whole f_is_thing f_is_row f_looks_again f_are_small f_are_things : Addr} {fd_is_whole fd_is_thing fd_is_row fd_looks_again fd_are_small fd_are_things : FuncData}
theorem ok_is_row (T : Txt K mg) (G_are_things : FnOk P w K mg base CX0 2 f_are_things fd_are_things ["values"] spTh) (G_looks_again : FnOk P w K mg base CX0 2 f_looks_again fd_looks_again ["part"] (spD againD))
    (O_are_things : Own K mg "are_things" s_are_things f_are_things fd_are_things ["values"]) (O_looks_again : Own K mg "_looks_again" s_looks_again f_looks_again fd_looks_again ["part"]) (O_is_row : Own K mg "is_row" s_is_row f_is_row fd_is_row ["thing"]) : FnOk P w K mg base CX0 3 f_is_row fd_is_row ["thing"] (spD rowD) := by
  refine O_is_row.F.ok sc_is_row spD_len (fun cdv A outer s H vs Q E hr h => ?_)
  obtain ⟨x, d, rfl, hd, hok, hdp, hwd, q⟩ := h
  obtain ⟨tmt, c_DEEPEST_ROW⟩ := T.c_DEEPEST_ROW
  refine ⟨_, (pss_cons (ps_if (pt_not (pt_val (pe_callB (k_isiT (K := K) rfl) (by rfl) T.n_isinstance (by decide +kernel) (pa_cons (pv 0) (pa_cons (pe_tup (pa_cons (pe_bltn (v := .ty "list") (by rfl) T.n_list (by decide +kernel) rfl) (pa_cons (pe_bltn (v := .ty "tuple") (by rfl) T.n_tuple (by decide +kernel) rfl) pa_nil))) pa_nil)))))
    (pss_one (ps_ret pe_bl))
    pss_nil)
    (pss_cons (ps_set (i := 1) sc_is_row.nd rfl (Or.inl rfl) (pe_lst (pa_cons (pe_tup (pa_cons (pv 0) (pa_cons pe_int pa_nil))) pa_nil)))
    (pss_cons (ps_while PassesOwn.never (pt_truth (pv 1) (by intro _; rfl))
    (pss_cons (ps_asg (k_bm0 (K := K) rfl (pe_bm0 PySem.F.plainAttrs_list PySem.F.slot_list_pop PySem.F.type_list_pop mt_pop (pv 1))) (pg_tup rfl (pgs_cons (pg_name (i := 2) sc_is_row.nd rfl (Or.inl rfl)) (pgs_cons (pg_name (i := 3) sc_is_row.nd rfl (Or.inl rfl)) pgs_nil))))
    (pss_cons (ps_if (pt_cmpR op_gt (pv 3) (pe_glob (v := .int 2000000) rfl c_DEEPEST_ROW ⟨_, rfl⟩) (nomark _))
    (pss_one (ps_ret pe_bl))
    pss_nil)
    (pss_cons (ps_setLc (i := 4) (own := [("part", 5)]) rfl sc_is_row.nd rfl rfl (sw_true rfl rfl rfl (by decide +kernel)) (k_seq (K := K) rfl (pv 2)) (blkOk_by (own := [("part", 5)]) (N := ["thing", "waiting", "row", "deep", "agains", "part"]) (sc := defScope s_is_row) (by decide +kernel)) (fun _ _ _ _ _ => (pg_name (i := 5) sc_is_row.nd rfl (Or.inl rfl))) (fun _ _ _ _ _ => pts_one (pt_not (pt_val (pe_callB (k_isi (K := K) rfl) (by rfl) T.n_isinstance (by decide +kernel) (pa_cons (pv 5) (pa_cons (pe_bltn (v := .ty "str") (by rfl) T.n_str (by decide +kernel) rfl) pa_nil)))))) (fun _ _ _ _ _ => (pv 5)))
    (pss_cons (ps_for PassesOwn.never rfl (k_list (K := K) rfl (pv 4)) (pg_name (i := 5) sc_is_row.nd rfl (Or.inl rfl))
    (pss_cons (ps_if (pt_not (pt_val (pe_call G_looks_again (hr.mono (by omega)) rfl O_looks_again.m O_looks_again.F.kp O_looks_again.b .nil pass0 (pa_cons (pv 5) pa_nil))))
    (pss_one (ps_ret pe_bl))
    pss_nil)
    (pss_one (ps_expr (k_bm (K := K) rfl (pe_bm PySem.F.plainAttrs_list PySem.F.slot_list_append PySem.F.type_list_append mt_append (pv 1) (pa_cons (pe_tup (pa_cons (pe_ix (k_ix_tup (K := K) rfl) (pv 5) pe_int (fun _ _ => rfl)) (pa_cons (pe_op op_add (pv 3) pe_int) pa_nil))) pa_nil)))))))
    (pss_one (ps_if (PW.pt (pw_and (pt_cmpR op_lt (pe_callB (k_len_seq (K := K) rfl) (by rfl) T.n_len (by decide +kernel) (pa_cons (pv 4) pa_nil)) (pe_callB (k_len_seq (K := K) rfl) (by rfl) T.n_len (by decide +kernel) (pa_cons (pv 2) pa_nil)) (nomark _)) (pw_and1 (pt_not (pt_val (pe_call G_are_things (hr.mono (by omega)) rfl O_are_things.m O_are_things.F.kp O_are_things.b .nil pass0 (pa_cons (pe_dc (own := [("part", 5)]) rfl sc_is_row.nd (k_seq (K := K) rfl (pv 2)) (blkOk_by (own := [("part", 5)]) (N := ["thing", "waiting", "row", "deep", "agains", "part"]) (sc := defScope s_is_row) (by decide +kernel)) (fun _ _ _ _ _ => (pg_name (i := 5) sc_is_row.nd rfl (Or.inl rfl))) (fun _ _ _ _ _ => pts_one (pt_val (pe_callB (k_isi (K := K) rfl) (by rfl) T.n_isinstance (by decide +kernel) (pa_cons (pv 5) (pa_cons (pe_bltn (v := .ty "str") (by rfl) T.n_str (by decide +kernel) rfl) pa_nil))))) (fun _ _ _ _ _ => (pv 5)) (fun _ _ _ _ _ => pe_bl)) pa_nil)))))))
    (pss_one (ps_ret pe_bl))
    pss_nil)))))))
    (pss_one (ps_ret pe_bl))))), ?_⟩
  refine ⟨_, rfl, by decide, fun p hp => ?_⟩
  have s0 := same_new hp (.tup [.ty "list", .ty "tuple"])
  refine ⟨_, _, _, _, _, _, rfl, upd_same, cl_seq, ty_of (hd.mono s0), kit_seq, _, rfl, ?_⟩
  refine ite2 (fun c => ?_) (fun c => ?_)
  · have q := q _ s0
    rw [rowD_seq (by simpa using c)] at q
    exact q
  have k0 : dSeq d = true := by simpa using c
  -- waiting = [(thing, 0)]
  refine ⟨_, rfl, (by show 2 ≤ sizeLine; decide), fun t0 ht0 => ⟨(by show 1 ≤ sizeLine; decide), fun w0 hw0 => ?_⟩⟩
  have hw : H w0 = none := (s0.trans (same_new ht0 _)).free hw0
  have s1 : Same H (upd (upd (upd H p (.tup [.ty "list", .ty "tuple"])) t0 (.tup [x, .int 0])) w0 (.lst [.ref t0])) := (s0.trans (same_new ht0 _)).trans (same_new hw0 _)
  refine ⟨fun m σ H' => ∃ (es : List (V × PyData)) (a b c e : Option V), m = wsum es ∧ σ = [some x, some (.ref w0), a, b, c, e] ∧ Same H H' ∧ H' w0 = some (.lst (es.map (·.1))) ∧
      (∀ e ∈ es, Ent H H' e.1 e.2) ∧ rowD d = (es.all fun e => rowD e.2) ∧ wsum es ≤ wD d, ⟨_, [(.ref t0, d)], _, _, _, _, rfl, rfl, s1, upd_same, ?_, ?_, ?_⟩, ?_⟩
  · intro e he
    rw [List.mem_singleton.mp he]
    refine ⟨t0, x, 0, rfl, ?_, hd, k0, hok, Int.le_refl 0, by simpa using hdp⟩
    rw [upd_ne (ne_of_none upd_same hw0), upd_same]
  · simp
  · simp [wsum, wDs]
  rintro m σ H1 ⟨es, a, b, c, e, rfl, rfl, s2, hl, hes, hrow, hwe⟩
  refine ⟨_, rfl, _, .inl ⟨_, SqL.of hl, rfl⟩, ?_⟩
  refine ite2 (fun c1 => ?yes) (fun c1 => ?no)
  case no =>
    have z : es = [] := by
      cases es with
      | nil => rfl
      | cons _ _ => simp at c1
    subst z
    have q := q H1 s2
    rw [hrow] at q
    exact q
  have ne : es ≠ [] := by rintro rfl; simp at c1
  obtain ⟨es1, ⟨v, r⟩, rfl⟩ := last_split ne
  obtain ⟨t, y, k, rfl, ht, hy, ky, oky, k0', dky⟩ : Ent H H1 v r := hes (v, r) (by simp)
  have hes1 : ∀ e ∈ es1, Ent H H1 e.1 e.2 := fun e he => hes e (by simp [he])
  obtain ⟨ar, xs, rfl, hx, hxs⟩ := hy.seq ky
  have ety : (List.map (·.1) (es1 ++ [(V.ref t, r)])) = es1.map (·.1) ++ [V.ref t] := by simp
  rw [ety] at hl
  refine ⟨fun σ' H' => ∃ m', m' < wsum (es1 ++ [(V.ref t, r)]) ∧ _, fun _ _ z => z, ?_⟩
  have nw : ∀ zs, Same H (upd H1 w0 (.lst zs)) := fun zs => same_mut s2 hw _
  have hl2 := keep_upd hl (es1.map (·.1) ++ [V.ref t]).dropLast
  refine ⟨_, rfl, .inl ⟨rfl, _, SqL.of hl⟩, w0, _, .ref t, rfl, rfl, hl, by simp, t, _, rfl, SqT.of (hl2 _ _ ht), rfl, _, _, rfl, _, _, rfl, rfl, ?_⟩
  refine ⟨_, rfl, _, _, rfl, rfl, _, rfl, ?_⟩
  refine ite2 (fun c2 => ?_) (fun c2 => ?_)
  · exfalso
    have : (2000000 : Int) < k := by simpa using c2
    omega
  have sP := nw (es1.map (·.1) ++ [V.ref t]).dropLast
  have hlP : upd H1 w0 (.lst (es1.map (·.1) ++ [V.ref t]).dropLast) w0 = some (.lst (es1.map (·.1))) := by rw [upd_same]; simp
  have heP : ∀ e ∈ es1, Ent H (upd H1 w0 (.lst (es1.map (·.1) ++ [V.ref t]).dropLast)) e.1 e.2 := fun e he => (hes1 e he).mono hl2
  generalize upd H1 w0 (.lst (es1.map (·.1) ++ [V.ref t]).dropLast) = HP at sP hlP heP ⊢
  have wr : wsum [(V.ref t, r)] = wD r := by simp [wsum, wDs]
  have we : wDs (elemsD r) ≤ wD r := wD_elems r
  have we2 : wDs (elemsD r) < wD r := by cases r <;> first | (simp only [elemsD, wD]; omega) | cases ky
  have w20 : wsum es1 + wDs (elemsD r) ≤ 2000 := by
    rw [wsum_append] at hwe
    omega
  have lenx : xs.length ≤ 2000 := by
    have h1 := hxs.length
    have h2 := len_wDs (elemsD r)
    omega
  have hps := okD_elems oky
  have full : (elemsD r).take xs.length = elemsD r := List.take_of_length_le (by rw [hxs.length]; exact Nat.le_refl _)
  -- agains = [part for part in row if not isinstance(part, str)]
  refine ⟨_, rfl, lc_seqD (K := K) (xs := xs) (hx.mono sP) (fun A i H' => Same HP H' ∧ ∃ acc, H' A = some (.lst acc) ∧ DDs H acc (((elemsD r).take i).filter nStr)) (fun A hA => ⟨same_new hA _, [], upd_same, .nil⟩) ?_ ?_ ?_⟩
  · rintro A i H' hA _ ⟨s3, _⟩
    rcases hx.mono sP with h | h
    · exact (s3 _ _ h).trans h.symm
    · exact (s3 _ _ h).trans h.symm
  · rintro A i xv H' hA e ⟨s3, acc, hA', hacc⟩
    obtain ⟨dv, hdv, hdd⟩ := hxs.get e
    have tk : (elemsD r).take (i + 1) = (elemsD r).take i ++ [dv] := take_more hdv
    refine ⟨rfl, _, rfl, _, _, _, _, _, rfl, .ty _, ty_of (hdd.mono (sP.trans s3)), kI_str, _, rfl, ?_⟩
    have al : acc.length < sizeLine := by
      rw [hacc.length]
      have h1 := List.length_filter_le nStr ((elemsD r).take i)
      rw [List.length_take, ← hxs.length] at h1
      exact Nat.lt_of_le_of_lt (show _ ≤ 2000 by omega) (by decide)
    refine ite2 (fun c3 => ?_) (fun c3 => ?_)
    · refine ⟨_, rfl, acc, hA', al, same_mut s3 hA _, _, upd_same, ?_⟩
      rw [tk, List.filter_append]
      have : nStr dv = true := c3
      simp only [List.filter_cons, this, if_true, List.filter_nil]
      exact hacc.append (.cons hdd .nil)
    · refine ⟨s3, acc, hA', ?_⟩
      rw [tk, List.filter_append]
      have : nStr dv = false := by simpa [nStr] using c3
      simp only [List.filter_cons, this, Bool.false_eq_true, if_false, List.filter_nil, List.append_nil]
      exact hacc
  rintro A H2 hA ⟨s3, ag, hA2, hag⟩
  rw [full] at hag
  have hAH : H A = none := sP.free hA
  have Aw : A ≠ w0 := fun z => by rw [z, hlP] at hA; cases hA
  have sH2 := sP.trans s3
  have lag : ag.length ≤ xs.length := by
    rw [hag.length, hxs.length]
    exact List.length_filter_le _ _
  -- for part in agains
  refine ⟨_, rfl, A, rfl, ⟨_, SqL.of hA2⟩, for_list (K := K) (a := A) (xs := ag) (fun i σ' H' => ∃ (ps : List (V × PyData)) (c : Option V), σ' = [some x, some (.ref w0), some (.ref ar), some (.int k), some (.ref A), c] ∧ Same H H' ∧ H' A = some (.lst ag) ∧
      H' w0 = some (.lst ((es1 ++ ps).map (·.1))) ∧ (∀ e ∈ es1 ++ ps, Ent H H' e.1 e.2) ∧ wsum ps ≤ wDs (((elemsD r).filter nStr).take i) ∧ partsD (((elemsD r).filter nStr).take i) = ps.all fun e => rowD e.2)
      ⟨[], _, rfl, sH2, hA2, by rw [List.append_nil]; exact s3 _ _ hlP, fun e he => (heP e (by simpa using he)).mono fun t zs z => s3 _ _ z, Nat.zero_le _, by simp [partsD]⟩ ?_ ?_ ?_⟩
  · rintro i σ' H' hi ⟨ps, c, rfl, s4, hA4, _⟩
    exact SqL.of hA4
  · rintro i xv σ' H2 hi ⟨ps, c, rfl, s4, hA4, hl4, he4, hw4, hp4⟩
    obtain ⟨dv, hdv, hdd⟩ := hag.get hi
    have mem := List.mem_of_getElem? hdv
    rw [List.mem_filter] at mem
    obtain ⟨memE, nst⟩ := mem
    have nst : dStr dv = false := by simpa [nStr] using nst
    obtain ⟨j, hj⟩ := List.getElem?_of_mem memE
    have okv := oksD_get hps hj
    have wv : wD dv ≤ 2000 := by
      have h1 := wD_le hj
      omega
    have dpv : dv.depth < r.depth := by rw [depth_elems ky]; exact Nat.lt_succ_of_le (depth_le hj)
    refine ⟨_, rfl, xv, dv, rfl, hdd.mono s4, okv, by omega, wv, fun H3 s5 => ⟨_, rfl, ?_⟩⟩
    have hl5 := s5 _ _ hl4
    have hA5 := s5 _ _ hA4
    have he5 : ∀ e ∈ es1 ++ ps, Ent H H3 e.1 e.2 := fun e he => (he4 e he).mono fun t zs z => s5 _ _ z
    have tk : ((elemsD r).filter nStr).take (i + 1) = ((elemsD r).filter nStr).take i ++ [dv] := take_more hdv
    refine ite2 (fun c3 => ?_) (fun c3 => ?_)
    · have q := q H3 (s4.trans s5)
      have z : rowD d = false := by
        rw [hrow, List.all_append]
        have : (elemsD r).all partD = false := by
          rw [List.all_eq_false]
          exact ⟨dv, memE, by rw [part_nstr nst (by simpa using c3)]; simp⟩
        simp [rowD_elems ky, partsD_eq, this]
      rw [z] at q
      exact q
    · -- its row waits
      have c3 : againD dv = true := by simpa using c3
      match dv, hdd, c3 with
      | .tuple [rr, .int tt], @DD.tup _ _ [v1, v2] _ ha2 (.cons h1 (.cons h2 .nil)), c3 =>
        have ha3 := (s4.trans s5) _ _ ha2
        have okr : okD rr = true := by simp only [okD, oksD, Bool.and_eq_true] at okv; exact okv.1
        have kr : dSeq rr = true := by simp only [againD, Bool.and_eq_true] at c3; exact c3.1.1
        have dpr : rr.depth < (PyData.tuple [rr, .int tt]).depth := by simp only [PyData.depth, PyData.depthAll]; omega
        refine ⟨_, rfl, .inl ⟨rfl, _, SqL.of hl5⟩, _, rfl, _, _, _, _, rfl, rfl, SqT.of ha3, atI_nat (j := 0) rfl, _, rfl, _, _, rfl, rfl, (by show 2 ≤ sizeLine; decide), fun t2 ht2 => ?_⟩
        have hw2 : upd H3 t2 (.tup [v1, .int (k + 1)]) w0 = some (.lst ((es1 ++ ps).map (·.1))) := by rw [upd_ne (ne_of_none hl5 ht2)]; exact hl5
        refine ⟨w0, _, _, rfl, rfl, hw2, ?_, ?_⟩
        · rw [List.length_map]
          have h1 : (es1 ++ ps).length ≤ wsum (es1 ++ ps) := by
            have := len_wDs ((es1 ++ ps).map (·.2))
            rw [List.length_map] at this
            exact this
          have h2 : wDs (((elemsD r).filter nStr).take i) ≤ wDs ((elemsD r).filter nStr) := by
            have e := wDs_append (((elemsD r).filter nStr).take i) (((elemsD r).filter nStr).drop i)
            rw [List.take_append_drop] at e
            omega
          have h3 := wDs_filter nStr (elemsD r)
          rw [wsum_append] at h1
          exact Nat.lt_of_le_of_lt (show _ ≤ 2000 by omega) (by decide)
        refine ⟨ps ++ [(.ref t2, rr)], _, rfl, ?_, ?_, ?_, ?_, ?_, ?_⟩
        · exact same_mut (s4.trans (s5.trans (same_new ht2 _))) hw _
        · rw [upd_ne Aw, upd_ne (ne_of_none hA5 ht2)]; exact hA5
        · rw [upd_same]; simp
        · intro e he
          have he : e ∈ es1 ++ ps ∨ e = (.ref t2, rr) := by simpa [or_assoc] using he
          rcases he with he | rfl
          · exact (he5 e he).mono fun t zs z => keep_upd hw2 _ _ _ (by rw [upd_ne (ne_of_none z ht2)]; exact z)
          · refine ⟨t2, _, k + 1, rfl, keep_upd hw2 _ _ _ upd_same, h1, kr, okr, by omega, (show rr.depth + (k + 1).toNat ≤ 60 by omega)⟩
        · rw [wsum_append, tk, wDs_append]
          have : wsum [(V.ref t2, rr)] ≤ wDs [PyData.tuple [rr, .int tt]] := by simp only [wsum, List.map, wDs, wD]; omega
          omega
        · rw [tk, partsD_eq, List.all_append, ← partsD_eq, hp4, List.all_append]
          have : partD (.tuple [rr, .int tt]) = rowD rr := by rw [partD_eq, if_pos c3]; rfl
          simp [this]
  · rintro σ' H4 ⟨ps, c, rfl, s4, hA4, hl4, he4, hw4, hp4⟩
    have fullF : ((elemsD r).filter nStr).take ag.length = (elemsD r).filter nStr := List.take_of_length_le (by rw [hag.length]; exact Nat.le_refl _)
    rw [fullF] at hw4 hp4
    have wf := wDs_filter nStr (elemsD r)
    -- the turn's end: right so far
    have fin : ∀ H', Same H H' → H' w0 = some (.lst ((es1 ++ ps).map (·.1))) → (∀ e ∈ es1 ++ ps, Ent H H' e.1 e.2) → partsD (elemsD r) = (ps.all fun e => rowD e.2) → ∃ m', m' < wsum (es1 ++ [(V.ref t, r)]) ∧
        ∃ (es : List (V × PyData)) (a' b' c' e' : Option V), m' = wsum es ∧ [some x, some (.ref w0), some (.ref ar), some (.int k), some (.ref A), c] = [some x, some (V.ref w0), a', b', c', e'] ∧ Same H H' ∧ H' w0 = some (.lst (es.map (·.1))) ∧
      (∀ e ∈ es, Ent H H' e.1 e.2) ∧ rowD d = (es.all fun e => rowD e.2) ∧ wsum es ≤ wD d := by
      intro H' s5 hl5 he5 e5
      refine ⟨wsum (es1 ++ ps), ?_, es1 ++ ps, _, _, _, _, rfl, rfl, s5, hl5, he5, ?_, ?_⟩
      · rw [wsum_append, wsum_append]
        omega
      · rw [hrow, List.all_append, List.all_append, ← e5]
        simp [rowD_elems ky]
      · rw [wsum_append] at hwe ⊢
        omega
    refine ⟨_, rfl, _, _, rfl, .inl (SqL.of hA4), _, rfl, _, _, rfl, (hx.mono s4).lt, _, _, rfl, rfl, _, rfl, ?_⟩
    refine ite2 (fun c5 => ?_) (fun c5 => ?_)
    · -- texts, too
      refine ⟨_, rfl, dc_seqD (K := K) (xs := xs) (hx.mono s4) (fun D i H' => Same H4 H' ∧ ∃ zs, H' D = some (.dK (setK zs)) ∧ zs.length ≤ i ∧ ∀ z, z ∈ zs ↔ PyData.str z ∈ (elemsD r).take i) (fun D hD => ⟨same_new hD _, [], upd_same, Nat.le_refl _, by simp⟩) ?_ ?_ ?_⟩
      · rintro D i H' hD _ ⟨s5, _⟩
        rcases hx.mono s4 with h | h
        · exact (s5 _ _ h).trans h.symm
        · exact (s5 _ _ h).trans h.symm
      · rintro D i xv H' hD e ⟨s5, zs, hD', hl', hm'⟩
        obtain ⟨dv, hdv, hdd⟩ := hxs.get e
        have tk : (elemsD r).take (i + 1) = (elemsD r).take i ++ [dv] := take_more hdv
        have ilt : i < xs.length := (List.getElem?_eq_some_iff.mp e).1
        refine ⟨rfl, _, rfl, _, _, _, _, _, rfl, .ty _, ty_of (hdd.mono (s4.trans s5)), kI_str, _, rfl, ?_⟩
        refine ite2 (fun c6 => ?_) (fun c6 => ?_)
        · cases hdd with
          | str z =>
            refine ⟨_, rfl, setK zs, Sum.inr z, rfl, hD', ?_, same_mut s5 hD _, _, upd_same.trans (by rw [setK_put]), ?_, fun y => ?_⟩
            · have : (setK zs).length = zs.length := by simp [setK]
              rw [this]
              exact Nat.lt_of_le_of_lt (show _ ≤ 2000 by omega) (by decide)
            · split
              · omega
              · simp; omega
            · rw [tk]
              by_cases hz : z ∈ zs
              · rw [if_pos hz, hm', List.mem_append]
                constructor
                · exact .inl
                · rintro (h | h)
                  · exact h
                  · simp at h
                    subst h
                    exact (hm' _).mp hz
              · rw [if_neg hz, List.mem_append, List.mem_append, hm']
                simp
          | _ => cases c6
        · refine ⟨s5, zs, hD', by omega, fun y => ?_⟩
          rw [hm', tk, List.mem_append]
          constructor
          · exact .inl
          · rintro (h | h)
            · exact h
            · simp at h
              subst h
              exact absurd rfl c6
      · rintro D H5 hD ⟨s5, zs, hD', hl', hm'⟩
        rw [full] at hm'
        refine ⟨D, zs, rfl, hD', by omega, fun z hz => ?_, fun H6 s6 => ⟨_, rfl, ?_⟩⟩
        · have mem := (hm' z).mp hz
          obtain ⟨j, hj⟩ := List.getElem?_of_mem mem
          have := oksD_get hps hj
          simp only [okD, Bool.and_eq_true, decide_eq_true_eq] at this
          exact this.1
        have ps2 := parts_strs hm'
        have s46 := s5.trans s6
        refine ite2 (fun c7 => ?_) (fun c7 => ?_)
        · have q := q H6 (s4.trans s46)
          have z : rowD d = false := by
            rw [hrow, List.all_append]
            have : zs.all isThingS = false := by simpa using c7
            simp [rowD_elems ky, ps2, this]
          rw [z] at q
          exact q
        · have : zs.all isThingS = true := by simpa using c7
          rw [this, Bool.and_true, hp4] at ps2
          exact fin H6 (s4.trans s46) (s46 _ _ hl4) (fun e he => (he4 e he).mono fun t zs z => s46 _ _ z) ps2
    · -- agains alone
      refine iteF (fin H4 s4 hl4 he4 ?_)
      rw [← hp4]
      congr 1
      have c5 : ¬ ag.length < xs.length := by simpa using c5
      rw [hag.length, hxs.length] at c5
      exact (List.length_filter_eq_length_iff.mp (Nat.le_antisymm (List.length_filter_le _ _) (by omega)) |> List.filter_eq_self.mpr).symm
end
end K28

set_option Elab.async false
set_option linter.all false
set_option maxRecDepth 100000
set_option maxHeartbeats 4000000
namespace K28
open PySem PySem.Spec L2 MC
open PyProof.Rows hiding St
def spTill (K : PySem.W.Frag) : Sp := fun vs H Q _ => ∃ (a : Addr) (ns : List Int) (k : Nat), vs = [.ref a, .int (k : Nat)] ∧ SqL K H a (ns.map V.int) ∧ ns.length ≤ 63 ∧ k < 20 ∧ ∀ t H', Same H H' → H t = none → Pot H' t 0 → Q (.ref t) H'
section
variable {P : Program} {w : World} {K : PySem.W.Frag} {mg : Str → Option Value} {base : Heap} {f_l_till f_l_coin : Addr} {fd_l_till fd_l_coin : FuncData}
theorem ok_till (T : Txt K mg) (O_l_till : Own K mg "_law_till" s_l_till f_l_till fd_l_till ["_law_script", "_law_k"]) : FnOk P w K mg base CX0 1 f_l_till fd_l_till ["_law_script", "_law_k"] (spTill K) := by
  refine O_l_till.F.ok sc_l_till (fun vs H Q E h => by obtain ⟨a, ns, k, rfl, _⟩ := h; rfl) (fun cdv A outer s H vs Q E hr h => ?_)
  obtain ⟨a, ns, k, rfl, hS, hl, k20, q⟩ := h
  refine ⟨_, (pss_cons (ps_set (i := 2) sc_l_till.nd rfl (Or.inl rfl) (pe_ifExp (pt_cmpR op_lt (pv 1) (pe_callB (k_len_seq (K := K) rfl) (by rfl) T.n_len (by decide +kernel) (pa_cons (pv 0) pa_nil)) (nomark _)) (pe_ix (k_ix_list (K := K) rfl) (pv 0) (pv 1) (fun _ _ => rfl)) pe_int))
    (pss_one (ps_ret (pe_lst (pa_cons (pe_callB (call_max2 rfl) (by rfl) T.n_max (by decide +kernel) (pa_cons pe_int (pa_cons (pe_op op_sub (pv 2) (pe_op op_pow pe_int pe_int)) pa_nil))) (pa_cons (pe_op op_add (pe_op op_mul (pe_op op_mod (pv 2) (pe_op op_add (pe_op op_pow pe_int pe_int) pe_int)) pe_int) (pv 1)) (pa_cons pe_int pa_nil))))))), ?_⟩
  have rest : ∀ cell : Int, ∀ t, H t = none → Pot (upd H t (.lst [.int (if 0 < cell - 10 ^ (18 : Int).toNat then cell - 10 ^ (18 : Int).toNat else 0), .int (cell % (10 ^ (41 : Int).toNat + 37) * 128 + (k : Nat)), .int 0])) t 0 := fun cell t ht => by
    have h1 := Int.emod_nonneg cell (show (10 ^ (41 : Int).toNat + 37 : Int) ≠ 0 by decide)
    have h2 := Int.emod_lt_of_pos cell (show (0 : Int) < 10 ^ (41 : Int).toNat + 37 by decide)
    refine ⟨_, _, _, upd_same, ?_, ?_, Int.le_refl _, Int.le_refl _⟩
    · omega
    · have h3 : (10 ^ (41 : Int).toNat + 37 : Int) = 100000000000000000000000000000000000000037 := by decide
      rw [h3] at h2 ⊢
      omega
  refine ⟨_, rfl, _, rfl, _, _, rfl, .inl hS, _, _, rfl, rfl, _, rfl, ?_⟩
  have lens : (ns.map V.int).length = ns.length := List.length_map _
  refine ite2 (fun g => ?_) (fun g => ?_)
  · have kl : k < ns.length := by
      have : (k : Int) < ((ns.map V.int).length : Nat) := by simpa using g
      rw [lens] at this; omega
    have ek : (ns.map V.int)[k]? = some (.int ns[k]) := by simp [kl]
    refine ⟨_, rfl, _, rfl, _, _, _, _, rfl, rfl, hS, atI_nat ek, ?_⟩
    generalize ns[k] = cell
    refine ⟨_, rfl, _, _, rfl, rfl, ⟨by decide, by decide, by decide⟩, _, _, rfl, rfl, _, _, rfl, ?_⟩
    refine ⟨_, rfl, _, _, rfl, rfl, ⟨by decide, by decide, by decide⟩, _, _, rfl, rfl, _, _, rfl, rfl, (by show (0 : Int) < 10 ^ (41 : Int).toNat + 37; decide), _, _, rfl, rfl, .inr (by decide), _, rfl, _, _, rfl, rfl, (by show 3 ≤ sizeLine; decide), fun t ht => ?_⟩
    exact q t _ (same_new ht _) ht (rest cell t ht)
  · refine ⟨_, rfl, _, _, rfl, rfl, ⟨by decide, by decide, by decide⟩, _, _, rfl, rfl, _, _, rfl, ?_⟩
    refine ⟨_, rfl, _, _, rfl, rfl, ⟨by decide, by decide, by decide⟩, _, _, rfl, rfl, _, _, rfl, rfl, (by show (0 : Int) < 10 ^ (41 : Int).toNat + 37; decide), _, _, rfl, rfl, .inr (by decide), _, rfl, _, _, rfl, rfl, (by show 3 ≤ sizeLine; decide), fun t ht => ?_⟩
    exact q t _ (same_new ht _) ht (rest 0 t ht)
theorem ok_coin (T : Txt K mg) (O_l_coin : Own K mg "_law_coin" s_l_coin f_l_coin fd_l_coin ["_law_till_here", "_law_many"]) : FnOk P w K mg base CX0 1 f_l_coin fd_l_coin ["_law_till_here", "_law_many"] spDraw := by
  refine O_l_coin.F.ok sc_l_coin spDraw_len (fun cdv A outer s H vs Q E hr h => ?_)
  obtain ⟨t, N, k, rfl, ⟨a, b, c, ht, b0, b1, c0, c1⟩, hN, k1, k2, q⟩ := h
  refine ⟨_, (pss_cons (ps_if (pt_cmpR op_gt (pe_ix (k_ix_list (K := K) rfl) (pv 0) pe_int (fun _ _ => rfl)) pe_int (nomark _))
    (pss_cons (ps_set (i := 2) sc_l_coin.nd rfl (Or.inl rfl) (pe_op op_mod (pe_ix (k_ix_list (K := K) rfl) (pv 0) pe_int (fun _ _ => rfl)) (pv 1)))
    (pss_cons (ps_asg (pe_op op_fdivW (pe_ix (k_ix_list (K := K) rfl) (pv 0) pe_int (fun _ _ => rfl)) (pv 1)) (pg_sub (pv 0) pe_int set_list))
    (pss_one (ps_ret (pv 2)))))
    pss_nil)
    (pss_cons (ps_asg (pe_op op_add (pe_ix (k_ix_list (K := K) rfl) (pv 0) pe_int (fun _ _ => rfl)) pe_int) (pg_sub (pv 0) pe_int set_list))
    (pss_cons (ps_set (i := 3) sc_l_coin.nd rfl (Or.inl rfl) (pe_op op_mod (pe_op op_mulW (pe_op op_add (pe_ix (k_ix_list (K := K) rfl) (pv 0) pe_int (fun _ _ => rfl)) pe_int) (pe_op op_add (pe_op op_mul pe_int (pe_ix (k_ix_list (K := K) rfl) (pv 0) pe_int (fun _ _ => rfl))) pe_int)) (pe_op op_add (pe_op op_pow pe_int pe_int) pe_int)))
    (pss_cons (ps_set (i := 3) sc_l_coin.nd rfl (Or.inl rfl) (pe_op op_mod (pe_op op_add (pe_op op_mulW (pv 3) (pv 3)) (pe_op op_mul pe_int (pe_ix (k_ix_list (K := K) rfl) (pv 0) pe_int (fun _ _ => rfl)))) (pe_op op_add (pe_op op_pow pe_int pe_int) pe_int)))
    (pss_one (ps_ret (pe_op op_mod (pe_op op_fdivW (pe_op op_mod (pe_op op_mulW (pv 3) (pv 3)) (pe_op op_add (pe_op op_pow pe_int pe_int) pe_int)) pe_int) (pv 1)))))))), ?_⟩
  refine ⟨_, rfl, _, _, _, _, rfl, rfl, SqL.of ht, atI_nat (j := 0) rfl, _, _, rfl, rfl, _, rfl, ?_⟩
  refine ite2 (fun g => ?_) (fun g => ?_)
  · have g0 : 0 < a := by simpa using g
    refine ⟨_, rfl, _, _, _, _, rfl, rfl, SqL.of ht, atI_nat (j := 0) rfl, _, rfl, _, _, rfl, rfl, k1, ?_⟩
    refine ⟨_, rfl, _, _, _, _, rfl, rfl, SqL.of ht, atI_nat (j := 0) rfl, _, rfl, _, _, rfl, rfl, ⟨k1, (spDraw_ok k1 k2).2⟩, _, rfl, _, _, _, 0, rfl, rfl, ht, rfl, ?_⟩
    refine ⟨_, rfl, q _ _ (Int.emod_nonneg _ (by omega)) (Int.emod_lt_of_pos _ (by omega)) ((Oth.refl _ _).updt _) ⟨a / k, b, c, upd_same, b0, b1, c0, by omega⟩⟩
  · refine ⟨_, rfl, _, _, _, _, rfl, rfl, SqL.of ht, atI_nat (j := 2) rfl, _, _, rfl, rfl, _, rfl, _, _, _, 2, rfl, rfl, ht, rfl, ?_⟩
    have e5 : upd H t (.lst ([.int a, .int b, .int c].set 2 (.int (c + 1)))) t = some (.lst [.int a, .int b, .int (c + 1)]) := upd_same
    have p43 : (10 ^ (43 : Int).toNat + 57 : Int) = 10000000000000000000000000000000000000000057 := by decide
    have p40 : (10 ^ (40 : Int).toNat + 121 : Int) = 10000000000000000000000000000000000000121 := by decide
    have p38 : (10 ^ (38 : Int).toNat + 133 : Int) = 100000000000000000000000000000000000133 := by decide
    have nb : (b + 1).natAbs < 2 ^ 200 := Nat.lt_of_le_of_lt (show (b + 1).natAbs ≤ 10 ^ 45 by omega) (by decide)
    have nc : (2654435769 * (c + 1) + 40503).natAbs < 2 ^ 200 := Nat.lt_of_le_of_lt (show _ ≤ 2654435769 * (10 ^ 12 + 1) + 40503 by omega) (by decide)
    refine ⟨_, rfl, _, _, _, _, rfl, rfl, SqL.of e5, atI_nat (j := 1) rfl, _, _, rfl, rfl, _, rfl, _, _, _, _, rfl, rfl, SqL.of e5, atI_nat (j := 2) rfl, _, _, rfl, rfl, .inl (by decide), _, _, rfl, rfl, _, _, rfl, rfl, wide_mul nb nc (by decide) (by decide) (by decide), _, _, rfl, rfl, ⟨by decide, by decide, by decide⟩, _, _, rfl, rfl, _, _, rfl, rfl, (by show (0 : Int) < 10 ^ (43 : Int).toNat + 57; decide), ?_⟩
    have mb : ∀ (x m : Int), 0 < m → m.natAbs < 2 ^ 200 → (x % m).natAbs < 2 ^ 200 := fun x m h0 h1 => by
      have o1 := Int.emod_nonneg x (show m ≠ 0 by omega)
      have o2 := Int.emod_lt_of_pos x h0
      exact Nat.lt_trans (show (x % m).natAbs < m.natAbs by omega) h1
    have nx := mb ((b + 1) * (2654435769 * (c + 1) + 40503)) (10 ^ (43 : Int).toNat + 57) (by decide) (by decide)
    refine ⟨_, rfl, _, rfl, _, _, rfl, rfl, wide_mul nx nx (by decide) (by decide) (by decide), _, rfl, _, _, _, _, rfl, rfl, SqL.of e5, atI_nat (j := 2) rfl, _, _, rfl, rfl, .inl (by decide), _, _, rfl, rfl, _, _, rfl, rfl, ⟨by decide, by decide, by decide⟩, _, _, rfl, rfl, _, _, rfl, rfl, (by show (0 : Int) < 10 ^ (40 : Int).toNat + 121; decide), ?_⟩
    have ny := mb ((b + 1) * (2654435769 * (c + 1) + 40503) % (10 ^ (43 : Int).toNat + 57) * ((b + 1) * (2654435769 * (c + 1) + 40503) % (10 ^ (43 : Int).toNat + 57)) + 7368787 * (c + 1)) (10 ^ (40 : Int).toNat + 121) (by decide) (by decide)
    refine ⟨_, rfl, _, rfl, _, _, rfl, rfl, wide_mul ny ny (by decide) (by decide) (by decide), _, _, rfl, rfl, ⟨by decide, by decide, by decide⟩, _, _, rfl, rfl, _, _, rfl, rfl, (by show (0 : Int) < 10 ^ (38 : Int).toNat + 133; decide), _, _, rfl, rfl, ⟨by decide, by decide⟩, _, rfl, _, _, rfl, rfl, k1, ?_⟩
    exact q _ _ (Int.emod_nonneg _ (by omega)) (Int.emod_lt_of_pos _ (by omega)) ((Oth.refl _ _).updt _) ⟨a, b, c + 1, e5, b0, b1, by omega, by omega⟩
end
end K28

set_option Elab.async false
set_option linter.all false
set_option maxRecDepth 100000
set_option maxHeartbeats 4000000
namespace MC
open PySem PySem.Spec L2
theorem map_erase {α β : Type} (f : α → β) : ∀ (l : List α) (i : Nat), (l.map f).eraseIdx i = (l.eraseIdx i).map f
  | [], _ => rfl
  | _ :: _, 0 => rfl
  | x :: l, i + 1 => by simp [List.eraseIdx_cons_succ, map_erase f l i]
theorem okS {z : Str} (h : isThingS z = true) : okD (.str z) = true := by
  unfold isThingS at h
  simp only [Bool.and_eq_true, decide_eq_true_eq, List.all_eq_true] at h
  simp only [okD, Bool.and_eq_true, decide_eq_true_eq, List.all_eq_true]
  refine ⟨by omega, fun c hc => ?_⟩
  have q := h.2 c hc
  unfold isSign at q
  simp only [Bool.and_eq_true, decide_eq_true_eq] at q
  exact Nat.lt_of_le_of_lt q.2 (by decide)
def lets : Str := "abcdefghijklmnopqrstuvwxyz"
def sgn (c : Nat) : Str := ⟨#[c]⟩
def nms1 : List Str := lets.cps.toList.map sgn
def nms2 : List Str := lets.cps.toList.map fun c => "a" ++ sgn c
def nms3 : List Str := ["ba", "abcdefgh", "abcdefgi", "zzzzzzzz", "hit", "miss", "new", "never"]
def nmsAll : List Str := nms1 ++ nms2 ++ nms3
theorem nmsAll_ok : nmsAll.all isThingS = true := by decide +kernel
theorem nmsAll_len : nmsAll.length = 60 := by decide +kernel
theorem lets_len : lets.cps.size = 26 := by decide +kernel
end MC
namespace K28
open PySem PySem.Spec L2 MC
open PyProof.Rows hiding St
section
variable {P : Program} {w : World} {K : PySem.W.Frag} {mg : Str → Option Value} {base : Heap}
def spNames : Sp := fun vs H Q _ => ∃ (t : Addr) (N : Nat) (k : Int), vs = [.ref t, .int k] ∧ Pot H t N ∧ N ≤ 10 ^ 11 ∧ 0 ≤ k ∧ k ≤ 60 ∧
  ∀ p H' (ys : List Str), (ys.length : Int) = k → ys.all isThingS = true → H p = none → Oth t H H' → H' p = some (.lst (ys.map V.str)) → Pot H' t (N + 60) → Q (.ref p) H'
variable {f_l_coin f_l_names : Addr} {fd_l_coin fd_l_names : FuncData}
theorem ok_names (T : Txt K mg) (G_l_coin : FnOk P w K mg base CX0 1 f_l_coin fd_l_coin ["_law_till_here", "_law_many"] spDraw) (O_l_coin : Own K mg "_law_coin" s_l_coin f_l_coin fd_l_coin ["_law_till_here", "_law_many"]) (O_l_names : Own K mg "_law_names" s_l_names f_l_names fd_l_names ["_law_till_here", "_law_many"]) : FnOk P w K mg base CX0 2 f_l_names fd_l_names ["_law_till_here", "_law_many"] spNames := by
  refine O_l_names.F.ok sc_l_names (fun vs H Q E h => by obtain ⟨t, N, k, rfl, _⟩ := h; rfl) (fun cdv A outer s H vs Q E hr h => ?_)
  obtain ⟨t, N, k, rfl, hD, hN, k1, k2, q⟩ := h
  refine ⟨_, (pss_cons (ps_set (i := 2) sc_l_names.nd rfl (Or.inl rfl) pe_str)
    (pss_cons (ps_set (i := 3) sc_l_names.nd rfl (Or.inr rfl) (pe_op op_cat (pe_callTy (call_list_text rfl) (by rfl) T.n_list (by decide +kernel) (pa_cons (pv 2) pa_nil)) (pe_lc (own := [("_law_letter", 4)]) rfl sc_l_names.nd (pi_str (pv 2)) (blkOk_by (own := [("_law_letter", 4)]) (N := ["_law_till_here", "_law_many", "_law_letters", "_law_left", "_law_letter", "_law_k"]) (sc := defScope s_l_names) (by decide +kernel)) (fun _ _ _ _ _ => (pg_name (i := 4) sc_l_names.nd rfl (Or.inl rfl))) (fun _ _ _ _ _ => pts_nil) (fun _ _ _ _ _ => (pe_op op_add_str pe_str (pv 4))))))
    (pss_cons (ps_set (i := 3) sc_l_names.nd rfl (Or.inr rfl) (pe_op op_cat (pv 3) (pe_lst (pa_cons pe_str (pa_cons pe_str (pa_cons pe_str (pa_cons pe_str (pa_cons pe_str (pa_cons pe_str (pa_cons pe_str (pa_cons pe_str pa_nil)))))))))))
    (pss_one (ps_ret (pe_lc (own := [("_law_k", 5)]) rfl sc_l_names.nd (pi_range1 (by rfl) T.n_range (pa_cons (pv 1) pa_nil)) (blkOk_by (own := [("_law_k", 5)]) (N := ["_law_till_here", "_law_many", "_law_letters", "_law_left", "_law_letter", "_law_k"]) (sc := defScope s_l_names) (by decide +kernel)) (fun _ _ _ _ _ => (pg_name (i := 5) sc_l_names.nd rfl (Or.inl rfl))) (fun _ _ _ _ _ => pts_nil) (fun _ _ _ _ _ => (k_bm (K := K) rfl (pe_bm PySem.F.plainAttrs_list PySem.F.slot_list_pop PySem.F.type_list_pop mt_popAt (pv 3) (pa_cons (pe_call G_l_coin (hr.mono (by omega)) rfl O_l_coin.m O_l_coin.F.kp O_l_coin.b .nil pass0 (pa_cons (pv 0) (pa_cons (pe_callB (k_len_seq (K := K) rfl) (by rfl) T.n_len (by decide +kernel) (pa_cons (pv 3) pa_nil)) pa_nil))) pa_nil)))))))))), ?_⟩
  have ll : lets.length ≤ sizeLine := by show lets.cps.size ≤ sizeLine; rw [lets_len]; decide
  -- the letters
  refine ⟨_, rfl, lets, rfl, ll, fun p1 hp1 => ⟨_, rfl, lets, rfl, fun D2 hD2 => ?_⟩⟩
  have e1 : upd H p1 (.lst (signV lets)) p1 = some (.lst (nms1.map V.str)) := by rw [upd_same]; simp [signV, nms1, sgn]
  have s1 := same_new hp1 (.lst (signV lets))
  generalize upd H p1 (.lst (signV lets)) = H1 at e1 s1 hD2
  refine lc_str (fun i H' => Same H1 H' ∧ H' D2 = some (.lst ((lets.cps.toList.take i).map fun c => V.str ("a" ++ sgn c)))) ⟨same_new hD2 _, upd_same⟩ ?_ ?_
  · rintro i c H2 e ⟨s2, h2⟩
    have il : i < 26 := by have := (Array.getElem?_eq_some_iff.mp e).1; rw [lets_len] at this; exact this
    refine ⟨rfl, _, rfl, _, _, rfl, rfl, ?_, _, h2, ?_, same_mut s2 hD2 _, ?_⟩
    · show 1 + 1 ≤ sizeLine; decide
    · rw [List.length_map, List.length_take]; exact Nat.lt_of_le_of_lt (Nat.le_trans (Nat.min_le_left _ _) (Nat.le_of_lt il)) (by decide)
    · rw [upd_same, take_more (x := c) (by simpa using e), List.map_append]; rfl
  rintro H2 ⟨s2, h2⟩
  have e2 : H2 D2 = some (.lst (nms2.map V.str)) := by
    rw [h2, List.take_of_length_le (by simp), nms2, List.map_map]; rfl
  refine ⟨p1, D2, _, _, rfl, rfl, s2 _ _ e1, e2, by simp [nms1, nms2, lets_len]; decide, fun p3 hp3 => ?_⟩
  have e3 : upd H2 p3 (.lst (nms1.map V.str ++ nms2.map V.str)) p3 = some (.lst ((nms1 ++ nms2).map V.str)) := by rw [upd_same, List.map_append]
  have s3 := same_new hp3 (.lst (nms1.map V.str ++ nms2.map V.str))
  generalize upd H2 p3 (.lst (nms1.map V.str ++ nms2.map V.str)) = H3 at e3 s3
  refine ⟨_, rfl, (by show 8 ≤ sizeLine; decide), fun D4 hD4 => ?_⟩
  have e4 : upd H3 D4 (.lst [.str "ba", .str "abcdefgh", .str "abcdefgi", .str "zzzzzzzz", .str "hit", .str "miss", .str "new", .str "never"]) D4 = some (.lst (nms3.map V.str)) := upd_same
  have s4 := same_new hD4 (.lst [.str "ba", .str "abcdefgh", .str "abcdefgi", .str "zzzzzzzz", .str "hit", .str "miss", .str "new", .str "never"])
  refine ⟨p3, D4, _, _, rfl, rfl, s4 _ _ e3, e4, by simp [nms1, nms2, nms3, lets_len]; decide, fun l hl => ?_⟩
  have e5 := upd_same (H := upd H3 D4 (.lst [.str "ba", .str "abcdefgh", .str "abcdefgi", .str "zzzzzzzz", .str "hit", .str "miss", .str "new", .str "never"])) (a := l) (o := .lst ((nms1 ++ nms2).map V.str ++ nms3.map V.str))
  rw [← List.map_append] at e5
  have s5 : Same H (upd (upd H3 D4 (.lst [.str "ba", .str "abcdefgh", .str "abcdefgi", .str "zzzzzzzz", .str "hit", .str "miss", .str "new", .str "never"])) l (.lst ((nms1 ++ nms2).map V.str ++ nms3.map V.str))) := (((s1.trans s2).trans s3).trans s4).trans (same_new hl _)
  have hl0 : H l = none := (((s1.trans s2).trans s3).trans s4).free hl
  rw [← List.map_append] at s5 ⊢
  generalize upd (upd H3 D4 (.lst [.str "ba", .str "abcdefgh", .str "abcdefgi", .str "zzzzzzzz", .str "hit", .str "miss", .str "new", .str "never"])) l (.lst (((nms1 ++ nms2) ++ nms3).map V.str)) = H5 at e5 s5
  have hD5 := hD.same s5
  have lt : l ≠ t := hD.ne hl0
  -- so many are drawn
  refine ⟨_, rfl, _, rfl, by omega, by omega, fun D hD' => ?_⟩
  have DH : H D = none := s5.free hD'
  have Dt : D ≠ t := hD.ne DH
  have lD : l ≠ D := ne_of_none e5 hD'
  refine lc_range (lo := 0) (n := k.toNat) (fun i H' => ∃ left ys : List Str, H' l = some (.lst (left.map V.str)) ∧ H' D = some (.lst (ys.map V.str)) ∧ ys.length = i ∧ left.length + i = 60 ∧ left.all isThingS = true ∧ ys.all isThingS = true ∧
      Oth t H H' ∧ Pot H' t (N + i)) ⟨nmsAll, [], ?_, upd_same, rfl, nmsAll_len, nmsAll_ok, rfl, (Oth.of s5).updn DH _, hD5.upd Dt⟩ ?_ ?_
  · rw [upd_ne lD]; exact e5
  · rintro i H6 hi ⟨left, ys, h1, h2, h3, h4, h5, h6, h7, h8⟩
    have lp : left.length = 60 - i := by omega
    refine ⟨rfl, _, rfl, .inl ⟨rfl, _, SqL.of h1⟩, _, rfl, _, rfl, _, _, rfl, .inl (SqL.of h1), t, N + i, _, rfl, h8, by omega, ?_, ?_, fun r H7 r1 r2 c7 d7 => ?_⟩
    · rw [List.length_map]; omega
    · rw [List.length_map]; omega
    rw [List.length_map] at r2
    have h17 := c7 _ _ lt h1
    have h27 := c7 _ _ Dt h2
    have rl : r.toNat < left.length := by omega
    refine ⟨l, _, r, r.toNat, .str left[r.toNat], rfl, rfl, h17, by omega, by omega, ?_, by simp [rl], ?_⟩
    · rw [List.length_map]
      unfold seqIndex?
      have a1 : ¬ r < 0 := by omega
      have a2 : r < (left.length : Int) := by omega
      simp [a1, a2, r1]
    rw [List.all_eq_true] at h5 h6
    refine ⟨_, by rw [upd_ne lD.symm]; exact h27, ?_, left.eraseIdx r.toNat, ys ++ [left[r.toNat]], ?_, ?_, by simp [h3], ?_, ?_, ?_, ?_, ?_⟩
    · rw [List.length_map]; exact Nat.lt_of_le_of_lt (show _ ≤ 100 by omega) (by decide)
    · rw [upd_ne lD, upd_same, map_erase]
    · rw [upd_same, List.map_append]; rfl
    · rw [List.length_eraseIdx, if_pos rl]; omega
    · rw [List.all_eq_true]
      exact fun x hx => h5 x (List.mem_of_mem_eraseIdx hx)
    · rw [List.all_append, List.all_eq_true.mpr h6]
      simpa using h5 _ (List.getElem_mem rl)
    · exact ((h7.trans c7).updn hl0 _).updn DH _
    · exact (d7.upd lt).upd Dt
  · rintro H6 ⟨left, ys, h1, h2, h3, h4, h5, h6, h7, h8⟩
    exact q D H6 ys (by omega) h6 DH h7 h2 (h8.mono (by omega))
end
end K28

set_option Elab.async false
set_option linter.all false
set_option maxRecDepth 100000
set_option maxHeartbeats 4000000
namespace MC
open PySem PySem.Spec L2
theorem pot_ne {H : Hp} {t nm : Addr} {N : Nat} {y : Str} {ys : List Str} (h : Pot H t N) (k : H nm = some (.lst ((y :: ys).map V.str))) : nm ≠ t := by
  obtain ⟨a, b, c, h1, _⟩ := h
  rintro rfl
  rw [h1] at k
  cases k
def strD (l : List Str) : List PyData := l.map PyData.str
theorem strD_append (a b : List Str) : strD (a ++ b) = strD a ++ strD b := List.map_append ..
theorem strD_facts : ∀ l : List Str, l.all isThingS = true → partsD (strD l) = true ∧ outPs (strD l) = l ∧ oksD (strD l) = true ∧ wDs (strD l) = l.length ∧ PyData.depthAll (strD l) = 0
  | [], _ => ⟨rfl, rfl, rfl, rfl, rfl⟩
  | z :: l, h => by
    rw [List.all_cons, Bool.and_eq_true] at h
    obtain ⟨a, b, c, d, e⟩ := strD_facts l h.2
    have ok := okS h.1
    refine ⟨?_, ?_, ?_, ?_, ?_⟩
    · show (isThingS z && partsD (strD l)) = true
      rw [a, h.1]; rfl
    · show [z] ++ outPs (strD l) = z :: l
      rw [b]; rfl
    · show (okD (.str z) && oksD (strD l)) = true
      rw [c, ok]; rfl
    · show 1 + wDs (strD l) = l.length + 1
      omega
    · show max 0 (PyData.depthAll (strD l)) = 0
      rw [e]; rfl
theorem strs_D {H : Hp} : ∀ l : List Str, DDs H (l.map V.str) (strD l)
  | [] => .nil
  | z :: l => .cons (.str z) (strs_D l)
/-- the data of the rows that are handed -/
def Row5 (asks : List Str) (d : PyData) : Prop := rowD d = true ∧ outR d = asks ∧ okD d = true ∧ d.depth ≤ 8 ∧ wD d ≤ 1000
theorem row5_mid {head loop tail : List Str} {times : Int} {inner : PyData} (hh : head.all isThingS = true) (ht : tail.all isThingS = true) (h1 : 1 ≤ times) (h2 : times ≤ 400) (lh : head.length ≤ 100) (lt : tail.length ≤ 100)
    (hi : rowD inner = true) (hn : dNil inner = false) (ho : outR inner = loop) (hk : okD inner = true) (hd : inner.depth ≤ 3) (hw : wD inner ≤ 110) :
    partsD (strD head ++ [.tuple [inner, .int times]] ++ strD tail) = true ∧ outPs (strD head ++ [.tuple [inner, .int times]] ++ strD tail) = head ++ (List.replicate times.toNat loop).flatten ++ tail ∧ oksD (strD head ++ [.tuple [inner, .int times]] ++ strD tail) = true ∧
    PyData.depthAll (strD head ++ [.tuple [inner, .int times]] ++ strD tail) ≤ 4 ∧ wDs (strD head ++ [.tuple [inner, .int times]] ++ strD tail) ≤ 400 := by
  obtain ⟨a1, a2, a3, a4, a5⟩ := strD_facts head hh
  obtain ⟨b1, b2, b3, b4, b5⟩ := strD_facts tail ht
  have tk : timesOk times = true := by simp only [timesOk, Bool.and_eq_true, decide_eq_true_eq]; omega
  have ik : okD (.int times) = true := by
    simp only [okD, decide_eq_true_eq]
    exact Nat.lt_of_le_of_lt (show times.natAbs ≤ 400 by omega) (by decide)
  refine ⟨?_, ?_, ?_, ?_, ?_⟩
  · rw [partsD_eq] at a1 b1 ⊢
    rw [List.all_append, List.all_append, a1, b1, ← partsD_eq]
    show (true && ((timesOk times && !dNil inner && rowD inner) && true) && true) = true
    rw [tk, hn, hi]; rfl
  · rw [outPs_append, outPs_append, a2, b2]
    show head ++ ((List.replicate times.toNat (outR inner)).flatten ++ []) ++ tail = _
    rw [ho, List.append_nil]
  · rw [oksD_append, oksD_append, a3, b3]
    show (true && ((okD inner && (okD (.int times) && true)) && true) && true) = true
    rw [hk, ik]; rfl
  · rw [depthAll_append, depthAll_append, a5, b5]
    simp only [PyData.depthAll, PyData.depth]; omega
  · rw [wDs_append, wDs_append, a4, b4]
    simp only [wDs, wD]; omega
theorem row5_all {head loop tail : List Str} {times : Int} (hh : head.all isThingS = true) (hl : loop.all isThingS = true) (ht : tail.all isThingS = true) (h1 : 1 ≤ times) (h2 : times ≤ 400) (lh : head.length ≤ 100) (ll : loop.length ≤ 100) (lt : tail.length ≤ 100) (nl : loop ≠ []) :
    Row5 (head ++ (List.replicate times.toNat loop).flatten ++ tail) (.list (strD head ++ [.tuple [.list (strD loop), .int times]] ++ strD tail)) ∧
    Row5 (head ++ (List.replicate times.toNat loop).flatten ++ tail) (.list [.tuple [.list (strD head ++ [.tuple [.list [.tuple [.list (strD loop), .int 1]], .int times]] ++ strD tail), .int 1]]) ∧
    Row5 (head ++ (List.replicate times.toNat loop).flatten ++ tail) (.tuple (strD head ++ [.tuple [.tuple (strD loop), .int times]] ++ strD tail)) := by
  obtain ⟨c1, c2, c3, c4, c5⟩ := strD_facts loop hl
  have nS : strD loop ≠ [] := fun z => nl (by cases loop with | nil => rfl | cons _ _ => cases z)
  have nN : dNil (.list (strD loop)) = false ∧ dNil (.tuple (strD loop)) = false := by
    cases e : strD loop with
    | nil => exact absurd e nS
    | cons _ _ => exact ⟨rfl, rfl⟩
  have A := row5_mid (inner := .list (strD loop)) (loop := loop) hh ht h1 h2 lh lt c1 nN.1 c2 c3 (by simp only [PyData.depth, c5]; omega) (by simp only [wD, c4]; omega)
  have B := row5_mid (inner := .tuple (strD loop)) (loop := loop) hh ht h1 h2 lh lt c1 nN.2 c2 c3 (by simp only [PyData.depth, c5]; omega) (by simp only [wD, c4]; omega)
  have C := row5_mid (inner := .list [.tuple [.list (strD loop), .int 1]]) (loop := loop) hh ht h1 h2 lh lt (by
    show (partD (.tuple [.list (strD loop), .int 1]) && true) = true
    show ((timesOk 1 && !dNil (.list (strD loop)) && partsD (strD loop)) && true) = true
    rw [nN.1, c1]; rfl) rfl (by
    show (List.replicate 1 (outPs (strD loop))).flatten ++ [] = loop
    rw [c2]; simp) (by
    show ((oksD (strD loop) && (okD (.int 1) && true)) && true) = true
    rw [c3]; rfl) (by simp only [PyData.depth, PyData.depthAll, c5]; omega) (by simp only [wD, wDs, c4]; omega)
  have ne : ∀ x : PyData, strD head ++ [x] ++ strD tail ≠ [] := fun x z => by simp at z
  refine ⟨⟨A.1, A.2.1, A.2.2.1, ?_, ?_⟩, ⟨?_, ?_, ?_, ?_, ?_⟩, ⟨B.1, B.2.1, B.2.2.1, ?_, ?_⟩⟩
  · have := A.2.2.2.1; simp only [PyData.depth]; omega
  · have := A.2.2.2.2; simp only [wD]; omega
  · show ((timesOk 1 && !dNil (.list _) && partsD _) && true) = true
    rw [C.1]
    have : ∀ xs : List PyData, xs ≠ [] → dNil (.list xs) = false := fun xs h => by cases xs <;> first | rfl | exact absurd rfl h
    rw [this _ (ne _)]
    rfl
  · show (List.replicate 1 (outPs _)).flatten ++ [] = _
    rw [C.2.1]; simp
  · show ((oksD _ && (okD (.int 1) && true)) && true) = true
    rw [C.2.2.1]; rfl
  · have := C.2.2.2.1; simp only [PyData.depth, PyData.depthAll]; omega
  · have := C.2.2.2.2; simp only [wD, wDs]; omega
  · have := B.2.2.2.1; simp only [PyData.depth]; omega
  · have := B.2.2.2.2; simp only [wD]; omega
theorem row5_flat {l : List Str} (h : l.all isThingS = true) (ll : l.length ≤ 400) : Row5 l (.list (strD l)) ∧ Row5 l (.tuple (strD l)) := by
  obtain ⟨a, b, c, d, e⟩ := strD_facts l h
  refine ⟨⟨a, b, c, ?_, ?_⟩, ⟨a, b, c, ?_, ?_⟩⟩
  · simp only [PyData.depth, e]; omega
  · simp only [wD, d]; omega
  · simp only [PyData.depth, e]; omega
  · simp only [wD, d]; omega
/-- t + u, however empty -/
theorem catA_any {K : PySem.W.Frag} {H : Hp} {a b : Addr} {xs ys : List V} {Q : VK} (ha : H a = some (.tup xs)) (hb : H b = some (.tup ys)) (hz : xs.length + ys.length ≤ sizeLine)
    (q : ∀ p H', Same H H' → H' p = some (.tup (xs ++ ys)) → Q (.ref p) H') : rCatA K (.ref a) (.ref b) H Q := by
  refine ⟨a, b, xs, ys, rfl, rfl, SqT.of ha, SqT.of hb, hz, fun z => ?_, fun _ z => ?_, fun _ _ p hp => q p _ (same_new hp _) upd_same⟩
  · subst z; exact q b H (Same.refl H) hb
  · subst z; exact q a H (Same.refl H) (by rw [List.append_nil]; exact ha)
end MC
namespace K28
open PySem PySem.Spec L2 MC
open PyProof.Rows hiding St
def spSome : Sp := fun vs H Q _ => ∃ (t nm : Addr) (N : Nat) (ys : List Str) (most : Int), vs = [.ref t, .ref nm, .int most] ∧ Pot H t N ∧ N ≤ 10 ^ 11 ∧ H nm = some (.lst (ys.map V.str)) ∧ ys ≠ [] ∧ ys.length ≤ 100 ∧ ys.all isThingS = true ∧ 0 ≤ most ∧ most ≤ 400 ∧
  ∀ p H' (l : List Str), (l.length : Int) ≤ most → l.all isThingS = true → H p = none → Oth t H H' → H' p = some (.lst (l.map V.str)) → Pot H' t (N + 1000) → Q (.ref p) H'
section
variable {P : Program} {w : World} {K : PySem.W.Frag} {mg : Str → Option Value} {base : Heap}
variable {f_l_coin f_l_some : Addr} {fd_l_coin fd_l_some : FuncData}
theorem ok_some (T : Txt K mg) (G_l_coin : FnOk P w K mg base CX0 1 f_l_coin fd_l_coin ["_law_till_here", "_law_many"] spDraw) (O_l_coin : Own K mg "_law_coin" s_l_coin f_l_coin fd_l_coin ["_law_till_here", "_law_many"]) (O_l_some : Own K mg "_law_some" s_l_some f_l_some fd_l_some ["_law_till_here", "_law_names_here", "_law_most"]) : FnOk P w K mg base CX0 2 f_l_some fd_l_some ["_law_till_here", "_law_names_here", "_law_most"] spSome := by
  refine O_l_some.F.ok sc_l_some (fun vs H Q E h => by obtain ⟨t, nm, N, ys, most, rfl, _⟩ := h; rfl) (fun cdv A outer s H vs Q E hr h => ?_)
  obtain ⟨t, nm, N, ys, most, rfl, hD, hN, hnm, yne, yl, yok, m0, m1, q⟩ := h
  refine ⟨_, (pss_cons (ps_set (i := 3) sc_l_some.nd rfl (Or.inl rfl) (pe_call G_l_coin (hr.mono (by omega)) rfl O_l_coin.m O_l_coin.F.kp O_l_coin.b .nil pass0 (pa_cons (pv 0) (pa_cons pe_int pa_nil))))
    (pss_cons (ps_set (i := 4) sc_l_some.nd rfl (Or.inl rfl) (pe_call G_l_coin (hr.mono (by omega)) rfl O_l_coin.m O_l_coin.F.kp O_l_coin.b .nil pass0 (pa_cons (pv 0) (pa_cons (pe_callB (k_len_seq (K := K) rfl) (by rfl) T.n_len (by decide +kernel) (pa_cons (pv 1) pa_nil)) pa_nil))))
    (pss_cons (ps_set (i := 5) sc_l_some.nd rfl (Or.inl rfl) (pe_lst pa_nil))
    (pss_cons (ps_for PassesOwn.never rfl (pi_range1 (by rfl) T.n_range (pa_cons (pe_call G_l_coin (hr.mono (by omega)) rfl O_l_coin.m O_l_coin.F.kp O_l_coin.b .nil pass0 (pa_cons (pv 0) (pa_cons (pe_op op_add (pv 2) pe_int) pa_nil))) pa_nil)) (pg_name (i := 6) sc_l_some.nd rfl (Or.inl rfl))
    (pss_cons (ps_set (i := 4) sc_l_some.nd rfl (Or.inl rfl) (pe_op op_mod (pe_op op_add (pv 4) (pe_ix (k_ix_list (K := K) rfl) (pe_lst (pa_cons (pe_call G_l_coin (hr.mono (by omega)) rfl O_l_coin.m O_l_coin.F.kp O_l_coin.b .nil pass0 (pa_cons (pv 0) (pa_cons (pe_callB (k_len_seq (K := K) rfl) (by rfl) T.n_len (by decide +kernel) (pa_cons (pv 1) pa_nil)) pa_nil))) (pa_cons (pe_op op_sub (pe_call G_l_coin (hr.mono (by omega)) rfl O_l_coin.m O_l_coin.F.kp O_l_coin.b .nil pass0 (pa_cons (pv 0) (pa_cons pe_int pa_nil))) pe_int) (pa_cons pe_int pa_nil)))) (pv 3) (fun _ _ => rfl))) (pe_callB (k_len_seq (K := K) rfl) (by rfl) T.n_len (by decide +kernel) (pa_cons (pv 1) pa_nil))))
    (pss_one (ps_expr (k_bm (K := K) rfl (pe_bm PySem.F.plainAttrs_list PySem.F.slot_list_append PySem.F.type_list_append mt_append (pv 5) (pa_cons (pe_ix (k_ix_list (K := K) rfl) (pv 1) (pv 4) (fun _ _ => rfl)) pa_nil)))))))
    (pss_one (ps_ret (pv 5))))))), ?_⟩
  have nt : nm ≠ t := by
    cases ys with
    | nil => exact absurd rfl yne
    | cons y ys => exact pot_ne hD hnm
  have yp : 0 < ys.length := List.length_pos_iff.mpr yne
  have yl2 : (ys.map V.str).length = ys.length := List.length_map _
  refine ⟨_, rfl, t, N, 3, rfl, hD, by omega, by decide, by decide, fun way H1 w0 w1 o1 d1 => ?_⟩
  have h1 := o1 _ _ nt hnm
  refine ⟨_, rfl, _, rfl, _, _, rfl, .inl (SqL.of h1), t, N + 1, _, rfl, d1, by omega, by omega, by omega, fun at0 H2 a0 a1 o2 d2 => ?_⟩
  have h2 := o2 _ _ nt h1
  have o12 := o1.trans o2
  refine ⟨Nat.zero_le _, fun f hf => ?_⟩
  have fH : H f = none := o12.free d2.at hf
  have ft : f ≠ t := hD.ne fH
  have fn : f ≠ nm := fun z => by rw [z, hnm] at fH; cases fH
  have s3 := same_new hf (.lst [])
  have d3 := d2.upd (o := .lst []) ft
  have h3 := s3 _ _ h2
  have hf3 : upd H2 f (.lst []) f = some (.lst []) := upd_same
  generalize upd H2 f (.lst []) = H3 at s3 d3 h3 hf3
  refine ⟨_, rfl, _, rfl, _, _, rfl, rfl, t, N + 1 + 1, most + 1, rfl, d3, by omega, by omega, by omega, fun r H4 r0 r1 o4 d4 => ⟨_, rfl, by omega, by omega, ?_⟩⟩
  refine for_range (lo := 0) (n := r.toNat) (fun i σ H' => ∃ (at1 : Int) (l : List Str) (s6 : Option V), σ = [some (.ref t), some (.ref nm), some (.int most), some (.int way), some (.int at1), some (.ref f), s6] ∧ 0 ≤ at1 ∧ at1 < ys.length ∧ H' f = some (.lst (l.map V.str)) ∧ l.length = i ∧ l.all isThingS = true ∧
      Oth t H H' ∧ H' nm = some (.lst (ys.map V.str)) ∧ Pot H' t (N + 3 + 2 * i)) ⟨at0, [], _, rfl, a0, by omega, o4 _ _ ft hf3, rfl, rfl, (o12.same s3).trans o4, o4 _ _ nt h3, d4.mono (by omega)⟩ ?_ ?_
  · rintro i σ H5 hi ⟨at1, l, s6, rfl, b0, b1, hf5, ll, lok, o5, h5, d5⟩
    have i400 : i < 400 := by omega
    refine ⟨_, rfl, _, rfl, _, rfl, _, _, rfl, .inl (SqL.of h5), t, _, _, rfl, d5, by omega, by omega, by omega, fun r1' H6 r10 r11 o6 d6 => ?_⟩
    refine ⟨_, rfl, t, _, 3, rfl, d6, by omega, by decide, by decide, fun r2 H7 r20 r21 o7 d7 => ⟨_, _, rfl, rfl, (by show 3 ≤ sizeLine; decide), fun q3 hq3 => ?_⟩⟩
    obtain ⟨v, hv⟩ : ∃ v : Int, atI [V.int r1', V.int (r2 - 1), V.int 1] way = some (.int v) := by
      obtain rfl | rfl | rfl : way = 0 ∨ way = 1 ∨ way = 2 := by omega
      · exact ⟨_, rfl⟩
      · exact ⟨_, rfl⟩
      · exact ⟨_, rfl⟩
    have o57 := o6.trans o7
    have s8 := same_new hq3 (.lst [V.int r1', V.int (r2 - 1), V.int 1])
    have h8 := s8 _ _ (o57 _ _ nt h5)
    have hf8 := s8 _ _ (o57 _ _ ft hf5)
    have d8 := d7.same s8
    have o8 := (o5.trans o57).same s8
    have hq3' : upd H7 q3 (.lst [V.int r1', V.int (r2 - 1), V.int 1]) q3 = some (.lst [V.int r1', V.int (r2 - 1), V.int 1]) := upd_same
    generalize upd H7 q3 (.lst [V.int r1', V.int (r2 - 1), V.int 1]) = H8 at s8 h8 hf8 d8 o8 hq3'
    refine ⟨_, rfl, _, _, _, _, rfl, rfl, SqL.of hq3', hv, _, _, rfl, rfl, _, rfl, _, _, rfl, .inl (SqL.of h8), _, _, rfl, rfl, (by show (0 : Int) < ((ys.map V.str).length : Nat); omega), ?_⟩
    have e0 := Int.emod_nonneg (at1 + v) (show (((ys.map V.str).length : Nat) : Int) ≠ 0 by omega)
    have e1 := Int.emod_lt_of_pos (at1 + v) (show (0 : Int) < ((ys.map V.str).length : Nat) by omega)
    obtain ⟨j, hj⟩ : ∃ j : Nat, (at1 + v) % ((ys.map V.str).length : Nat) = (j : Int) := ⟨_, (Int.toNat_of_nonneg e0).symm⟩
    have jl : j < ys.length := by omega
    have gj : (ys.map V.str)[j]? = some (.str ys[j]) := by simp [jl]
    refine ⟨_, rfl, .inl ⟨rfl, _, SqL.of hf8⟩, _, rfl, _, rfl, _, _, _, _, rfl, rfl, SqL.of h8, (by rw [hj]; exact atI_nat gj), f, _, _, rfl, rfl, hf8, ?_, ?_⟩
    · rw [List.length_map]; exact Nat.lt_of_le_of_lt (show _ ≤ 400 by omega) (by decide)
    · refine ⟨_, l ++ [ys[j]], _, rfl, e0, by omega, ?_, by rw [List.length_append, ll]; rfl, ?_, o8.updn fH _, by rw [upd_ne fn.symm]; exact h8, (d8.upd ft).mono (by omega)⟩
      · rw [upd_same, List.map_append]; rfl
      · rw [List.all_append, lok]
        simpa using List.all_eq_true.mp yok _ (List.getElem_mem jl)
  · rintro σ H5 ⟨at1, l, s6, rfl, b0, b1, hf5, ll, lok, o5, h5, d5⟩
    exact ⟨_, rfl, q f H5 l (by omega) lok fH o5 hf5 (d5.mono (by omega))⟩
end
end K28

set_option Elab.async false
set_option linter.all false
set_option maxRecDepth 100000
set_option maxHeartbeats 4000000
namespace MC
open PySem PySem.Spec L2
/-- a row has no node where the pot lies -/
theorem hide_parts {H : Hp} {t : Addr} {a b c : Int} (ht : H t = some (.lst [.int a, .int b, .int c])) : ∀ (n : Nat) (ds : List PyData) (xs : List V), wDs ds ≤ n → partsD ds = true → DDs H xs ds → DDs (Hid [t] H) xs ds ∧ ∀ i, xs ≠ .int i :: xs.tail := by
  intro n
  induction n with
  | zero =>
    intro ds xs hn hp hd
    cases hd with
    | nil => exact ⟨.nil, fun i z => nomatch z⟩
    | @cons v vs d ds h hs => have := wD_pos d; simp only [wDs] at hn; omega
  | succ n ih =>
    intro ds
    induction ds with
    | nil =>
      intro xs _ _ hd
      cases hd
      exact ⟨.nil, fun i z => nomatch z⟩
    | cons d ds ihd =>
      intro xs hn hp hd
      simp only [partsD, Bool.and_eq_true] at hp
      simp only [wDs] at hn
      have wp := wD_pos d
      cases hd with
      | @cons v vs _ _ h hs =>
      obtain ⟨k1, _⟩ := ihd vs (by omega) hp.2 hs
      rcases partD_cases hp.1 with ⟨z, rfl, _⟩ | ⟨r, tm, rfl, t1, t2, hn2, hrow⟩
      · cases h
        exact ⟨.cons (.str z) k1, fun i z => by injection z with z; cases z⟩
      · cases h with
        | @tup p ys _ hp1 hys =>
        match ys, hys with
        | [v1, v2], .cons h1 (.cons h2 .nil) =>
          cases h2
          have nt : p ≠ t := fun z => by rw [z, ht] at hp1; cases hp1
          have k0 := rowD_is hrow
          have we := wD_elems r
          simp only [wD, wDs] at hn
          have hr2 : DD (Hid [t] H) v1 r := by
            rw [rowD_elems k0] at hrow
            cases h1 with
            | @lst q zs es hq hz =>
              obtain ⟨j1, j2⟩ := ih es zs (by simp only [wD] at hn; omega) hrow hz
              have nq : q ≠ t := fun z => by
                rw [z, ht] at hq
                cases hq
                exact j2 a rfl
              exact .lst (by rw [hid_out (by simpa using nq)]; exact hq) j1
            | @tup q zs es hq hz =>
              obtain ⟨j1, j2⟩ := ih es zs (by simp only [wD] at hn; omega) hrow hz
              have nq : q ≠ t := fun z => by rw [z, ht] at hq; cases hq
              exact .tup (by rw [hid_out (by simpa using nq)]; exact hq) j1
            | _ => cases k0
          exact ⟨.cons (.tup (by rw [hid_out (by simpa using nt)]; exact hp1) (.cons hr2 (.cons (.int _) .nil))) k1, fun i z => by injection z with z; cases z⟩
theorem hide_all {H : Hp} {t : Addr} {N : Nat} {v : V} {d : PyData} (hp : Pot H t N) (hr : rowD d = true) (h : DD H v d) : DD (Hid [t] H) v d := by
  obtain ⟨a, b, c, ht, _⟩ := hp
  have k0 := rowD_is hr
  rw [rowD_elems k0] at hr
  cases h with
  | @lst q zs es hq hz =>
    obtain ⟨j1, j2⟩ := hide_parts ht _ es zs (Nat.le_refl _) hr hz
    have nq : q ≠ t := fun z => by
      rw [z, ht] at hq
      cases hq
      exact j2 a rfl
    exact .lst (by rw [hid_out (by simpa using nq)]; exact hq) j1
  | @tup q zs es hq hz =>
    obtain ⟨j1, j2⟩ := hide_parts ht _ es zs (Nat.le_refl _) hr hz
    have nq : q ≠ t := fun z => by rw [z, ht] at hq; cases hq
    exact .tup (by rw [hid_out (by simpa using nq)]; exact hq) j1
  | _ => cases k0
end MC
namespace K28
open PySem PySem.Spec L2 MC
open PyProof.Rows hiding St
def spRow5 : Sp := fun vs H Q _ => ∃ (t : Addr) (N : Nat) (most wide : Int), vs = [.ref t, .int most, .int wide] ∧ Pot H t N ∧ N ≤ 10 ^ 10 ∧ 8 ≤ most ∧ most ≤ 400 ∧ 1 ≤ wide ∧ wide ≤ 60 ∧
  ∀ p a rv H' (asks : List Str) (d : PyData), Oth t H H' → H p = none → H' p = some (.lst [rv, .ref a]) → H a = none → H' a = some (.lst (asks.map V.str)) → asks.all isThingS = true → asks.length ≤ 400 → DD (Hid [t] H') rv d → Row5 asks d → Pot H' t (N + 5000) → Q (.ref p) H'
section
variable {P : Program} {w : World} {K : PySem.W.Frag} {mg : Str → Option Value} {base : Heap}
variable {f_l_coin f_l_names f_l_some f_l_row : Addr} {fd_l_coin fd_l_names fd_l_some fd_l_row : FuncData}
theorem ok_row (T : Txt K mg) (G_l_coin : FnOk P w K mg base CX0 1 f_l_coin fd_l_coin ["_law_till_here", "_law_many"] spDraw) (G_l_names : FnOk P w K mg base CX0 2 f_l_names fd_l_names ["_law_till_here", "_law_many"] spNames) (G_l_some : FnOk P w K mg base CX0 2 f_l_some fd_l_some ["_law_till_here", "_law_names_here", "_law_most"] spSome)
    (O_l_coin : Own K mg "_law_coin" s_l_coin f_l_coin fd_l_coin ["_law_till_here", "_law_many"]) (O_l_names : Own K mg "_law_names" s_l_names f_l_names fd_l_names ["_law_till_here", "_law_many"]) (O_l_some : Own K mg "_law_some" s_l_some f_l_some fd_l_some ["_law_till_here", "_law_names_here", "_law_most"]) (O_l_row : Own K mg "_law_row" s_l_row f_l_row fd_l_row ["_law_till_here", "_law_most", "_law_wide"]) : FnOk P w K mg base CX0 3 f_l_row fd_l_row ["_law_till_here", "_law_most", "_law_wide"] spRow5 := by
  refine O_l_row.F.ok sc_l_row (fun vs H Q E h => by obtain ⟨t, N, most, wide, rfl, _⟩ := h; rfl) (fun cdv A outer s H vs Q E hr h => ?_)
  obtain ⟨t, N, most, wide, rfl, hD, hN, mo1, mo2, wi1, wi2, q⟩ := h
  refine ⟨_, (pss_cons (ps_set (i := 3) sc_l_row.nd rfl (Or.inl rfl) (pe_call G_l_names (hr.mono (by omega)) rfl O_l_names.m O_l_names.F.kp O_l_names.b .nil pass0 (pa_cons (pv 0) (pa_cons (pe_op op_add pe_int (pe_call G_l_coin (hr.mono (by omega)) rfl O_l_coin.m O_l_coin.F.kp O_l_coin.b .nil pass0 (pa_cons (pv 0) (pa_cons (pe_ix (k_ix_list (K := K) rfl) (pe_lst (pa_cons pe_int (pa_cons pe_int (pa_cons (pv 2) pa_nil)))) (pe_call G_l_coin (hr.mono (by omega)) rfl O_l_coin.m O_l_coin.F.kp O_l_coin.b .nil pass0 (pa_cons (pv 0) (pa_cons pe_int pa_nil))) (fun _ _ => rfl)) pa_nil)))) pa_nil))))
    (pss_cons (ps_set (i := 4) sc_l_row.nd rfl (Or.inl rfl) (pe_callB (call_min2 rfl) (by rfl) T.n_min (by decide +kernel) (pa_cons (pe_op op_fdivW (pv 1) pe_int) (pa_cons pe_int pa_nil))))
    (pss_cons (ps_set (i := 5) sc_l_row.nd rfl (Or.inl rfl) (pe_call G_l_some (hr.mono (by omega)) rfl O_l_some.m O_l_some.F.kp O_l_some.b .nil pass0 (pa_cons (pv 0) (pa_cons (pv 3) (pa_cons (pv 4) pa_nil)))))
    (pss_cons (ps_set (i := 6) sc_l_row.nd rfl (Or.inl rfl) (pe_op op_cat (pe_call G_l_some (hr.mono (by omega)) rfl O_l_some.m O_l_some.F.kp O_l_some.b .nil pass0 (pa_cons (pv 0) (pa_cons (pv 3) (pa_cons (pe_op op_sub (pv 4) pe_int) pa_nil)))) (pe_lst (pa_cons (pe_ix (k_ix_list (K := K) rfl) (pv 3) pe_int (fun _ _ => rfl)) pa_nil))))
    (pss_cons (ps_set (i := 7) sc_l_row.nd rfl (Or.inl rfl) (pe_op op_add pe_int (pe_call G_l_coin (hr.mono (by omega)) rfl O_l_coin.m O_l_coin.F.kp O_l_coin.b .nil pass0 (pa_cons (pv 0) (pa_cons (pe_op op_fdivW (pe_op op_sub (pv 1) (pe_op op_mul pe_int (pv 4))) (pe_callB (k_len_seq (K := K) rfl) (by rfl) T.n_len (by decide +kernel) (pa_cons (pv 6) pa_nil))) pa_nil)))))
    (pss_cons (ps_set (i := 8) sc_l_row.nd rfl (Or.inl rfl) (pe_call G_l_some (hr.mono (by omega)) rfl O_l_some.m O_l_some.F.kp O_l_some.b .nil pass0 (pa_cons (pv 0) (pa_cons (pv 3) (pa_cons (pv 4) pa_nil)))))
    (pss_cons (ps_set (i := 9) sc_l_row.nd rfl (Or.inl rfl) (pe_op op_cat (pe_op op_cat (pv 5) (pe_op op_rep (pv 6) (pv 7))) (pv 8)))
    (pss_cons (ps_set (i := 10) sc_l_row.nd rfl (Or.inl rfl) (pe_lst (pa_cons (pe_op op_cat (pe_op op_cat (pv 5) (pe_lst (pa_cons (pe_tup (pa_cons (pv 6) (pa_cons (pv 7) pa_nil))) pa_nil))) (pv 8)) (pa_cons (pe_lst (pa_cons (pe_tup (pa_cons (pe_op op_cat (pe_op op_cat (pv 5) (pe_lst (pa_cons (pe_tup (pa_cons (pe_lst (pa_cons (pe_tup (pa_cons (pv 6) (pa_cons pe_int pa_nil))) pa_nil)) (pa_cons (pv 7) pa_nil))) pa_nil))) (pv 8)) (pa_cons pe_int pa_nil))) pa_nil)) pa_nil))))
    (pss_cons (ps_expr (k_bm (K := K) rfl (pe_bm PySem.F.plainAttrs_list PySem.F.slot_list_append PySem.F.type_list_append mt_append (pv 10) (pa_cons (pe_op op_catA (pe_op op_catA (pe_callTy (k_tuple_of (K := K) rfl) (by rfl) T.n_tuple (by decide +kernel) (pa_cons (pv 5) pa_nil)) (pe_tup (pa_cons (pe_tup (pa_cons (pe_callTy (k_tuple_of (K := K) rfl) (by rfl) T.n_tuple (by decide +kernel) (pa_cons (pv 6) pa_nil)) (pa_cons (pv 7) pa_nil))) pa_nil))) (pe_callTy (k_tuple_of (K := K) rfl) (by rfl) T.n_tuple (by decide +kernel) (pa_cons (pv 8) pa_nil))) pa_nil))))
    (pss_cons (ps_if (pt_cmpR op_lt (pe_callB (k_len_seq (K := K) rfl) (by rfl) T.n_len (by decide +kernel) (pa_cons (pv 9) pa_nil)) pe_int (nomark _))
    (pss_one (ps_set (i := 10) sc_l_row.nd rfl (Or.inl rfl) (pe_op op_cat (pv 10) (pe_lst (pa_cons (pe_callTy (k_list_of (K := K) rfl) (by rfl) T.n_list (by decide +kernel) (pa_cons (pv 9) pa_nil)) (pa_cons (pe_callTy (k_tuple_of (K := K) rfl) (by rfl) T.n_tuple (by decide +kernel) (pa_cons (pv 9) pa_nil)) pa_nil))))))
    pss_nil)
    (pss_one (ps_ret (pe_lst (pa_cons (pe_ix (k_ix_list (K := K) rfl) (pv 10) (pe_call G_l_coin (hr.mono (by omega)) rfl O_l_coin.m O_l_coin.F.kp O_l_coin.b .nil pass0 (pa_cons (pv 0) (pa_cons (pe_callB (k_len_seq (K := K) rfl) (by rfl) T.n_len (by decide +kernel) (pa_cons (pv 10) pa_nil)) pa_nil))) (fun _ _ => rfl)) (pa_cons (pv 9) pa_nil))))))))))))))), ?_⟩
  -- the names
  refine ⟨_, rfl, _, rfl, _, rfl, (by show 3 ≤ sizeLine; decide), fun q0 hq0 => ⟨_, rfl, t, N, 3, rfl, hD.same (same_new hq0 _), by omega, by decide, by decide, fun r0 H1 r00 r01 o1 d1 => ?_⟩⟩
  have q0t := hD.ne hq0
  obtain ⟨kk, hkk, kk1, kk2⟩ : ∃ kk : Int, atI [V.int 2, V.int 4, V.int wide] r0 = some (.int kk) ∧ 1 ≤ kk ∧ kk ≤ 60 := by
    obtain rfl | rfl | rfl : r0 = 0 ∨ r0 = 1 ∨ r0 = 2 := by omega
    · exact ⟨2, rfl, by decide, by decide⟩
    · exact ⟨4, rfl, by decide, by decide⟩
    · exact ⟨wide, rfl, wi1, wi2⟩
  have oH1 : Oth t H H1 := ((Oth.refl t H).updn hq0 _).trans o1
  refine ⟨_, _, _, _, rfl, rfl, SqL.of (o1 _ _ q0t upd_same), hkk, t, _, kk, rfl, d1, by omega, by omega, by omega, fun r1 H2 r10 r11 o2 d2 => ⟨_, _, rfl, rfl, t, _, _, rfl, d2, by omega, by omega, by omega, fun nm H3 ys ynl yok nmf o3 hnm d3 => ?_⟩⟩
  have oH3 : Oth t H H3 := (oH1.trans o2).trans o3
  have nt : nm ≠ t := d2.ne nmf
  obtain ⟨y0, yr, rfl⟩ : ∃ y0 yr, ys = y0 :: yr := by
    cases ys with
    | nil => simp at ynl; omega
    | cons y0 yr => exact ⟨_, _, rfl⟩
  generalize hys : y0 :: yr = ys at hnm ynl yok
  have yne : ys ≠ [] := by rw [← hys]; exact List.cons_ne_nil _ _
  -- part
  refine ⟨_, rfl, _, _, rfl, rfl, ⟨by decide, by decide⟩, _, _, rfl, ?_⟩
  obtain ⟨pt, hpt, pt1, pt2, pt3, pt4⟩ : ∃ pt : Int, (if 60 < most / 4 then 60 else most / 4) = pt ∧ 2 ≤ pt ∧ pt ≤ 60 ∧ 4 * pt ≤ most ∧ True := by
    refine ⟨_, rfl, ?_, ?_, ?_, trivial⟩ <;> split <;> omega
  rw [hpt]
  -- head
  refine ⟨_, rfl, _, rfl, _, rfl, t, nm, _, ys, pt, rfl, d3, by omega, hnm, yne, by omega, yok, by omega, by omega, fun hA H4 head lh hok hAf o4 hhead d4 => ?_⟩
  have hAt : hA ≠ t := d3.ne hAf
  have nm4 := o4 _ _ nt hnm
  -- loop
  refine ⟨_, rfl, _, rfl, _, rfl, _, _, rfl, rfl, t, nm, _, ys, pt - 1, rfl, d4, by omega, nm4, yne, by omega, yok, by omega, by omega, fun l0 H5 lo0 ll0 lok0 l0f o5 hl0 d5 => ?_⟩
  have l0t : l0 ≠ t := d4.ne l0f
  have nm5 := o5 _ _ nt nm4
  have head5 := o5 _ _ hAt hhead
  refine ⟨_, rfl, _, _, _, _, rfl, rfl, SqL.of nm5, atI_nat (j := 0) (by rw [← hys]; rfl), (by show 1 ≤ sizeLine; decide), fun l1 hl1 => ?_⟩
  have s6 := same_new hl1 (.lst [V.str y0])
  refine ⟨_, _, _, _, rfl, rfl, s6 _ _ hl0, upd_same, ?_, fun lp hlp => ?_⟩
  · rw [List.length_map]; exact Nat.le_trans (show _ ≤ 100 by simp only [List.length_cons, List.length_nil]; omega) (by decide)
  have s7 := s6.trans (same_new hlp (.lst (lo0.map V.str ++ [V.str y0])))
  have lpf : H5 lp = none := s6.free hlp
  have lpt : lp ≠ t := d5.ne lpf
  have hloop : upd (upd H5 l1 (.lst [V.str y0])) lp (.lst (lo0.map V.str ++ [V.str y0])) lp = some (.lst ((lo0 ++ [y0]).map V.str)) := by rw [upd_same, List.map_append]; rfl
  have head7 := s7 _ _ head5
  have d7 := d5.same s7
  have nm7 := s7 _ _ nm5
  have oH7 := ((oH3.trans o4).trans o5).same s7
  have lok : (lo0 ++ [y0]).all isThingS = true := by
    rw [List.all_append, lok0]
    have := List.all_eq_true.mp yok y0 (by rw [← hys]; simp)
    simpa using this
  have ll : (lo0 ++ [y0]).length ≤ pt := by rw [List.length_append]; simp only [List.length_cons, List.length_nil]; omega
  have lpos : 1 ≤ (lo0 ++ [y0]).length := by rw [List.length_append]; simp
  have lne : lo0 ++ [y0] ≠ [] := by simp
  generalize upd (upd H5 l1 (.lst [V.str y0])) lp (.lst (lo0.map V.str ++ [V.str y0])) = H7 at s7 hloop head7 d7 nm7 oH7
  generalize lo0 ++ [y0] = loop at hloop lok ll lpos lne
  -- times
  have lmap : (loop.map V.str).length = loop.length := List.length_map _
  have dv1 : (1 : Int) ≤ (most - 2 * pt) / (loop.length : Nat) := (Int.le_ediv_iff_mul_le (by omega)).mpr (by omega)
  have dv2 : (most - 2 * pt) / (loop.length : Nat) * (loop.length : Nat) ≤ most - 2 * pt := Int.ediv_mul_le _ (by omega)
  have dv3 : (most - 2 * pt) / (loop.length : Nat) ≤ 400 := by
    have := Int.ediv_le_self (a := most - 2 * pt) (loop.length : Nat) (by omega)
    omega
  refine ⟨_, rfl, _, rfl, _, rfl, _, _, rfl, rfl, .inl (by decide), _, _, rfl, rfl, _, rfl, _, _, rfl, .inl (SqL.of hloop), _, _, rfl, rfl, wide_div (b := 100) (by show (0 : Int) < ((loop.map V.str).length : Nat); omega) (Nat.lt_of_le_of_lt (show _ ≤ 100 by omega) (by decide)) (by decide) (by decide), t, _, _, rfl, d7, by omega, by rw [lmap]; exact dv1, by rw [lmap]; omega, fun r8 H8 r80 r81 o8 d8 => ?_⟩
  rw [lmap] at r81
  have head8 := o8 _ _ hAt head7
  have loop8 := o8 _ _ lpt hloop
  have nm8 := o8 _ _ nt nm7
  obtain ⟨times, htm⟩ : ∃ times : Int, 1 + r8 = times := ⟨_, rfl⟩
  refine ⟨_, _, rfl, rfl, ?_⟩
  show gName 7 (V.int (1 + r8)) _ _ _
  rw [htm]
  have t1 : 1 ≤ times := by omega
  have t2 : times ≤ 400 := by omega
  have t3 : times * (loop.length : Nat) ≤ most - 2 * pt := Int.le_trans (Int.mul_le_mul_of_nonneg_right (show times ≤ (most - 2 * pt) / (loop.length : Nat) by omega) (by omega)) dv2
  have t5 : ((loop.length * times.toNat : Nat) : Int) = times * (loop.length : Nat) := by rw [Int.natCast_mul, Int.toNat_of_nonneg (by omega), Int.mul_comm]
  have t6 : ((loop.length * times.toNat : Nat) : Int) ≤ most - 2 * pt := by rw [t5]; exact t3
  have t4 : loop.length * times.toNat ≤ 400 := by omega
  -- tail
  refine ⟨_, rfl, _, rfl, _, rfl, t, nm, _, ys, pt, rfl, d8, by omega, nm8, yne, by omega, yok, by omega, by omega, fun tA H9 tail lt tok tAf o9 htail d9 => ?_⟩
  have tAt : tA ≠ t := d8.ne tAf
  have head9 := o9 _ _ hAt head8
  have loop9 := o9 _ _ lpt loop8
  have oH9 := (oH7.trans o8).trans o9
  have zz : (2000 : Nat) ≤ sizeLine := by decide
  -- asks
  refine ⟨_, rfl, _, rfl, _, rfl, _, _, _, rfl, rfl, loop9, by omega, by omega, by rw [lmap]; omega, fun m1 hm1 => ?_⟩
  have u1 := same_new hm1 (.lst (List.replicate times.toNat (loop.map V.str)).flatten)
  have rl : (List.replicate times.toNat (loop.map V.str)).flatten = ((List.replicate times.toNat loop).flatten).map V.str := by rw [List.map_flatten, List.map_replicate]
  have rlen : ((List.replicate times.toNat loop).flatten).length = loop.length * times.toNat := by rw [rep_len, Nat.mul_comm]
  refine ⟨_, _, _, _, rfl, rfl, u1 _ _ head9, upd_same, by rw [rl, List.length_map, List.length_map, rlen]; omega, fun m2 hm2 => ?_⟩
  have u2 := u1.trans (same_new hm2 (.lst (head.map V.str ++ (List.replicate times.toNat (loop.map V.str)).flatten)))
  refine ⟨_, rfl, _, _, _, _, rfl, rfl, upd_same, u2 _ _ htail, by rw [rl, List.length_append, List.length_map, List.length_map, List.length_map, rlen]; omega, fun a hm3 => ?_⟩
  have u3 := u2.trans (same_new hm3 (.lst (head.map V.str ++ (List.replicate times.toNat (loop.map V.str)).flatten ++ tail.map V.str)))
  have ha := upd_same (H := upd (upd H9 m1 (.lst (List.replicate times.toNat (loop.map V.str)).flatten)) m2 (.lst (head.map V.str ++ (List.replicate times.toNat (loop.map V.str)).flatten))) (a := a) (o := .lst (head.map V.str ++ (List.replicate times.toNat (loop.map V.str)).flatten ++ tail.map V.str))
  have af : H9 a = none := u2.free hm3
  rw [rl, ← List.map_append, ← List.map_append] at ha u3 ⊢
  have hasks : (head ++ (List.replicate times.toNat loop).flatten ++ tail).all isThingS = true := by
    rw [List.all_append, List.all_append, hok, tok]
    rw [show ((List.replicate times.toNat loop).flatten).all isThingS = true by
      rw [List.all_eq_true] at lok ⊢
      intro z hz
      obtain ⟨m, hm, hz2⟩ := List.mem_flatten.mp hz
      rw [(List.mem_replicate.mp hm).2] at hz2
      exact lok z hz2]
    rfl
  have lasks : (head ++ (List.replicate times.toNat loop).flatten ++ tail).length ≤ 400 := by rw [List.length_append, List.length_append, rlen]; omega
  obtain ⟨R0, R1, R2⟩ := row5_all hok lok tok t1 t2 (by omega) (by omega) (by omega) lne
  obtain ⟨R3, R4⟩ := row5_flat hasks lasks
  generalize hasd : head ++ (List.replicate times.toNat loop).flatten ++ tail = asks at ha u3 hasks lasks R0 R1 R2 R3 R4 ⊢
  have head10 := u3 _ _ head9
  have loop10 := u3 _ _ loop9
  have tail10 := u3 _ _ htail
  have d10 := d9.same u3
  have oH10 := oH9.same u3
  have aHf : H a = none := (oH9).free d9.at af
  generalize upd (upd (upd H9 m1 (.lst ((List.replicate times.toNat loop).flatten.map V.str))) m2 (.lst ((head ++ (List.replicate times.toNat loop).flatten).map V.str))) a (.lst (asks.map V.str)) = H10 at u3 ha head10 loop10 tail10 d10 oH10
  have hml : (head.map V.str).length ≤ 100 := by rw [List.length_map]; omega
  have tml : (tail.map V.str).length ≤ 100 := by rw [List.length_map]; omega
  -- the first writing
  refine ⟨_, rfl, _, rfl, _, rfl, (by show 2 ≤ sizeLine; decide), fun x1 hx1 => ⟨(by show 1 ≤ sizeLine; decide), fun x2 hx2 => ⟨_, _, _, _, rfl, rfl, (same_new hx2 _) _ _ ((same_new hx1 _) _ _ head10), upd_same, (by simp only [List.length_cons, List.length_nil]; omega), fun x3 hx3 => ⟨_, rfl, ?_⟩⟩⟩⟩
  have v1 := same_new hx1 (.tup [V.ref lp, V.int times])
  have v2 := v1.trans (same_new hx2 (.lst [V.ref x1]))
  have v3 := v2.trans (same_new hx3 (.lst (head.map V.str ++ [V.ref x1])))
  have ex1 := ((same_new hx2 (.lst [V.ref x1])).trans (same_new hx3 (.lst (head.map V.str ++ [V.ref x1])))) _ _ (upd_same (H := H10) (a := x1) (o := .tup [V.ref lp, V.int times]))
  refine ⟨_, _, _, _, rfl, rfl, upd_same, v3 _ _ tail10, (by simp only [List.length_append, List.length_cons, List.length_nil]; omega), fun w0 hw0 => ?_⟩
  have v4 := v3.trans (same_new hw0 (.lst (head.map V.str ++ [V.ref x1] ++ tail.map V.str)))
  have ew0 := upd_same (H := upd (upd (upd H10 x1 (.tup [V.ref lp, V.int times])) x2 (.lst [V.ref x1])) x3 (.lst (head.map V.str ++ [V.ref x1]))) (a := w0) (o := .lst (head.map V.str ++ [V.ref x1] ++ tail.map V.str))
  have ex1' := (same_new hw0 (.lst (head.map V.str ++ [V.ref x1] ++ tail.map V.str))) _ _ ex1
  generalize upd (upd (upd (upd H10 x1 (.tup [V.ref lp, V.int times])) x2 (.lst [V.ref x1])) x3 (.lst (head.map V.str ++ [V.ref x1]))) w0 (.lst (head.map V.str ++ [V.ref x1] ++ tail.map V.str)) = H11 at v4 ew0 ex1'
  -- the second
  have head11 := v4 _ _ head10
  have tail11 := v4 _ _ tail10
  refine ⟨_, rfl, _, rfl, (by show 2 ≤ sizeLine; decide), fun z1 hz1 => ⟨(by show 1 ≤ sizeLine; decide), fun z2 hz2 => ⟨_, rfl, (by show 2 ≤ sizeLine; decide), fun z3 hz3 => ⟨(by show 1 ≤ sizeLine; decide), fun z4 hz4 => ?_⟩⟩⟩⟩
  have b1 := same_new hz1 (.tup [V.ref lp, V.int 1])
  have b2 := same_new hz2 (.lst [V.ref z1])
  have b3 := same_new hz3 (.tup [V.ref z2, V.int times])
  have b4 := same_new hz4 (.lst [V.ref z3])
  have b14 := (b1.trans b2).trans (b3.trans b4)
  have ez1 := (b2.trans (b3.trans b4)) _ _ (upd_same (H := H11) (a := z1) (o := .tup [V.ref lp, V.int 1]))
  have ez2 := (b3.trans b4) _ _ (upd_same (H := upd H11 z1 (.tup [V.ref lp, V.int 1])) (a := z2) (o := .lst [V.ref z1]))
  have ez3 := b4 _ _ (upd_same (H := upd (upd H11 z1 (.tup [V.ref lp, V.int 1])) z2 (.lst [V.ref z1])) (a := z3) (o := .tup [V.ref z2, V.int times]))
  have ez4 := upd_same (H := upd (upd (upd H11 z1 (.tup [V.ref lp, V.int 1])) z2 (.lst [V.ref z1])) z3 (.tup [V.ref z2, V.int times])) (a := z4) (o := .lst [V.ref z3])
  generalize upd (upd (upd (upd H11 z1 (.tup [V.ref lp, V.int 1])) z2 (.lst [V.ref z1])) z3 (.tup [V.ref z2, V.int times])) z4 (.lst [V.ref z3]) = H12 at b14 ez1 ez2 ez3 ez4
  refine ⟨_, _, _, _, rfl, rfl, b14 _ _ head11, ez4, (by simp only [List.length_cons, List.length_nil]; omega), fun z5 hz5 => ⟨_, rfl, _, _, _, _, rfl, rfl, upd_same, (same_new hz5 _) _ _ (b14 _ _ tail11), (by simp only [List.length_append, List.length_cons, List.length_nil]; omega), fun z6 hz6 => ⟨(by show 2 ≤ sizeLine; decide), fun z7 hz7 => ⟨(by show 1 ≤ sizeLine; decide), fun z8 hz8 => ⟨(by show 2 ≤ sizeLine; decide), fun wr hwr => ?_⟩⟩⟩⟩⟩
  have g5 := same_new hz5 (.lst (head.map V.str ++ [V.ref z3]))
  have g6 := same_new hz6 (.lst (head.map V.str ++ [V.ref z3] ++ tail.map V.str))
  have g7 := same_new hz7 (.tup [V.ref z6, V.int 1])
  have g8 := same_new hz8 (.lst [V.ref z7])
  have ez6 := (g7.trans g8) _ _ (upd_same (H := upd H12 z5 (.lst (head.map V.str ++ [V.ref z3]))) (a := z6) (o := .lst (head.map V.str ++ [V.ref z3] ++ tail.map V.str)))
  have ez7 := g8 _ _ (upd_same (H := upd (upd H12 z5 (.lst (head.map V.str ++ [V.ref z3]))) z6 (.lst (head.map V.str ++ [V.ref z3] ++ tail.map V.str))) (a := z7) (o := .tup [V.ref z6, V.int 1]))
  have ez8 := upd_same (H := upd (upd (upd H12 z5 (.lst (head.map V.str ++ [V.ref z3]))) z6 (.lst (head.map V.str ++ [V.ref z3] ++ tail.map V.str))) z7 (.tup [V.ref z6, V.int 1])) (a := z8) (o := .lst [V.ref z7])
  have g59 := (g5.trans g6).trans (g7.trans g8)
  generalize upd (upd (upd (upd H12 z5 (.lst (head.map V.str ++ [V.ref z3]))) z6 (.lst (head.map V.str ++ [V.ref z3] ++ tail.map V.str))) z7 (.tup [V.ref z6, V.int 1])) z8 (.lst [V.ref z7]) = HP at ez6 ez7 ez8 g59 hwr
  have a13 := b14.trans g59
  have S10 := v4.trans a13
  -- as data
  have D0 : DD HP (.ref w0) (.list (strD head ++ [.tuple [.list (strD loop), .int times]] ++ strD tail)) :=
    .lst (a13 _ _ ew0) (((strs_D head).append (.cons (.tup (a13 _ _ ex1') (.cons (.lst (S10 _ _ loop10) (strs_D loop)) (.cons (.int _) .nil))) .nil)).append (strs_D tail))
  have D1 : DD HP (.ref z8) (.list [.tuple [.list (strD head ++ [.tuple [.list [.tuple [.list (strD loop), .int 1]], .int times]] ++ strD tail), .int 1]]) :=
    .lst ez8 (.cons (.tup ez7 (.cons (.lst ez6 (((strs_D head).append (.cons (.tup (g59 _ _ ez3) (.cons (.lst (g59 _ _ ez2) (.cons (.tup (g59 _ _ ez1) (.cons (.lst (S10 _ _ loop10) (strs_D loop)) (.cons (.int _) .nil))) .nil)) (.cons (.int _) .nil))) .nil)).append (strs_D tail))) (.cons (.int _) .nil))) .nil)
  have wrH : H wr = none := oH10.free d10.at (S10.free hwr)
  have wrt : wr ≠ t := hD.ne wrH
  have g9 := same_new hwr (.lst [V.ref w0, V.ref z8])
  have ewr := upd_same (H := HP) (a := wr) (o := .lst [V.ref w0, V.ref z8])
  have S13 := S10.trans g9
  generalize upd HP wr (.lst [V.ref w0, V.ref z8]) = H13 at g9 ewr S13
  -- the third, of tuples
  refine ⟨_, rfl, .inl ⟨rfl, _, SqL.of ewr⟩, ?_⟩
  refine ⟨_, rfl, hA, _, rfl, .inl ⟨SqL.of (S13 _ _ head10), fun y1 hy1 => ?_⟩⟩
  refine ⟨_, rfl, lp, _, rfl, .inl ⟨SqL.of ((same_new hy1 _) _ _ (S13 _ _ loop10)), fun y2 hy2 => ⟨_, rfl, (by show 2 ≤ sizeLine; decide), fun y3 hy3 => ⟨(by show 1 ≤ sizeLine; decide), fun y4 hy4 => ?_⟩⟩⟩⟩
  have k1 := same_new hy1 (.tup (head.map V.str))
  have k2 := same_new hy2 (.tup (loop.map V.str))
  have k3 := same_new hy3 (.tup [V.ref y2, V.int times])
  have k4 := same_new hy4 (.tup [V.ref y3])
  have ey1 := (k2.trans (k3.trans k4)) _ _ (upd_same (H := H13) (a := y1) (o := .tup (head.map V.str)))
  have ey2 := (k3.trans k4) _ _ (upd_same (H := upd H13 y1 (.tup (head.map V.str))) (a := y2) (o := .tup (loop.map V.str)))
  have ey3 := k4 _ _ (upd_same (H := upd (upd H13 y1 (.tup (head.map V.str))) y2 (.tup (loop.map V.str))) (a := y3) (o := .tup [V.ref y2, V.int times]))
  have ey4 := upd_same (H := upd (upd (upd H13 y1 (.tup (head.map V.str))) y2 (.tup (loop.map V.str))) y3 (.tup [V.ref y2, V.int times])) (a := y4) (o := .tup [V.ref y3])
  have k14 := (k1.trans k2).trans (k3.trans k4)
  generalize upd (upd (upd (upd H13 y1 (.tup (head.map V.str))) y2 (.tup (loop.map V.str))) y3 (.tup [V.ref y2, V.int times])) y4 (.tup [V.ref y3]) = H14 at k14 ey1 ey2 ey3 ey4
  refine catA_any ey1 ey4 (by simp only [List.length_cons, List.length_nil]; omega) fun y5 H15 s15 ey5 => ?_
  refine ⟨_, rfl, tA, _, rfl, .inl ⟨SqL.of (s15 _ _ (k14 _ _ (S13 _ _ tail10))), fun y6 hy6 => ?_⟩⟩
  have s16 := same_new hy6 (.tup (tail.map V.str))
  refine catA_any (s16 _ _ ey5) upd_same (by simp only [List.length_append, List.length_cons, List.length_nil]; omega) fun y7 H17 s17 ey7 => ?_
  have kk17 := (s15.trans s16).trans s17
  have k17 := k14.trans kk17
  have ewr17 := k17 _ _ ewr
  refine ⟨wr, _, _, rfl, rfl, ewr17, (by show 2 < sizeLine; decide), ?_⟩
  have P17 := same_mut (g9.trans k17) hwr (.lst ([V.ref w0, V.ref z8] ++ [V.ref y7]))
  have nw : ∀ {x : Addr} {zs : List V}, H17 x = some (.tup zs) → upd H17 wr (.lst ([V.ref w0, V.ref z8] ++ [V.ref y7])) x = some (.tup zs) := fun {x zs} e => by
    rw [upd_ne (fun z => by rw [z, ewr17] at e; cases e)]; exact e
  have D2 : DD (upd H17 wr (.lst ([V.ref w0, V.ref z8] ++ [V.ref y7]))) (.ref y7) (.tuple (strD head ++ [.tuple [.tuple (strD loop), .int times]] ++ strD tail)) :=
    .tup (nw ey7) (((strs_D head).append (.cons (.tup (nw (kk17 _ _ ey3)) (.cons (.tup (nw (kk17 _ _ ey2)) (strs_D loop)) (.cons (.int _) .nil))) .nil)).append (strs_D tail))
  have E0 := D0.mono P17
  have E1 := D1.mono P17
  have ha17 := P17 _ _ (S10 _ _ ha)
  have d17 := d10.same (S10.trans P17)
  have o17 := oH10.same (S10.trans P17)
  have ewr18 : upd H17 wr (.lst ([V.ref w0, V.ref z8] ++ [V.ref y7])) wr = some (.lst [V.ref w0, V.ref z8, V.ref y7]) := upd_same
  generalize upd H17 wr (.lst ([V.ref w0, V.ref z8] ++ [V.ref y7])) = H18 at D2 E0 E1 ha17 d17 o17 ewr18
  refine ⟨_, rfl, _, _, rfl, .inl (SqL.of ha17), _, _, rfl, rfl, _, rfl, ?_⟩
  refine ite2 (fun _ => ?_) (fun _ => ?_)
  · refine ⟨_, rfl, _, rfl, a, _, rfl, .inl (SqL.of ha17), fun n1 hn1 => ⟨_, rfl, a, _, rfl, .inl ⟨SqL.of ((same_new hn1 _) _ _ ha17), fun n2 hn2 => ⟨(by show 2 ≤ sizeLine; decide), fun n3 hn3 => ?_⟩⟩⟩⟩
    have c1 := same_new hn1 (.lst (asks.map V.str))
    have c2 := same_new hn2 (.tup (asks.map V.str))
    have c3 := same_new hn3 (.lst [V.ref n1, V.ref n2])
    have c13 := c1.trans (c2.trans c3)
    have en1 := (c2.trans c3) _ _ (upd_same (H := H18) (a := n1) (o := .lst (asks.map V.str)))
    have en2 := c3 _ _ (upd_same (H := upd H18 n1 (.lst (asks.map V.str))) (a := n2) (o := .tup (asks.map V.str)))
    have en3 := upd_same (H := upd (upd H18 n1 (.lst (asks.map V.str))) n2 (.tup (asks.map V.str))) (a := n3) (o := .lst [V.ref n1, V.ref n2])
    generalize upd (upd (upd H18 n1 (.lst (asks.map V.str))) n2 (.tup (asks.map V.str))) n3 (.lst [V.ref n1, V.ref n2]) = H19 at c13 en1 en2 en3
    refine ⟨_, _, _, _, rfl, rfl, c13 _ _ ewr18, en3, (by show 5 ≤ sizeLine; decide), fun wa hwa => ?_⟩
    have c4 := same_new hwa (.lst ([V.ref w0, V.ref z8, V.ref y7] ++ [V.ref n1, V.ref n2]))
    have hw : upd H19 wa (.lst ([V.ref w0, V.ref z8, V.ref y7] ++ [V.ref n1, V.ref n2])) wa = some (.lst [V.ref w0, V.ref z8, V.ref y7, V.ref n1, V.ref n2]) := upd_same
    have c14 := c13.trans c4
    have waH : wa ≠ t := (d17.same c13).ne hwa
    have en1' := c4 _ _ en1
    have en2' := c4 _ _ en2
    generalize upd H19 wa (.lst ([V.ref w0, V.ref z8, V.ref y7] ++ [V.ref n1, V.ref n2])) = Hf at c4 hw c14 en1' en2'
    obtain ⟨rs, hrs, lrs⟩ : ∃ rs : List V, rs = [V.ref w0, V.ref z8, V.ref y7, V.ref n1, V.ref n2] ∧ (1 ≤ rs.length ∧ rs.length ≤ 5) := ⟨_, rfl, by simp, by simp⟩
    have al : ∀ rv ∈ rs, ∃ d, DD Hf rv d ∧ Row5 asks d := fun rv h => by
      rw [hrs] at h
      simp only [List.mem_cons, List.not_mem_nil, or_false] at h
      rcases h with rfl | rfl | rfl | rfl | rfl
      · exact ⟨_, E0.mono c14, R0⟩
      · exact ⟨_, E1.mono c14, R1⟩
      · exact ⟨_, D2.mono c14, R2⟩
      · exact ⟨_, .lst en1' (strs_D asks), R3⟩
      · exact ⟨_, .tup en2' (strs_D asks), R4⟩
    have haf := c14 _ _ ha17
    have df := d17.same c14
    have of' := o17.same c14
    rw [← hrs] at hw
    have aHt : a ≠ t := hD.ne aHf
    refine ⟨_, rfl, _, rfl, _, rfl, _, _, rfl, .inl (SqL.of hw), t, _, _, rfl, df, by omega, by omega, by omega, fun r20 H20 r200 r201 o20 d20 => ?_⟩
    obtain ⟨j, hj⟩ : ∃ j : Nat, r20 = (j : Int) := ⟨_, (Int.toNat_of_nonneg r200).symm⟩
    subst hj
    have jl : j < rs.length := by omega
    have gj : rs[j]? = some rs[j] := List.getElem?_eq_getElem jl
    obtain ⟨dd, hdd, hR⟩ := al rs[j] (List.getElem_mem jl)
    refine ⟨_, _, _, _, rfl, rfl, SqL.of (o20 _ _ waH hw), atI_nat gj, _, rfl, (by show 2 ≤ sizeLine; decide), fun p hp => ?_⟩
    have e20 := same_new hp (.lst [rs[j], V.ref a])
    have hf := (of'.trans o20)
    refine q p a rs[j] _ asks dd (hf.same e20) (hf.free d20.at hp) upd_same aHf (e20 _ _ (o20 _ _ aHt haf)) hasks lasks ((hide_all df hR.1 hdd).mono (o20.same e20).hid) hR ((d20.same e20).mono (by omega))
  · obtain ⟨wa, Hf, ewa, ehf⟩ : ∃ (wa : Addr) (Hf : Hp), wa = wr ∧ Hf = H18 := ⟨_, _, rfl, rfl⟩
    rw [← ewa, ← ehf]
    rw [← ewa] at ewr18 wrt
    have waH := wrt
    rw [← ehf] at D2 E0 E1 ha17 d17 o17 ewr18
    obtain ⟨rs, hrs, lrs⟩ : ∃ rs : List V, rs = [V.ref w0, V.ref z8, V.ref y7] ∧ (1 ≤ rs.length ∧ rs.length ≤ 5) := ⟨_, rfl, by simp, by simp⟩
    have al : ∀ rv ∈ rs, ∃ d, DD Hf rv d ∧ Row5 asks d := fun rv h => by
      rw [hrs] at h
      simp only [List.mem_cons, List.not_mem_nil, or_false] at h
      rcases h with rfl | rfl | rfl
      · exact ⟨_, E0, R0⟩
      · exact ⟨_, E1, R1⟩
      · exact ⟨_, D2, R2⟩
    have haf := ha17
    have df := d17
    have of' := o17
    have hw := ewr18
    rw [← hrs] at hw
    have aHt : a ≠ t := hD.ne aHf
    refine ⟨_, rfl, _, rfl, _, rfl, _, _, rfl, .inl (SqL.of hw), t, _, _, rfl, df, by omega, by omega, by omega, fun r20 H20 r200 r201 o20 d20 => ?_⟩
    obtain ⟨j, hj⟩ : ∃ j : Nat, r20 = (j : Int) := ⟨_, (Int.toNat_of_nonneg r200).symm⟩
    subst hj
    have jl : j < rs.length := by omega
    have gj : rs[j]? = some rs[j] := List.getElem?_eq_getElem jl
    obtain ⟨dd, hdd, hR⟩ := al rs[j] (List.getElem_mem jl)
    refine ⟨_, _, _, _, rfl, rfl, SqL.of (o20 _ _ waH hw), atI_nat gj, _, rfl, (by show 2 ≤ sizeLine; decide), fun p hp => ?_⟩
    have e20 := same_new hp (.lst [rs[j], V.ref a])
    have hf := (of'.trans o20)
    refine q p a rs[j] _ asks dd (hf.same e20) (hf.free d20.at hp) upd_same aHf (e20 _ _ (o20 _ _ aHt haf)) hasks lasks ((hide_all df hR.1 hdd).mono (o20.same e20).hid) hR ((d20.same e20).mono (by omega))
end
end K28

set_option Elab.async false
set_option linter.all false
set_option maxRecDepth 100000
set_option maxHeartbeats 4000000
set_option exponentiation.threshold 20000
namespace MC
open PySem PySem.Spec L2
theorem many_split : ∀ es : List PyData, manyPs es = (es.length : Int) - ((es.filter nStr).length : Nat) + manyPs (es.filter nStr)
  | [] => rfl
  | d :: es => by
    have ih := many_split es
    rw [List.filter_cons]
    by_cases s : dStr d = true
    · have e : nStr d = false := by simp [nStr, s]
      have e1 : manyP d = 1 := by cases d <;> first | rfl | cases s
      simp only [e, Bool.false_eq_true, if_false, manyPs, List.length_cons, e1]
      omega
    · have e : nStr d = true := by simpa [nStr] using s
      simp only [e, if_true, manyPs, List.length_cons]
      omega
theorem SqX.keep {H H' : Hp} {a : Addr} {xs : List V} (h : SqX H a xs) (e : Same H H') : H' a = H a := by
  rcases h with h | h
  · exact (e _ _ h).trans h.symm
  · exact (e _ _ h).trans h.symm
end MC
namespace K28
open PySem PySem.Spec L2 MC
open PyProof.Rows hiding St
def spCnt (m : Nat) (ok : PyData → Bool) (g : PyData → Int) : Sp := fun vs H Q _ => ∃ x d, vs = [x] ∧ DD H x d ∧ ok d = true ∧ d.depth < m ∧ d.depth ≤ 60 ∧ wD d ≤ 2000 ∧ ∀ H', Same H H' → Q (.int (g d)) H'
theorem spCnt_len {m : Nat} {ok : PyData → Bool} {g : PyData → Int} : ∀ vs H Q E, spCnt m ok g vs H Q E → vs.length = 1 := fun vs H Q E h => by
  obtain ⟨x, d, rfl, _⟩ := h
  rfl
theorem spCnt_no {ok : PyData → Bool} {g : PyData → Int} : ∀ vs H Q E, ¬ spCnt 0 ok g vs H Q E := fun vs H Q E h => by
  obtain ⟨x, d, _, _, _, h0, _⟩ := h
  exact absurd h0 (Nat.not_lt_zero _)
theorem bits30 {t : Int} (h1 : 1 ≤ t) (h2 : t ≤ 10 ^ 30) : t.natAbs < 2 ^ 200 := Nat.lt_of_le_of_lt (show t.natAbs ≤ 10 ^ 30 by omega) (by decide)
/-- a look that refuses nothing here -/
def spChk : Sp := fun vs H Q _ => ∃ x d, vs = [x] ∧ DD H x d ∧ okD d = true ∧ d.depth ≤ 60 ∧ wD d ≤ 2000 ∧ rowD d = true ∧ ∀ H', Same H H' → Q .non H'
def spLaid (m : Nat) : Sp := fun vs H Q _ => ∃ x d, vs = [x] ∧ DD H x d ∧ rowD d = true ∧ d.depth < m ∧ d.depth ≤ 60 ∧ wD d ≤ 2000 ∧ manyR d ≤ 400 ∧ ∀ H' p, Same H H' → H p = none → H' p = some (.lst ((outR d).map V.str)) → Q (.ref p) H'
def spNear : Sp := fun vs H Q _ => ∃ x d, vs = [x] ∧ DD H x d ∧ okD d = true ∧ d.depth ≤ 12 ∧ wD d ≤ 2000 ∧ rowD d = true ∧ manyR d ≤ 400 ∧ ∀ H' p, Same H H' → H p = none → H' p = some (.lst ((outR d).map V.str)) → Q (.ref p) H'
def spNr : Sp := fun vs H Q _ => ∃ x d, vs = [x] ∧ DD H x d ∧ d.depth ≤ 12 ∧ wD d ≤ 2000 ∧ rowD d = true ∧ manyR d ≤ 400 ∧ ∀ H', Same H H' → Q .non H'
def spMiss : Sp := fun vs H Q _ => ∃ (o : Option Nat) (p : Int), vs = [depV o, .int p] ∧ Q (.bl (missD p o)) H
def spPlc : Sp := fun vs H Q _ => ∃ p : Int, vs = [.int p] ∧ 1 ≤ p ∧ ∀ H', Same H H' → Q .non H'
def spPlain : Sp := fun vs H Q _ => ∃ (a : Addr) (l : List Str), vs = [.ref a] ∧ H a = some (.lst (l.map V.str)) ∧ l.length ≤ 400 ∧ ∀ H' p, Same H H' → H p = none → H' p = some (.lst ((depL l).map depV)) → Q (.ref p) H'
section
variable {P : Program} {w : World} {K : PySem.W.Frag} {mg : Str → Option Value} {base : Heap}
variable {f_is_whole f_is_row f_count_asks f_check_row f_check_near f_laid_out f_near f_is_missed f_check_places f_plain f_plain_depths f_plain_misses : Addr} {fd_is_whole fd_is_row fd_count_asks fd_check_row fd_check_near fd_laid_out fd_near fd_is_missed fd_check_places fd_plain fd_plain_depths fd_plain_misses : FuncData}
theorem count_asks_step {m : Nat} (T : Txt K mg) (O_count_asks : Own K mg "count_asks" s_count_asks f_count_asks fd_count_asks ["row"]) (G_count_asks : FnOk P w K mg base CX0 (m + 1) f_count_asks fd_count_asks ["row"] (spCnt m rowD manyR)) :
    FnOk P w K mg base CX0 (m + 1 + 1) f_count_asks fd_count_asks ["row"] (spCnt (m + 1) rowD manyR) := by
  refine O_count_asks.F.ok sc_count_asks spCnt_len (fun cdv A outer s H vs Q E hr h => ?_)
  obtain ⟨x, d, rfl, hd, hok, hdm, hdp, hwd, q⟩ := h
  refine ⟨_, (pss_cons (ps_setLc (i := 1) (own := [("part", 2)]) rfl sc_count_asks.nd rfl rfl (sw_true rfl rfl rfl (by decide +kernel)) (k_seq (K := K) rfl (pv 0)) (blkOk_by (own := [("part", 2)]) (N := ["row", "agains", "part", "inner", "times"]) (sc := defScope s_count_asks) (by decide +kernel)) (fun _ _ _ _ _ => (pg_name (i := 2) sc_count_asks.nd rfl (Or.inl rfl))) (fun _ _ _ _ _ => pts_one (pt_not (pt_val (pe_callB (k_isi (K := K) rfl) (by rfl) T.n_isinstance (by decide +kernel) (pa_cons (pv 2) (pa_cons (pe_bltn (v := .ty "str") (by rfl) T.n_str (by decide +kernel) rfl) pa_nil)))))) (fun _ _ _ _ _ => (pv 2)))
    (pss_one (ps_ret (pe_op op_add (pe_op op_sub (pe_callB (k_len_seq (K := K) rfl) (by rfl) T.n_len (by decide +kernel) (pa_cons (pv 0) pa_nil)) (pe_callB (k_len_seq (K := K) rfl) (by rfl) T.n_len (by decide +kernel) (pa_cons (pv 1) pa_nil))) (pe_callB (k_sum (K := K) rfl rfl) (by rfl) T.n_sum (by decide +kernel) (pa_cons (pe_lc (own := [("inner", 3), ("times", 4)]) rfl sc_count_asks.nd (k_list (K := K) rfl (pv 1)) (blkOk_by (own := [("inner", 3), ("times", 4)]) (N := ["row", "agains", "part", "inner", "times"]) (sc := defScope s_count_asks) (by decide +kernel)) (fun _ _ _ _ _ => (k_tup (K := K) (n := 2) rfl rfl (pgs_cons (pg_name (i := 3) sc_count_asks.nd rfl (Or.inl rfl)) (pgs_cons (pg_name (i := 4) sc_count_asks.nd rfl (Or.inl rfl)) pgs_nil)))) (fun _ _ _ _ _ => pts_nil) (fun _ _ _ _ _ => (pe_op op_mulW (pe_call G_count_asks (hr.mono (by omega)) rfl O_count_asks.m O_count_asks.F.kp O_count_asks.b .nil pass0 (pa_cons (pv 3) pa_nil)) (pv 4)))) pa_nil)))))), ?_⟩
  have k0 := rowD_is hok
  rw [rowD_elems k0] at hok
  obtain ⟨a, xs, rfl, hx, hxs⟩ := hd.seq k0
  have we := wD_elems d
  have de := depth_elems k0
  have ln := hxs.length
  have lw := len_wDs (elemsD d)
  refine ⟨_, rfl, lc_seqD (K := K) (xs := xs) hx (fun A i H' => Same H H' ∧ ∃ acc, H' A = some (.lst acc) ∧ DDs H acc (((elemsD d).take i).filter nStr)) (fun A hA => ⟨same_new hA _, [], upd_same, .nil⟩) ?_ ?_ ?_⟩
  · rintro A i H' hA _ ⟨s3, _⟩
    rcases hx with h | h
    · exact (s3 _ _ h).trans h.symm
    · exact (s3 _ _ h).trans h.symm
  · rintro A i xv H' hA e ⟨s3, acc, hA', hacc⟩
    obtain ⟨dv, hdv, hdd⟩ := hxs.get e
    have tk : (elemsD d).take (i + 1) = (elemsD d).take i ++ [dv] := take_more hdv
    refine ⟨rfl, _, rfl, _, _, _, _, _, rfl, .ty _, ty_of (hdd.mono s3), kI_str, _, rfl, ?_⟩
    have al : acc.length < sizeLine := by
      rw [hacc.length]
      have h1 := List.length_filter_le nStr ((elemsD d).take i)
      rw [List.length_take] at h1
      exact Nat.lt_of_le_of_lt (show _ ≤ 2000 by omega) (by decide)
    refine ite2 (fun c3 => ?_) (fun c3 => ?_)
    · refine ⟨_, rfl, acc, hA', al, same_mut s3 hA _, _, upd_same, ?_⟩
      rw [tk, List.filter_append]
      have : nStr dv = true := c3
      simp only [List.filter_cons, this, if_true, List.filter_nil]
      exact hacc.append (.cons hdd .nil)
    · refine ⟨s3, acc, hA', ?_⟩
      rw [tk, List.filter_append]
      have : nStr dv = false := by simpa [nStr] using c3
      simp only [List.filter_cons, this, Bool.false_eq_true, if_false, List.filter_nil, List.append_nil]
      exact hacc
  rintro A H2 hA ⟨s3, ag, hA2, hag⟩
  have full : (elemsD d).take xs.length = elemsD d := List.take_of_length_le (by rw [ln]; exact Nat.le_refl _)
  rw [full] at hag
  have lag := hag.length
  have lf := List.length_filter_le nStr (elemsD d)
  refine ⟨_, rfl, _, _, rfl, (SqX.mono s3 hx).lt, _, rfl, _, _, rfl, .inl (SqL.of hA2), _, _, rfl, rfl, ?_⟩
  refine ⟨_, rfl, A, rfl, ⟨_, SqL.of hA2⟩, fun D hD => lc_list (K := K) (a := A) (xs := ag) (fun i H' => Same H2 H' ∧ ∃ ns : List Int, H' D = some (.lst (ns.map V.int)) ∧ ns.length ≤ i ∧ ns.sum = manyPs (((elemsD d).filter nStr).take i)) ⟨same_new hD _, [], upd_same, Nat.le_refl _, rfl⟩ (fun i H' _ p => SqL.of (p.1 _ _ hA2)) ?_ ?_⟩
  · rintro i xv H3 hi ⟨s4, ns, hns, lns, ens⟩
    obtain ⟨dv, hdv, hdd⟩ := hag.get hi
    have il := (List.getElem?_eq_some_iff.mp hi).1
    have mem := List.mem_filter.mp (List.mem_of_getElem? hdv)
    obtain ⟨j, hj⟩ := List.getElem?_of_mem mem.1
    have wv := wD_le hj
    have dv1 := depth_le hj
    have okv := partsD_get hok hj
    rcases partD_cases okv with ⟨z, rfl, _⟩ | ⟨r, t, rfl, t1, t2, hn, hrow⟩
    · exact absurd mem.2 (by simp [nStr, dStr])
    cases hdd with
    | @tup b ys _ hb hs =>
    match ys, hs with
    | [v1, v2], .cons h1 (.cons h2 .nil) =>
      cases h2
      have dp : r.depth < m ∧ r.depth ≤ 60 := by simp only [PyData.depth, PyData.depthAll] at dv1; omega
      have wp : wD r ≤ 2000 := by simp only [wD, wDs] at wv; omega
      have hb3 := (s3.trans s4) _ _ hb
      refine ⟨b, _, rfl, SqT.of hb3, rfl, _, _, rfl, _, _, rfl, rfl, rfl, ?_⟩
      refine ⟨_, rfl, v1, r, rfl, h1.mono (s3.trans s4), hrow, dp.1, dp.2, wp, fun H4 s5 => ⟨_, rfl, _, _, rfl, rfl, wide_mul (many_bits hrow wp dp.2) (bits30 t1 t2) (by decide) (by decide) (by decide), ?_⟩⟩
      refine ⟨ns.map V.int, s5 _ _ hns, ?_, same_mut (s4.trans s5) hD _, ns ++ [manyP (.tuple [r, .int t])], ?_, ?_, ?_⟩
      · rw [List.length_map]; exact Nat.lt_of_le_of_lt (show ns.length ≤ 2000 by omega) (by decide)
      · rw [upd_same, List.map_append]; rfl
      · rw [List.length_append]; exact Nat.add_le_add_right lns 1
      · rw [take_more hdv, manyPs_append, List.sum_append, ens]; simp [manyPs]
  · rintro H3 ⟨s4, ns, hns, lns, ens⟩
    have fullF : ((elemsD d).filter nStr).take ag.length = (elemsD d).filter nStr := List.take_of_length_le (by rw [hag.length]; exact Nat.le_refl _)
    rw [fullF] at ens
    refine ⟨D, ns, rfl, SqL.of hns, _, _, rfl, rfl, ?_⟩
    have q := q H3 (s3.trans s4)
    have e : manyR d = (xs.length : Int) - ag.length + ns.sum := by
      rw [manyR_elems k0, ens, lag, ln]
      exact many_split (elemsD d)
    rw [e] at q
    exact q
theorem count_all (T : Txt K mg) (O_count_asks : Own K mg "count_asks" s_count_asks f_count_asks fd_count_asks ["row"]) : ∀ m, FnOk P w K mg base CX0 (m + 1) f_count_asks fd_count_asks ["row"] (spCnt m rowD manyR)
  | 0 => ⟨fun vs H Q E h => absurd h (spCnt_no vs H Q E), fun A outer s H args us vs Q E _ _ _ _ h => absurd h (spCnt_no vs H Q E)⟩
  | m + 1 => count_asks_step T O_count_asks (count_all T O_count_asks m)
theorem ok_check_row (T : Txt K mg) (O_is_row : Own K mg "is_row" s_is_row f_is_row fd_is_row ["thing"]) (O_check_row : Own K mg "check_row" s_check_row f_check_row fd_check_row ["row"]) (G_is_row : FnOk P w K mg base CX0 3 f_is_row fd_is_row ["thing"] (spD rowD)) : FnOk P w K mg base CX0 4 f_check_row fd_check_row ["row"] spChk := by
  refine O_check_row.F.ok sc_check_row (fun vs H Q E h => by obtain ⟨x, d, rfl, _⟩ := h; rfl) (fun cdv A outer s H vs Q E hr h => ?_)
  obtain ⟨x, d, rfl, hd, hok, hdp, hwd, hrow, q⟩ := h
  refine ⟨_, (pss_one (ps_if (pt_not (pt_val (pe_call G_is_row (hr.mono (by omega)) rfl O_is_row.m O_is_row.F.kp O_is_row.b .nil pass0 (pa_cons (pv 0) pa_nil))))
    pss_never
    pss_nil)), ?_⟩
  refine ⟨_, rfl, x, d, rfl, hd, hok, hdp, hwd, fun H' s' => ⟨_, rfl, ?_⟩⟩
  rw [hrow]
  exact q H' s'
theorem ok_check_near (T : Txt K mg) (O_count_asks : Own K mg "count_asks" s_count_asks f_count_asks fd_count_asks ["row"]) (O_check_near : Own K mg "check_near" s_check_near f_check_near fd_check_near ["row"]) (G_count_asks : FnOk P w K mg base CX0 14 f_count_asks fd_count_asks ["row"] (spCnt 13 rowD manyR)) : FnOk P w K mg base CX0 15 f_check_near fd_check_near ["row"] spNr := by
  refine O_check_near.F.ok sc_check_near (fun vs H Q E h => by obtain ⟨x, d, rfl, _⟩ := h; rfl) (fun cdv A outer s H vs Q E hr h => ?_)
  obtain ⟨x, d, rfl, hd, hdp, hwd, hrow, hm, q⟩ := h
  obtain ⟨tmt, c_MOST_NEAR⟩ := T.c_MOST_NEAR
  refine ⟨_, (pss_cons (ps_set (i := 1) sc_check_near.nd rfl (Or.inl rfl) (pe_call G_count_asks (hr.mono (by omega)) rfl O_count_asks.m O_count_asks.F.kp O_count_asks.b .nil pass0 (pa_cons (pv 0) pa_nil)))
    (pss_one (ps_if (pt_cmpR op_gt (pv 1) (pe_glob (v := .int 400) rfl c_MOST_NEAR ⟨_, rfl⟩) (nomark _))
    pss_never
    pss_nil))), ?_⟩
  refine ⟨_, rfl, x, d, rfl, hd, hrow, by omega, by omega, hwd, fun H1 s1 => ?_⟩
  refine ⟨_, rfl, _, _, rfl, rfl, _, rfl, ?_⟩
  refine ite2 (fun c => absurd (show (400 : Int) < manyR d by simpa using c) (by omega)) (fun _ => q H1 s1)
theorem laid_step {m : Nat} (T : Txt K mg) (O_laid_out : Own K mg "laid_out" s_laid_out f_laid_out fd_laid_out ["row"]) (G_laid_out : FnOk P w K mg base CX0 (m + 1) f_laid_out fd_laid_out ["row"] (spLaid m)) : FnOk P w K mg base CX0 (m + 1 + 1) f_laid_out fd_laid_out ["row"] (spLaid (m + 1)) := by
  refine O_laid_out.F.ok sc_laid_out (fun vs H Q E h => by obtain ⟨x, d, rfl, _⟩ := h; rfl) (fun cdv A outer s H vs Q E hr h => ?_)
  obtain ⟨x, d, rfl, hd, hrow, hdm, hdp, hwd, hmy, q⟩ := h
  refine ⟨_, (pss_cons (ps_set (i := 1) sc_laid_out.nd rfl (Or.inl rfl) (pe_lst pa_nil))
    (pss_cons (ps_for PassesOwn.never rfl (k_seq (K := K) rfl (pv 0)) (pg_name (i := 2) sc_laid_out.nd rfl (Or.inl rfl))
    (pss_one (ps_if (pt_val (pe_callB (k_isi (K := K) rfl) (by rfl) T.n_isinstance (by decide +kernel) (pa_cons (pv 2) (pa_cons (pe_bltn (v := .ty "str") (by rfl) T.n_str (by decide +kernel) rfl) pa_nil))))
    (pss_one (ps_expr (k_bm (K := K) rfl (pe_bm PySem.F.plainAttrs_list PySem.F.slot_list_append PySem.F.type_list_append mt_append (pv 1) (pa_cons (pv 2) pa_nil)))))
    (pss_cons (ps_asg (pv 2) (pg_tup rfl (pgs_cons (pg_name (i := 3) sc_laid_out.nd rfl (Or.inl rfl)) (pgs_cons (pg_name (i := 4) sc_laid_out.nd rfl (Or.inl rfl)) pgs_nil))))
    (pss_one (ps_expr (k_bm (K := K) rfl (pe_bm PySem.F.plainAttrs_list PySem.F.slot_list_extend PySem.F.type_list_extend mt_extend (pv 1) (pa_cons (pe_op op_rep (pe_call G_laid_out (hr.mono (by omega)) rfl O_laid_out.m O_laid_out.F.kp O_laid_out.b .nil pass0 (pa_cons (pv 3) pa_nil)) (pv 4)) pa_nil)))))))))
    (pss_one (ps_ret (pv 1))))), ?_⟩
  have k0 := rowD_is hrow
  rw [rowD_elems k0] at hrow
  rw [manyR_elems k0] at hmy
  obtain ⟨a, xs, rfl, hx, hxs⟩ := hd.seq k0
  have we := wD_elems d
  have de := depth_elems k0
  have ln := hxs.length
  refine ⟨Nat.zero_le _, fun f hf => ?_⟩
  have s0 := same_new hf (.lst [])
  refine ⟨_, rfl, for_seq (xs := xs) (hx.mono s0) (fun i σ H' => ∃ (s2 s3 s4 : Option V), σ = [some (.ref a), some (.ref f), s2, s3, s4] ∧ Same H H' ∧ H' f = some (.lst ((outPs ((elemsD d).take i)).map V.str))) ⟨_, _, _, rfl, s0, upd_same⟩ ?_ ?_ ?_⟩
  · rintro i σ' H' hi ⟨s2, s3, s4, _, s1, _⟩
    exact (hx.keep s1).trans (hx.keep s0).symm
  · rintro i xv σ H2 hi ⟨s2, s3, s4, rfl, s1, hf2⟩
    obtain ⟨dv, hdv, hdd⟩ := hxs.get hi
    have wv := wD_le hdv
    have dv1 := depth_le hdv
    have hdd2 := hdd.mono s1
    have pk := partsD_get hrow hdv
    have my := many_upto hrow hdv
    have mt := (many_take hrow i).1
    have lo := (outPs_get _ (parts_split hrow i).1).1
    have tk : outPs ((elemsD d).take (i + 1)) = outPs ((elemsD d).take i) ++ outP dv := by rw [take_more hdv, outPs_append]; simp [outPs]
    have zz : (10 : Nat) ^ 5 ≤ sizeLine := by decide
    refine ⟨_, rfl, _, _, _, _, _, rfl, .ty _, ty_of hdd2, kI_str, _, rfl, ?_⟩
    refine ite2 (fun c1 => ?_) (fun c1 => ?_)
    · rcases partD_cases pk with ⟨z, rfl, _⟩ | ⟨r, t, rfl, _⟩
      · cases hdd2
        have m1 : manyP (.str z) = 1 := rfl
        refine ⟨_, rfl, .inl ⟨rfl, _, SqL.of hf2⟩, _, rfl, _, _, _, rfl, rfl, hf2, by rw [List.length_map]; omega, ?_⟩
        refine ⟨_, _, _, rfl, same_mut s1 hf _, ?_⟩
        rw [upd_same, tk, List.map_append]
        rfl
      · cases c1
    · rcases partD_cases pk with ⟨z, rfl, _⟩ | ⟨r, t, rfl, t1, t2, hn, hrr⟩
      · exact absurd rfl c1
      have dp : r.depth < m ∧ r.depth ≤ 60 := by simp only [PyData.depth, PyData.depthAll] at dv1; omega
      have wp : wD r ≤ 2000 := by simp only [wD, wDs] at wv; omega
      have mb := (manyR_bound r hrr).2.1 hn
      have mp : manyP (.tuple [r, .int t]) = manyR r * t := rfl
      have le1 : manyR r * 1 ≤ manyR r * t := Int.mul_le_mul_of_nonneg_left t1 (by omega)
      have le2 : 1 * t ≤ manyR r * t := Int.mul_le_mul_of_nonneg_right mb (by omega)
      have lr := (outR_get r hrr).1
      have tt : ((t.toNat : Nat) : Int) = t := by omega
      have lrep : (((outR r).length * t.toNat : Nat) : Int) = manyR r * t := by rw [Int.natCast_mul, lr, tt]
      cases hdd2 with
      | @tup ap ys _ hap hys =>
        match ys, hys with
        | [v1, v2], .cons h1 (.cons h2 .nil) =>
          cases h2
          refine ⟨_, rfl, ap, _, rfl, SqT.of hap, rfl, _, _, rfl, _, _, rfl, rfl, ?_⟩
          refine ⟨_, rfl, .inl ⟨rfl, _, SqL.of hf2⟩, _, rfl, v1, r, rfl, h1, hrr, dp.1, dp.2, wp, by omega, fun H3 p s3' p0 hp => ?_⟩
          refine ⟨_, rfl, _, _, _, rfl, rfl, hp, by omega, by omega, by rw [List.length_map]; omega, fun g hg => ?_⟩
          have sg := same_new hg (.lst (List.replicate t.toNat ((outR r).map V.str)).flatten)
          have hf4 := sg _ _ (s3' _ _ hf2)
          refine ⟨_, _, _, _, rfl, rfl, hf4, upd_same, ?_, ?_⟩
          · rw [rep_len, List.length_map, List.length_map, Nat.mul_comm]; omega
          · refine ⟨_, _, _, rfl, same_mut (s1.trans (s3'.trans sg)) hf _, ?_⟩
            rw [upd_same, tk, List.map_append, show outP (.tuple [r, .int t]) = (List.replicate t.toNat (outR r)).flatten from rfl, List.map_flatten, List.map_replicate]
  · rintro σ H2 ⟨s2, s3, s4, rfl, s1, hf2⟩
    have full : (elemsD d).take xs.length = elemsD d := List.take_of_length_le (by rw [ln]; exact Nat.le_refl _)
    rw [full, ← outR_elems k0] at hf2
    exact ⟨_, rfl, q H2 f s1 hf hf2⟩
theorem laid_all (T : Txt K mg) (O_laid_out : Own K mg "laid_out" s_laid_out f_laid_out fd_laid_out ["row"]) : ∀ m, FnOk P w K mg base CX0 (m + 1) f_laid_out fd_laid_out ["row"] (spLaid m)
  | 0 => by
    have no : ∀ vs H Q E, ¬ spLaid 0 vs H Q E := fun vs H Q E h => by
      obtain ⟨x, d, _, _, _, h0, _⟩ := h
      exact absurd h0 (Nat.not_lt_zero _)
    exact ⟨fun vs H Q E h => absurd h (no vs H Q E), fun A outer s H args us vs Q E _ _ _ _ h => absurd h (no vs H Q E)⟩
  | m + 1 => laid_step T O_laid_out (laid_all T O_laid_out m)
theorem ok_near (T : Txt K mg) (O_check_row : Own K mg "check_row" s_check_row f_check_row fd_check_row ["row"]) (O_check_near : Own K mg "check_near" s_check_near f_check_near fd_check_near ["row"]) (O_laid_out : Own K mg "laid_out" s_laid_out f_laid_out fd_laid_out ["row"]) (O_near : Own K mg "near" s_near f_near fd_near ["row"]) (G_check_row : FnOk P w K mg base CX0 4 f_check_row fd_check_row ["row"] spChk) (G_check_near : FnOk P w K mg base CX0 15 f_check_near fd_check_near ["row"] spNr)
    (G_laid_out : FnOk P w K mg base CX0 14 f_laid_out fd_laid_out ["row"] (spLaid 13)) : FnOk P w K mg base CX0 16 f_near fd_near ["row"] spNear := by
  refine O_near.F.ok sc_near (fun vs H Q E h => by obtain ⟨x, d, rfl, _⟩ := h; rfl) (fun cdv A outer s H vs Q E hr h => ?_)
  obtain ⟨x, d, rfl, hd, hok, hdp, hwd, hrow, hm, q⟩ := h
  refine ⟨_, (pss_cons (ps_expr (pe_call G_check_row (hr.mono (by omega)) rfl O_check_row.m O_check_row.F.kp O_check_row.b .nil pass0 (pa_cons (pv 0) pa_nil)))
    (pss_cons (ps_expr (pe_call G_check_near (hr.mono (by omega)) rfl O_check_near.m O_check_near.F.kp O_check_near.b .nil pass0 (pa_cons (pv 0) pa_nil)))
    (pss_one (ps_ret (pe_call G_laid_out (hr.mono (by omega)) rfl O_laid_out.m O_laid_out.F.kp O_laid_out.b .nil pass0 (pa_cons (pv 0) pa_nil)))))), ?_⟩
  refine ⟨_, rfl, x, d, rfl, hd, hok, by omega, hwd, hrow, fun H1 s1 => ?_⟩
  refine ⟨_, rfl, x, d, rfl, hd.mono s1, hdp, hwd, hrow, hm, fun H2 s2 => ?_⟩
  exact ⟨_, rfl, x, d, rfl, hd.mono (s1.trans s2), hrow, by omega, by omega, hwd, hm, fun H3 p s3 p0 hp => q H3 p ((s1.trans s2).trans s3) ((s1.trans s2).free p0) hp⟩
end
end K28

set_option Elab.async false
set_option linter.all false
set_option maxRecDepth 100000
set_option maxHeartbeats 4000000
set_option exponentiation.threshold 20000
namespace K28
open PySem PySem.Spec L2 MC
open PyProof.Rows hiding St
def spPd : Sp := fun vs H Q _ => ∃ x d, vs = [x] ∧ DD H x d ∧ okD d = true ∧ d.depth ≤ 12 ∧ wD d ≤ 2000 ∧ rowD d = true ∧ manyR d ≤ 400 ∧ ∀ H' p, Same H H' → H p = none → H' p = some (.lst ((depL (outR d)).map depV)) → Q (.ref p) H'
def natV (n : Nat) : V := .int (n : Nat)
def spPm : Sp := fun vs H Q _ => ∃ (x : V) (d : PyData) (k : Int), vs = [x, .int k] ∧ DD H x d ∧ okD d = true ∧ d.depth ≤ 12 ∧ wD d ≤ 2000 ∧ rowD d = true ∧ manyR d ≤ 400 ∧ 1 ≤ k ∧ ∀ H' p, Same H H' → H p = none → H' p = some (.lst ((missL k (outR d)).map natV)) → Q (.ref p) H'
section
variable {P : Program} {w : World} {K : PySem.W.Frag} {mg : Str → Option Value} {base : Heap}
variable {f_is_whole f_near f_is_missed f_check_places f_plain f_plain_depths f_plain_misses : Addr} {fd_is_whole fd_near fd_is_missed fd_check_places fd_plain fd_plain_depths fd_plain_misses : FuncData}
theorem ok_is_missed (T : Txt K mg) (O_is_missed : Own K mg "is_missed" s_is_missed f_is_missed fd_is_missed ["depth", "drawers"]) : FnOk P w K mg base CX0 1 f_is_missed fd_is_missed ["depth", "drawers"] spMiss := by
  refine O_is_missed.F.ok sc_is_missed (fun vs H Q E h => by obtain ⟨o, p, rfl, _⟩ := h; rfl) (fun cdv A outer s H vs Q E hr h => ?_)
  obtain ⟨o, p, rfl, q⟩ := h
  refine ⟨_, (pss_one (ps_ret (pe_or (pe_cmpR op_isN (pv 0) pe_non (nomark _)) (pe_one (pe_cmpR op_ge (pv 0) (pv 1) (nomark _)))))), ?_⟩
  cases o with
  | none =>
    refine ⟨_, rfl, rfl, _, rfl, iteT ?_⟩
    exact q
  | some n =>
    refine ⟨_, rfl, rfl, _, rfl, iteF ?_⟩
    refine ⟨_, rfl, _, rfl, _, _, rfl, rfl, ?_⟩
    exact q
theorem ok_check_places (T : Txt K mg) (O_is_whole : Own K mg "is_whole" s_is_whole f_is_whole fd_is_whole ["value"]) (O_check_places : Own K mg "check_places" s_check_places f_check_places fd_check_places ["places"]) (G_is_whole : FnOk P w K mg base CX0 1 f_is_whole fd_is_whole ["value"] (spD0 wholeD)) : FnOk P w K mg base CX0 2 f_check_places fd_check_places ["places"] spPlc := by
  refine O_check_places.F.ok sc_check_places (fun vs H Q E h => by obtain ⟨p, rfl, _⟩ := h; rfl) (fun cdv A outer s H vs Q E hr h => ?_)
  obtain ⟨p, rfl, p1, q⟩ := h
  refine ⟨_, (pss_one (ps_if (PW.pt (pw_or (pt_not (pt_val (pe_call G_is_whole (hr.mono (by omega)) rfl O_is_whole.m O_is_whole.F.kp O_is_whole.b .nil pass0 (pa_cons (pv 0) pa_nil)))) (pw_or1 (pt_cmpR op_lt (pv 0) pe_int (nomark _)))))
    pss_never
    pss_nil)), ?_⟩
  refine ⟨_, rfl, .int p, .int p, rfl, .int p, fun H' s' => ⟨_, rfl, ?_⟩⟩
  refine ite2 (fun z => nomatch z) (fun _ => ?_)
  refine ⟨_, rfl, _, _, rfl, rfl, _, rfl, ?_⟩
  refine ite2 (fun c => absurd (show p < 1 by simpa using c) (by omega)) (fun _ => q H' s')
theorem ok_plain (T : Txt K mg) (O_plain : Own K mg "_plain" s_plain f_plain fd_plain ["asks"]) : FnOk P w K mg base CX0 1 f_plain fd_plain ["asks"] spPlain := by
  refine O_plain.F.ok sc_plain (fun vs H Q E h => by obtain ⟨a, l, rfl, _⟩ := h; rfl) (fun cdv A outer s H vs Q E hr h => ?_)
  obtain ⟨a, l, rfl, ha, ll, q⟩ := h
  refine ⟨_, (pss_cons (ps_set (i := 1) sc_plain.nd rfl (Or.inl rfl) (pe_lst pa_nil))
    (pss_cons (ps_set (i := 2) sc_plain.nd rfl (Or.inl rfl) (pe_lst pa_nil))
    (pss_cons (ps_for PassesOwn.never rfl (k_list (K := K) rfl (pv 0)) (pg_name (i := 3) sc_plain.nd rfl (Or.inl rfl))
    (pss_cons (ps_if (pt_cmpR (k_in_seq (K := K) rfl) (pv 3) (pv 2) (by rfl))
    (pss_cons (ps_set (i := 4) sc_plain.nd rfl (Or.inl rfl) (k_bm (K := K) rfl (pe_bm PySem.F.plainAttrs_list PySem.F.slot_list_index PySem.F.type_list_index mt_index (pv 2) (pa_cons (pv 3) pa_nil))))
    (pss_one (ps_delL (pv 2) (pv 4))))
    (pss_one (ps_set (i := 4) sc_plain.nd rfl (Or.inl rfl) pe_non)))
    (pss_cons (ps_expr (k_bm (K := K) rfl (pe_bm PySem.F.plainAttrs_list PySem.F.slot_list_append PySem.F.type_list_append mt_append (pv 1) (pa_cons (pv 4) pa_nil))))
    (pss_one (ps_expr (k_bm (K := K) rfl (pe_bm PySem.F.plainAttrs_list PySem.F.slot_list_insert PySem.F.type_list_insert mt_insert (pv 2) (pa_cons pe_int (pa_cons (pv 3) pa_nil)))))))))
    (pss_one (ps_ret (pv 1)))))), ?_⟩
  have zz : (2000 : Nat) ≤ sizeLine := by decide
  refine ⟨Nat.zero_le _, fun f hf => ⟨Nat.zero_le _, fun g hg => ?_⟩⟩
  have s0 := (same_new hf (.lst [])).trans (same_new hg (.lst []))
  have gH : H g = none := (same_new hf (.lst [])).free hg
  have gf : g ≠ f := fun z => by rw [z, upd_same] at hg; cases hg
  refine ⟨_, rfl, a, rfl, ⟨_, SqL.of (s0 _ _ ha)⟩, for_list (K := K) (a := a) (xs := l.map V.str) (fun i σ H' => ∃ (s3 s4 : Option V), σ = [some (.ref a), some (.ref f), some (.ref g), s3, s4] ∧ Same H H' ∧ H' f = some (.lst ((depL (l.take i)).map depV)) ∧ H' g = some (.lst ((lruL (l.take i)).map V.str)))
    ⟨_, _, rfl, s0, by rw [upd_ne gf.symm, upd_same]; rfl, upd_same⟩ (fun i σ H' _ z => ?_) ?_ ?_⟩
  · obtain ⟨_, _, _, s1, _⟩ := z
    exact SqL.of (s1 _ _ ha)
  · rintro i xv σ H1 hi ⟨s3, s4, rfl, s1, hf1, hg1⟩
    rw [List.getElem?_map] at hi
    cases ez : l[i]? with
    | none => rw [ez] at hi; cases hi
    | some z =>
    rw [ez] at hi
    cases hi
    have il := (List.getElem?_eq_some_iff.mp ez).1
    have tk : l.take (i + 1) = l.take i ++ [z] := by rw [List.take_succ, ez]; rfl
    have dl : (depL (l.take i)).length ≤ 400 := by rw [depL_len, List.length_take]; omega
    have gl : (lruL (l.take i)).length ≤ 400 := by have := lru_len (l.take i); rw [List.length_take] at this; omega
    -- the turn's end
    have fin : ∀ (L : List Str) (o : Option Nat) (H' : Hp), Same H H' → H' f = some (.lst ((depL (l.take i)).map depV)) → H' g = some (.lst (L.map V.str)) → L.length ≤ 400 → lruL (l.take (i + 1)) = z :: L → depL (l.take (i + 1)) = depL (l.take i) ++ [o] →
        ∃ (s3 s4 : Option V), [some (.ref a), some (.ref f), some (.ref g), some (.str z), some (depV o)] = [some (V.ref a), some (V.ref f), some (V.ref g), s3, s4] ∧ Same H (upd (upd H' f (.lst ((depL (l.take i)).map depV ++ [depV o]))) g (.lst (List.take (Int.toNat 0) (L.map V.str) ++ [V.str z] ++ List.drop (Int.toNat 0) (L.map V.str)))) ∧
        upd (upd H' f (.lst ((depL (l.take i)).map depV ++ [depV o]))) g (.lst (List.take (Int.toNat 0) (L.map V.str) ++ [V.str z] ++ List.drop (Int.toNat 0) (L.map V.str))) f = some (.lst ((depL (l.take (i + 1))).map depV)) ∧
        upd (upd H' f (.lst ((depL (l.take i)).map depV ++ [depV o]))) g (.lst (List.take (Int.toNat 0) (L.map V.str) ++ [V.str z] ++ List.drop (Int.toNat 0) (L.map V.str))) g = some (.lst ((lruL (l.take (i + 1))).map V.str)) := by
      intro L o H' sH hf' hg' lL e1 e2
      refine ⟨_, _, rfl, same_mut (same_mut sH hf _) gH _, ?_, ?_⟩
      · rw [upd_ne gf.symm, upd_same, e2, List.map_append]; rfl
      · rw [upd_same, e1]; rfl
    refine ⟨_, rfl, _, rfl, g, _, rfl, .inl (SqL.of hg1), rfl, flat_strs _, _, rfl, ?_⟩
    rw [inV_strs]
    refine ite2 (fun c => ?_) (fun c => ?_)
    · have m : z ∈ lruL (l.take i) := by simpa using c
      have jl := List.idxOf_lt_length_of_mem m
      have gj : ((lruL (l.take i)).map V.str)[(lruL (l.take i)).idxOf z]? = some (.str z) := by
        rw [List.getElem?_map, List.getElem?_eq_getElem jl, List.getElem_idxOf]; rfl
      refine ⟨_, rfl, .inl ⟨rfl, _, SqL.of hg1⟩, _, rfl, g, (lruL (l.take i)).map V.str, V.str z, (lruL (l.take i)).idxOf z, V.str z, rfl, rfl, SqL.of hg1, rfl, flat_strs _, gj, (show (z == z) = true by simp), fun m' z' hm hz' => idx_before hm hz', ?_⟩
      refine ⟨_, rfl, _, rfl, g, _, _, (lruL (l.take i)).idxOf z, rfl, rfl, hg1, by omega, by omega, ?_, ?_⟩
      · show seqIndex? _ _ = some ((lruL (l.take i)).idxOf z)
        unfold seqIndex?
        rw [List.length_map]
        have a1 : ¬ (((lruL (l.take i)).idxOf z : Nat) : Int) < 0 := by omega
        simp [a1, jl]
      have hel : ((lruL (l.take i)).map V.str).eraseIdx ((lruL (l.take i)).idxOf z) = ((lruL (l.take i)).erase z).map V.str := by rw [map_erase, erase_idx _ _ m]
      rw [hel]
      have hf2 : upd H1 g (.lst (((lruL (l.take i)).erase z).map V.str)) f = some (.lst ((depL (l.take i)).map depV)) := by rw [upd_ne gf.symm]; exact hf1
      have le := List.length_erase_le (a := z) (l := lruL (l.take i))
      refine ⟨_, rfl, .inl ⟨rfl, _, SqL.of hf2⟩, _, rfl, f, _, _, rfl, rfl, hf2, by rw [List.length_map]; omega, ?_⟩
      have hg3 : upd (upd H1 g (.lst (((lruL (l.take i)).erase z).map V.str))) f (.lst ((depL (l.take i)).map depV ++ [V.int ((lruL (l.take i)).idxOf z : Nat)])) g = some (.lst (((lruL (l.take i)).erase z).map V.str)) := by rw [upd_ne gf, upd_same]
      refine ⟨_, rfl, .inl ⟨rfl, _, SqL.of hg3⟩, _, rfl, g, _, _, _, rfl, rfl, hg3, by rw [List.length_map]; omega, by decide, by decide, ?_⟩
      exact fin ((lruL (l.take i)).erase z) (some ((lruL (l.take i)).idxOf z)) _ (same_mut s1 gH _) hf2 upd_same (by omega) (by rw [tk, lru_snoc]) (by rw [tk, depL_snoc]; unfold depOf; rw [if_pos m])
    · have m : z ∉ lruL (l.take i) := by simpa using c
      refine ⟨_, rfl, .inl ⟨rfl, _, SqL.of hf1⟩, _, rfl, f, _, _, rfl, rfl, hf1, by rw [List.length_map]; omega, ?_⟩
      have hg3 : upd H1 f (.lst ((depL (l.take i)).map depV ++ [V.non])) g = some (.lst ((lruL (l.take i)).map V.str)) := by rw [upd_ne gf]; exact hg1
      refine ⟨_, rfl, .inl ⟨rfl, _, SqL.of hg3⟩, _, rfl, g, _, _, _, rfl, rfl, hg3, by rw [List.length_map]; omega, by decide, by decide, ?_⟩
      exact fin (lruL (l.take i)) none _ s1 hf1 hg1 gl (by rw [tk, lru_snoc, List.erase_of_not_mem m]) (by rw [tk, depL_snoc]; unfold depOf; rw [if_neg m])
  · rintro σ H1 ⟨s3, s4, rfl, s1, hf1, hg1⟩
    rw [List.length_map, List.take_of_length_le (Nat.le_refl _)] at hf1
    exact ⟨_, rfl, q H1 f s1 hf hf1⟩
theorem ok_plain_depths (T : Txt K mg) (O_near : Own K mg "near" s_near f_near fd_near ["row"]) (O_plain : Own K mg "_plain" s_plain f_plain fd_plain ["asks"]) (O_plain_depths : Own K mg "plain_depths" s_plain_depths f_plain_depths fd_plain_depths ["row"]) (G_near : FnOk P w K mg base CX0 16 f_near fd_near ["row"] spNear) (G_plain : FnOk P w K mg base CX0 1 f_plain fd_plain ["asks"] spPlain) : FnOk P w K mg base CX0 17 f_plain_depths fd_plain_depths ["row"] spPd := by
  refine O_plain_depths.F.ok sc_plain_depths (fun vs H Q E h => by obtain ⟨x, d, rfl, _⟩ := h; rfl) (fun cdv A outer s H vs Q E hr h => ?_)
  obtain ⟨x, d, rfl, hd, hok, hdp, hwd, hrow, hm, q⟩ := h
  refine ⟨_, (pss_one (ps_ret (pe_call G_plain (hr.mono (by omega)) rfl O_plain.m O_plain.F.kp O_plain.b .nil pass0 (pa_cons (pe_call G_near (hr.mono (by omega)) rfl O_near.m O_near.F.kp O_near.b .nil pass0 (pa_cons (pv 0) pa_nil)) pa_nil)))), ?_⟩
  have lo := (outR_get d hrow).1
  exact ⟨_, rfl, x, d, rfl, hd, hok, hdp, hwd, hrow, hm, fun H1 p s1 p0 hp => ⟨p, outR d, rfl, hp, by omega, fun H2 p2 s2 p20 hp2 => q H2 p2 (s1.trans s2) (s1.free p20) hp2⟩⟩
theorem ok_plain_misses (T : Txt K mg) (O_near : Own K mg "near" s_near f_near fd_near ["row"]) (O_check_places : Own K mg "check_places" s_check_places f_check_places fd_check_places ["places"]) (O_is_missed : Own K mg "is_missed" s_is_missed f_is_missed fd_is_missed ["depth", "drawers"]) (O_plain : Own K mg "_plain" s_plain f_plain fd_plain ["asks"]) (O_plain_misses : Own K mg "plain_misses" s_plain_misses f_plain_misses fd_plain_misses ["row", "places"]) (G_near : FnOk P w K mg base CX0 16 f_near fd_near ["row"] spNear) (G_check_places : FnOk P w K mg base CX0 2 f_check_places fd_check_places ["places"] spPlc) (G_is_missed : FnOk P w K mg base CX0 1 f_is_missed fd_is_missed ["depth", "drawers"] spMiss)
    (G_plain : FnOk P w K mg base CX0 1 f_plain fd_plain ["asks"] spPlain) : FnOk P w K mg base CX0 17 f_plain_misses fd_plain_misses ["row", "places"] spPm := by
  refine O_plain_misses.F.ok sc_plain_misses (fun vs H Q E h => by obtain ⟨x, d, k, rfl, _⟩ := h; rfl) (fun cdv A outer s H vs Q E hr h => ?_)
  obtain ⟨x, d, k, rfl, hd, hok, hdp, hwd, hrow, hm, k1, q⟩ := h
  refine ⟨_, (pss_cons (ps_set (i := 2) sc_plain_misses.nd rfl (Or.inl rfl) (pe_call G_near (hr.mono (by omega)) rfl O_near.m O_near.F.kp O_near.b .nil pass0 (pa_cons (pv 0) pa_nil)))
    (pss_cons (ps_expr (pe_call G_check_places (hr.mono (by omega)) rfl O_check_places.m O_check_places.F.kp O_check_places.b .nil pass0 (pa_cons (pv 1) pa_nil)))
    (pss_one (ps_ret (pe_lc (own := [("at", 3), ("depth", 4)]) rfl sc_plain_misses.nd (pi_enum (by rfl) T.n_enumerate (pa_cons (pe_call G_plain (hr.mono (by omega)) rfl O_plain.m O_plain.F.kp O_plain.b .nil pass0 (pa_cons (pv 2) pa_nil)) pa_nil)) (blkOk_by (own := [("at", 3), ("depth", 4)]) (N := ["row", "places", "asks", "at", "depth"]) (sc := defScope s_plain_misses) (by decide +kernel)) (fun _ _ _ _ _ => (k_tup (K := K) (n := 2) rfl rfl (pgs_cons (pg_name (i := 3) sc_plain_misses.nd rfl (Or.inl rfl)) (pgs_cons (pg_name (i := 4) sc_plain_misses.nd rfl (Or.inl rfl)) pgs_nil)))) (fun _ _ _ _ _ => pts_one (pt_val (pe_call G_is_missed (hr.mono (by omega)) rfl O_is_missed.m O_is_missed.F.kp O_is_missed.b .nil pass0 (pa_cons (pv 4) (pa_cons (pv 1) pa_nil))))) (fun _ _ _ _ _ => (pv 3))))))), ?_⟩
  have lo := (outR_get d hrow).1
  have ll : (outR d).length ≤ 400 := by omega
  refine ⟨_, rfl, x, d, rfl, hd, hok, hdp, hwd, hrow, hm, fun H1 p s1 p0 hp => ?_⟩
  refine ⟨_, rfl, k, rfl, k1, fun H2 s2 => ?_⟩
  refine ⟨_, rfl, p, outR d, rfl, s2 _ _ hp, ll, fun H3 p3 s3 p30 hp3 => ?_⟩
  have s13 := s1.trans (s2.trans s3)
  have dl := depL_len (outR d)
  refine ⟨p3, _, rfl, SqL.of hp3, fun D hD => lc_it (walk_enum (K := K) (a := p3) (xs := (depL (outR d)).map depV)) (fun i H' => Same H3 H' ∧ H' D = some (.lst ((missL k ((outR d).take i)).map natV))) ⟨same_new hD _, upd_same⟩ (fun i H' _ z => SqL.of (z.1 _ _ hp3)) ?_ ?_⟩
  · rintro i v H4 H5 hi ⟨s4, h4⟩ ⟨tp, y1, y2, rfl, htp, rfl, g1, g2⟩
    have g1 := Option.some.inj g1
    subst g1
    rw [List.length_map, dl] at hi
    have ez : (outR d)[i]? = some (outR d)[i] := List.getElem?_eq_getElem hi
    generalize (outR d)[i] = z at ez
    have gd : (depL (outR d))[i]? = some (depOf (lruL ((outR d).take i)) z) := by
      unfold depL
      rw [List.getElem?_map, List.getElem?_range hi]
      show some (depOf (lruL (List.take i (outR d))) ((outR d)[i]?.getD Str.empty)) = _
      rw [ez]; rfl
    have g2 : ((depL (outR d)).map depV)[i]? = some y2 := g2
    rw [List.getElem?_map, gd] at g2
    have g2 := Option.some.inj g2
    subst g2
    have st := same_new htp (.tup [V.int (i : Nat), depV (depOf (lruL ((outR d).take i)) z)])
    refine ⟨tp, _, rfl, SqT.of upd_same, rfl, _, _, rfl, _, _, rfl, rfl, rfl, ?_⟩
    refine ⟨_, rfl, _, rfl, _, k, rfl, ⟨_, rfl, ?_⟩⟩
    have h5 := st _ _ h4
    have tkm := missL_take (p := k) ez
    refine ite2 (fun c => ?_) (fun c => ?_)
    · refine ⟨_, rfl, _, h5, ?_, same_mut (s4.trans st) hD _, ?_⟩
      · rw [List.length_map]
        have : (missL k ((outR d).take i)).length ≤ 400 := by
          unfold missL
          refine Nat.le_trans (List.length_filter_le _ _) ?_
          rw [List.length_range, List.length_take]; omega
        exact Nat.lt_of_le_of_lt this (by decide)
      · rw [upd_same, tkm, if_pos c, List.map_append]; rfl
    · refine ⟨s4.trans st, ?_⟩
      rw [h5, tkm, if_neg c, List.append_nil]
  · rintro H4 ⟨s4, h4⟩
    rw [List.length_map, dl, List.take_of_length_le (Nat.le_refl _)] at h4
    exact q H4 D (s13.trans s4) (s13.free hD) h4
end
end K28

set_option Elab.async false
set_option linter.all false
set_option maxRecDepth 100000
set_option maxHeartbeats 4000000
set_option exponentiation.threshold 20000
namespace MC
open PySem PySem.Spec L2
theorem cut_last (xs : List V) (p : Nat) : cutV xs (some (-((p + 1 : Nat) : Int))) none = xs.drop (xs.length - (p + 1)) := by
  unfold cutV
  have e1 : HT.sIx xs.length 0 (some (-((p + 1 : Nat) : Int))) = xs.length - (p + 1) := by
    unfold HT.sIx
    simp only []
    rw [if_pos (by omega)]
    omega
  rw [e1, HT.sIx_none]
  exact List.take_of_length_le (by rw [List.length_drop]; omega)
theorem keep_len (p : Nat) (l : List Str) : (keepL (p + 1) l).length ≤ p + 1 := by
  unfold keepL; rw [List.length_reverse, List.length_take]; omega
theorem tab_at {ks : List Str} {f : Str → Int} {j : Nat} {k : Key} {v : V} (h : (dctV (tabL ks f))[j]? = some (k, v)) : ∃ y, ks[j]? = some y ∧ k = .inr y ∧ v = .int (f y) := by
  unfold dctV tabL at h
  rw [List.map_map, List.getElem?_map] at h
  cases e : ks[j]? with
  | none => rw [e] at h; cases h
  | some y =>
    rw [e] at h
    cases h
    exact ⟨y, rfl, rfl, rfl⟩
theorem tab_len (ks : List Str) (f : Str → Int) : (dctV (tabL ks f)).length = ks.length := by unfold dctV tabL; rw [List.length_map, List.length_map]
theorem tab_last {l : List Str} {i : Nat} {z : Str} (h : l[i]? = some z) : putK (dctV (tabL (firstsL (l.take i)) (lastP (l.take i)))) (.inr z) (.int (i : Nat)) = dctV (tabL (firstsL (l.take (i + 1))) (lastP (l.take (i + 1)))) := by
  have il := (List.getElem?_eq_some_iff.mp h).1
  rw [put_tab, show l.take (i + 1) = l.take i ++ [z] by rw [List.take_succ, h]; rfl, firstsL_snoc]
  congr 2
  funext y
  rw [lastP_snoc, List.length_take, Nat.min_eq_left (Nat.le_of_lt il)]
theorem firsts_len (l : List Str) : (firstsL l).length ≤ l.length := by
  refine snoc_ind (P := fun l => (firstsL l).length ≤ l.length) (by simp [firstsL]) (fun l z ih => ?_) l
  rw [firstsL_snoc, List.length_append]
  unfold addF
  split <;> simp <;> omega
end MC
namespace K28
open PySem PySem.Spec L2 MC
open PyProof.Rows hiding St
def spLpl : Sp := fun vs H Q _ => ∃ (a : Addr) (l : List Str) (p : Nat), vs = [.ref a, .int (p + 1 : Nat)] ∧ H a = some (.lst (l.map V.str)) ∧ l.length ≤ 400 ∧ p + 1 ≤ 400 ∧ ∀ H' b, Same H H' → H b = none → H' b = some (.lst ((missL ((p : Int) + 1) l).map natV)) → Q (.ref b) H'
def spLdp : Sp := fun vs H Q _ => ∃ (a : Addr) (l : List Str), vs = [.ref a] ∧ H a = some (.lst (l.map V.str)) ∧ l.length ≤ 400 ∧ ∀ H' b, Same H H' → H b = none → H' b = some (.lst ((depL l).map depV)) → Q (.ref b) H'
section
variable {P : Program} {w : World} {K : PySem.W.Frag} {mg : Str → Option Value} {base : Heap}
variable {f_l_plain f_l_deep : Addr} {fd_l_plain fd_l_deep : FuncData}
theorem ok_lplain (T : Txt K mg) (O_l_plain : Own K mg "_law_plain" s_l_plain f_l_plain fd_l_plain ["_law_asks", "_law_places"]) : FnOk P w K mg base CX0 1 f_l_plain fd_l_plain ["_law_asks", "_law_places"] spLpl := by
  refine O_l_plain.F.ok sc_l_plain (fun vs H Q E h => by obtain ⟨a, l, p, rfl, _⟩ := h; rfl) (fun cdv A outer s H vs Q E hr h => ?_)
  obtain ⟨a, l, p, rfl, ha, ll, pl, q⟩ := h
  refine ⟨_, (pss_cons (ps_set (i := 2) sc_l_plain.nd rfl (Or.inl rfl) (pe_lst pa_nil))
    (pss_cons (ps_set (i := 3) sc_l_plain.nd rfl (Or.inl rfl) (pe_lst pa_nil))
    (pss_cons (ps_for PassesOwn.never rfl (pi_enum (by rfl) T.n_enumerate (pa_cons (pv 0) pa_nil)) (pg_tup rfl (pgs_cons (pg_name (i := 4) sc_l_plain.nd rfl (Or.inl rfl)) (pgs_cons (pg_name (i := 5) sc_l_plain.nd rfl (Or.inl rfl)) pgs_nil)))
    (pss_cons (ps_if (pt_cmpR (k_in_seq (K := K) rfl) (pv 5) (pv 3) (by rfl))
    (pss_one (ps_expr (k_bm (K := K) rfl (pe_bm PySem.F.plainAttrs_list PySem.F.slot_list_remove PySem.F.type_list_remove mt_removeF (pv 3) (pa_cons (pv 5) pa_nil)))))
    (pss_one (ps_expr (k_bm (K := K) rfl (pe_bm PySem.F.plainAttrs_list PySem.F.slot_list_append PySem.F.type_list_append mt_append (pv 2) (pa_cons (pv 4) pa_nil))))))
    (pss_one (ps_set (i := 3) sc_l_plain.nd rfl (Or.inl rfl) (pe_slice (k_sl_list (K := K) rfl) (pe_op op_cat (pv 3) (pe_lst (pa_cons (pv 5) pa_nil))) (po_some (pe_un un_neg (pv 1))) po_none)))))
    (pss_one (ps_ret (pv 2)))))), ?_⟩
  refine ⟨Nat.zero_le _, fun f hf => ⟨Nat.zero_le _, fun g hg => ?_⟩⟩
  have s0 := (same_new hf (.lst [])).trans (same_new hg (.lst []))
  have gH : H g = none := (same_new hf (.lst [])).free hg
  have gf : g ≠ f := fun z => by rw [z, upd_same] at hg; cases hg
  refine ⟨_, rfl, a, _, rfl, SqL.of (s0 _ _ ha), for_it (walk_enum (K := K) (a := a) (xs := l.map V.str)) (fun i σ H' => ∃ (b : Addr) (s4 s5 : Option V), σ = [some (.ref a), some (.int ((p + 1 : Nat) : Int)), some (.ref f), some (.ref b), s4, s5] ∧ Same H H' ∧ H b = none ∧ b ≠ f ∧
      H' f = some (.lst ((missL ((p : Int) + 1) (l.take i)).map natV)) ∧ H' b = some (.lst ((keepL (p + 1) (l.take i)).map V.str)))
    ⟨g, _, _, rfl, s0, gH, gf, by rw [upd_ne gf.symm, upd_same]; rfl, upd_same⟩ (fun i σ H' _ z => by obtain ⟨_, _, _, _, s1, _⟩ := z; exact SqL.of (s1 _ _ ha)) ?_ ?_⟩
  · rintro i v σ H1 H2 hi ⟨b, s4, s5, rfl, s1, hb0, bf, hf1, hb1⟩ ⟨tp, y1, y2, rfl, htp, rfl, g1, g2⟩
    have g1 := Option.some.inj g1
    subst g1
    rw [List.length_map] at hi
    have ez : l[i]? = some l[i] := List.getElem?_eq_getElem hi
    generalize l[i] = z at ez
    have g2 : (l.map V.str)[i]? = some y2 := g2
    rw [List.getElem?_map, ez] at g2
    have g2 := Option.some.inj g2
    subst g2
    have st := same_new htp (.tup [V.int (i : Nat), V.str z])
    have hf2 := st _ _ hf1
    have hb2 := st _ _ hb1
    have s2 := s1.trans st
    refine ⟨tp, _, rfl, SqT.of upd_same, rfl, _, _, rfl, _, _, rfl, rfl, ?_⟩
    generalize upd H1 tp (.tup [V.int (i : Nat), V.str z]) = H2 at hf2 hb2 s2 st ⊢
    have il := (List.getElem?_eq_some_iff.mp ez).1
    have tk : l.take (i + 1) = l.take i ++ [z] := by rw [List.take_succ, ez]; rfl
    have ks := keep_snoc p (l.take i) z
    rw [← tk] at ks
    have mk := miss_keep (p := p) (l.take i) z
    have mt := missL_take (p := (p : Int) + 1) ez
    rw [mk] at mt
    have kl := keep_len p (l.take i)
    have fbn : f ≠ b := fun e => bf e.symm
    -- the turn's end
    have fin : ∀ (H3 : Hp) (L : List Str) (w1 w2 : Option V), Same H H3 → H3 f = some (.lst ((missL ((p : Int) + 1) (l.take (i + 1))).map natV)) → H3 b = some (.lst (L.map V.str)) → L.length ≤ p + 1 → (L ++ [z]).drop (L.length + 1 - (p + 1)) = keepL (p + 1) (l.take (i + 1)) →
        ∀ c, H3 c = none → ∀ e, upd H3 c (.lst [V.str z]) e = none → ∀ r, upd (upd H3 c (.lst [V.str z])) e (.lst (L.map V.str ++ [V.str z])) r = none →
        ∃ (b' : Addr) (s4 s5 : Option V), [some (V.ref a), some (V.int ((p + 1 : Nat) : Int)), some (V.ref f), some (V.ref r), w1, w2] = [some (.ref a), some (.int ((p + 1 : Nat) : Int)), some (.ref f), some (.ref b'), s4, s5] ∧ Same H (upd (upd (upd H3 c (.lst [V.str z])) e (.lst (L.map V.str ++ [V.str z]))) r (.lst (cutV (L.map V.str ++ [V.str z]) (some (-((p + 1 : Nat) : Int))) none))) ∧ H b' = none ∧ b' ≠ f ∧
          upd (upd (upd H3 c (.lst [V.str z])) e (.lst (L.map V.str ++ [V.str z]))) r (.lst (cutV (L.map V.str ++ [V.str z]) (some (-((p + 1 : Nat) : Int))) none)) f = some (.lst ((missL ((p : Int) + 1) (l.take (i + 1))).map natV)) ∧
          upd (upd (upd H3 c (.lst [V.str z])) e (.lst (L.map V.str ++ [V.str z]))) r (.lst (cutV (L.map V.str ++ [V.str z]) (some (-((p + 1 : Nat) : Int))) none)) b' = some (.lst ((keepL (p + 1) (l.take (i + 1))).map V.str)) := by
      intro H3 L w1 w2 s3 h3f h3b lL eL c hc e he r hr
      have t1 := same_new hc (.lst [V.str z])
      have t2 := same_new he (.lst (L.map V.str ++ [V.str z]))
      have t3 := same_new hr (.lst (cutV (L.map V.str ++ [V.str z]) (some (-((p + 1 : Nat) : Int))) none))
      have t := (s3.trans t1).trans t2
      have r0 := t.free hr
      refine ⟨r, w1, w2, rfl, t.trans t3, r0, ?_, t3 _ _ (t2 _ _ (t1 _ _ h3f)), ?_⟩
      · rintro rfl
        rw [t2 _ _ (t1 _ _ h3f)] at hr
        cases hr
      · rw [upd_same, cut_last]
        have e2 : L.map V.str ++ [V.str z] = (L ++ [z]).map V.str := by rw [List.map_append]; rfl
        rw [e2, List.length_map, List.length_append, ← List.map_drop]
        exact congrArg (fun x => some (HO.lst (x.map V.str))) eL
    have z0 : ∀ L : List Str, L.length ≤ p + 1 → (L.map V.str).length + [V.str z].length ≤ sizeLine := fun L hL => by
      rw [List.length_map]
      exact Nat.le_trans (show L.length + 1 ≤ 500 by omega) (by decide)
    refine ⟨_, rfl, _, rfl, b, _, rfl, .inl (SqL.of hb2), rfl, flat_strs _, _, rfl, ?_⟩
    rw [inV_strs]
    refine ite2 (fun c => ?_) (fun c => ?_)
    · have m : z ∈ keepL (p + 1) (l.take i) := by simpa using c
      rw [if_pos m] at ks
      rw [decide_eq_false (by simpa using m)] at mt
      have jl := List.idxOf_lt_length_of_mem m
      have gj : ((keepL (p + 1) (l.take i)).map V.str)[(keepL (p + 1) (l.take i)).idxOf z]? = some (.str z) := by
        rw [List.getElem?_map, List.getElem?_eq_getElem jl, List.getElem_idxOf]; rfl
      refine ⟨_, rfl, .inl ⟨rfl, _, SqL.of hb2⟩, _, rfl, b, (keepL (p + 1) (l.take i)).map V.str, V.str z, (keepL (p + 1) (l.take i)).idxOf z, V.str z, rfl, rfl, hb2, rfl, flat_strs _, gj, (show (z == z) = true by simp), fun m' z' hm hz' => idx_before hm hz', ?_⟩
      have hel : ((keepL (p + 1) (l.take i)).map V.str).eraseIdx ((keepL (p + 1) (l.take i)).idxOf z) = ((keepL (p + 1) (l.take i)).erase z).map V.str := by rw [map_erase, erase_idx _ _ m]
      rw [hel]
      have le := List.length_erase_of_mem m
      have lp := List.length_pos_of_mem m
      have hb3 : upd H2 b (.lst (((keepL (p + 1) (l.take i)).erase z).map V.str)) b = some (.lst (((keepL (p + 1) (l.take i)).erase z).map V.str)) := upd_same
      refine ⟨_, rfl, _, rfl, (by show 1 ≤ sizeLine; decide), fun c hc => ⟨b, c, _, _, rfl, rfl, same_new hc _ _ _ hb3, upd_same, z0 _ (by omega), fun e he => ⟨_, rfl, _, rfl, _, rfl, e, _, rfl, SqL.of upd_same, fun r hr => ?_⟩⟩⟩
      refine fin _ ((keepL (p + 1) (l.take i)).erase z) _ _ (same_mut s2 hb0 _) ?_ hb3 (by omega) ?_ c hc e he r hr
      · rw [upd_ne fbn, hf2, mt]
        simp
      · rw [ks, show ((keepL (p + 1) (l.take i)).erase z).length + 1 - (p + 1) = 0 by omega, List.drop_zero]
    · have m : z ∉ keepL (p + 1) (l.take i) := by simpa using c
      rw [if_neg m] at ks
      rw [decide_eq_true m] at mt
      have hf3 : upd H2 f (.lst ((missL ((p : Int) + 1) (l.take i)).map natV ++ [V.int (i : Nat)])) f = some (.lst ((missL ((p : Int) + 1) (l.take (i + 1))).map natV)) := by
        rw [upd_same, mt, if_pos rfl, List.map_append]; rfl
      have hb3 : upd H2 f (.lst ((missL ((p : Int) + 1) (l.take i)).map natV ++ [V.int (i : Nat)])) b = some (.lst ((keepL (p + 1) (l.take i)).map V.str)) := by rw [upd_ne bf]; exact hb2
      have ml : (missL ((p : Int) + 1) (l.take i)).length ≤ 400 := by
        unfold missL
        refine Nat.le_trans (List.length_filter_le _ _) ?_
        rw [List.length_range, List.length_take]; omega
      refine ⟨_, rfl, .inl ⟨rfl, _, SqL.of hf2⟩, _, rfl, f, _, _, rfl, rfl, hf2, (by rw [List.length_map]; exact Nat.lt_of_le_of_lt ml (by decide)), ?_⟩
      refine ⟨_, rfl, _, rfl, (by show 1 ≤ sizeLine; decide), fun c hc => ⟨b, c, _, _, rfl, rfl, same_new hc _ _ _ hb3, upd_same, z0 _ kl, fun e he => ⟨_, rfl, _, rfl, _, rfl, e, _, rfl, SqL.of upd_same, fun r hr => ?_⟩⟩⟩
      exact fin _ (keepL (p + 1) (l.take i)) _ _ (same_mut s2 hf _) hf3 hb3 kl ks.symm c hc e he r hr
  · rintro σ H1 ⟨b, s4, s5, rfl, s1, hb0, bf, hf1, hb1⟩
    rw [List.length_map, List.take_of_length_le (Nat.le_refl _)] at hf1
    exact ⟨_, rfl, q H1 f s1 hf hf1⟩
theorem ok_ldeep (T : Txt K mg) (O_l_deep : Own K mg "_law_deep" s_l_deep f_l_deep fd_l_deep ["_law_asks"]) : FnOk P w K mg base CX0 1 f_l_deep fd_l_deep ["_law_asks"] spLdp := by
  refine O_l_deep.F.ok sc_l_deep (fun vs H Q E h => by obtain ⟨a, l, rfl, _⟩ := h; rfl) (fun cdv A outer s H vs Q E hr h => ?_)
  obtain ⟨a, l, rfl, ha, ll, q⟩ := h
  have hu := hu_of hr
  refine ⟨_, (pss_cons (ps_set (i := 1) sc_l_deep.nd rfl (Or.inl rfl) (pe_lst pa_nil))
    (pss_cons (ps_set (i := 2) sc_l_deep.nd rfl (Or.inr rfl) pe_dnewK)
    (pss_cons (ps_for PassesOwn.never rfl (pi_enum (by rfl) T.n_enumerate (pa_cons (pv 0) pa_nil)) (pg_tup rfl (pgs_cons (pg_name (i := 3) sc_l_deep.nd rfl (Or.inl rfl)) (pgs_cons (pg_name (i := 4) sc_l_deep.nd rfl (Or.inl rfl)) pgs_nil)))
    (pss_cons (ps_set (i := 5) sc_l_deep.nd rfl (Or.inr rfl) (pe_dget2 hu (pv 2) (pv 4) pe_non ⟨rfl, rfl, rfl, rfl⟩))
    (pss_cons (ps_lock (ps_expr (k_bm (K := K) rfl (pe_bm PySem.F.plainAttrs_list PySem.F.slot_list_append PySem.F.type_list_append mt_append (pv 1) (pa_cons (pe_ifExp (pt_cmpR op_isN (pv 5) pe_non (nomark _)) pe_non (pe_callB (k_len_seq (K := K) rfl) (by rfl) T.n_len (by decide +kernel) (pa_cons (pe_lc (own := [("_law_one", 6)]) rfl sc_l_deep.nd (pi_keys (pv 2)) (blkOk_by (own := [("_law_one", 6)]) (N := ["_law_asks", "_law_found", "_law_spots", "_law_place", "_law_thing", "_law_there", "_law_one"]) (sc := defScope s_l_deep) (by decide +kernel)) (fun _ _ _ _ _ => (pg_name (i := 6) sc_l_deep.nd rfl (Or.inl rfl))) (fun _ _ _ _ _ => pts_one (pt_cmpR op_gt (pe_dget hu (pv 2) (pv 6) (fun _ _ => rfl)) (pv 5) (nomark _))) (fun _ _ _ _ _ => (pv 6))) pa_nil))) pa_nil)))))
    (pss_one (ps_dput hu (pv 2) (pv 4) (pv 3) rfl)))))
    (pss_one (ps_ret (pv 1)))))), ?_⟩
  refine ⟨Nat.zero_le _, fun f hf g hg => ?_⟩
  have s0 := (same_new hf (.lst [])).trans (same_new hg (.dK []))
  have gH : H g = none := (same_new hf (.lst [])).free hg
  have gf : g ≠ f := fun z => by rw [z, upd_same] at hg; cases hg
  refine ⟨_, rfl, a, _, rfl, SqL.of (s0 _ _ ha), for_it (walk_enum (K := K) (a := a) (xs := l.map V.str)) (fun i σ H' => ∃ (s3 s4 s5 s6 : Option V), σ = [some (.ref a), some (.ref f), some (.ref g), s3, s4, s5, s6] ∧ Same H H' ∧
      H' f = some (.lst ((depL (l.take i)).map depV)) ∧ H' g = some (.dK (dctV (tabL (firstsL (l.take i)) (lastP (l.take i))))))
    ⟨_, _, _, _, rfl, s0, by rw [upd_ne gf.symm, upd_same]; rfl, upd_same⟩ (fun i σ H' _ z => by obtain ⟨_, _, _, _, _, s1, _⟩ := z; exact SqL.of (s1 _ _ ha)) ?_ ?_⟩
  · rintro i v σ H1 H2 hi ⟨s3, s4, s5, s6, rfl, s1, hf1, hg1⟩ ⟨tp, y1, y2, rfl, htp, rfl, g1, g2⟩
    have g1 := Option.some.inj g1
    subst g1
    rw [List.length_map] at hi
    have ez : l[i]? = some l[i] := List.getElem?_eq_getElem hi
    generalize l[i] = z at ez
    have g2 : (l.map V.str)[i]? = some y2 := g2
    rw [List.getElem?_map, ez] at g2
    have g2 := Option.some.inj g2
    subst g2
    have st := same_new htp (.tup [V.int (i : Nat), V.str z])
    have hf2 := st _ _ hf1
    have hg2 := st _ _ hg1
    have s2 := s1.trans st
    refine ⟨tp, _, rfl, SqT.of upd_same, rfl, _, _, rfl, _, _, rfl, rfl, ?_⟩
    generalize upd H1 tp (.tup [V.int (i : Nat), V.str z]) = H2 at hf2 hg2 s2 st ⊢
    have dl : (depL (l.take i)).length ≤ 400 := by rw [depL_len, List.length_take]; omega
    have fl : (firstsL (l.take i)).length ≤ 400 := by have := firsts_len (l.take i); rw [List.length_take] at this; omega
    have dt := depL_take ez
    have ft := tab_last ez
    -- the turn's end
    have fin : ∀ (H5 : Hp) (o : Option Nat) (w5 w6 : Option V), (∀ b u, b ≠ f → b ≠ g → H2 b = some u → H5 b = some u) → depL (l.take (i + 1)) = depL (l.take i) ++ [o] →
        ∃ (s3 s4 s5 s6 : Option V), [some (V.ref a), some (V.ref f), some (V.ref g), some (V.int (i : Nat)), some (V.str z), w5, w6] = [some (.ref a), some (.ref f), some (.ref g), s3, s4, s5, s6] ∧
          Same H (upd (upd (upd H5 f (.lst ((depL (l.take i)).map depV ++ [depV o]))) g (.dK (dctV (tabL (firstsL (l.take i)) (lastP (l.take i)))))) g (.dK (putK (dctV (tabL (firstsL (l.take i)) (lastP (l.take i)))) (.inr z) (.int (i : Nat))))) ∧
          upd (upd (upd H5 f (.lst ((depL (l.take i)).map depV ++ [depV o]))) g (.dK (dctV (tabL (firstsL (l.take i)) (lastP (l.take i)))))) g (.dK (putK (dctV (tabL (firstsL (l.take i)) (lastP (l.take i)))) (.inr z) (.int (i : Nat)))) f = some (.lst ((depL (l.take (i + 1))).map depV)) ∧
          upd (upd (upd H5 f (.lst ((depL (l.take i)).map depV ++ [depV o]))) g (.dK (dctV (tabL (firstsL (l.take i)) (lastP (l.take i)))))) g (.dK (putK (dctV (tabL (firstsL (l.take i)) (lastP (l.take i)))) (.inr z) (.int (i : Nat)))) g = some (.dK (dctV (tabL (firstsL (l.take (i + 1))) (lastP (l.take (i + 1)))))) := by
      intro H5 o w5 w6 s5 eo
      refine ⟨_, _, _, _, rfl, fun b u e => ?_, ?_, ?_⟩
      · have bf : b ≠ f := fun x => by rw [x, hf] at e; cases e
        have bg : b ≠ g := fun x => by rw [x, gH] at e; cases e
        rw [upd_ne bg, upd_ne bg, upd_ne bf]
        exact s5 b u bf bg (s2 _ _ e)
      · rw [upd_ne gf.symm, upd_ne gf.symm, upd_same, eo, List.map_append]; rfl
      · rw [upd_same, ft]
    have lk : ∀ (u : List (Str × Int)), u.length ≤ 400 → (dctV u).length < sizeLine := fun u hu => by unfold dctV; rw [List.length_map]; exact Nat.lt_of_le_of_lt hu (by decide)
    have tl : (tabL (firstsL (l.take i)) (lastP (l.take i))).length ≤ 400 := by unfold tabL; rw [List.length_map]; exact fl
    have gd : ∀ o, (if z ∈ firstsL (l.take i) then some (V.int (lastP (l.take i) z)) else none) = o → DGet H2 g (.str z) o := fun o e => by
      have := DGet.k (k := Sum.inr z) hg2
      rw [valV_tab, e] at this
      exact this
    by_cases m : z ∈ l.take i
    · have m1 := (mem_firstsL z (l.take i)).mpr m
      refine ⟨_, rfl, g, rfl, .inl ⟨_, .inl hg2⟩, _, rfl, some (.int (lastP (l.take i) z)), gd _ (if_pos m1), ?_⟩
      refine ⟨g, _, hg2, trivial, fun od => ?_⟩
      have hgl : upd H2 g (.frz od (.dK (dctV (tabL (firstsL (l.take i)) (lastP (l.take i)))))) g = some (.frz od (.dK (dctV (tabL (firstsL (l.take i)) (lastP (l.take i)))))) := upd_same
      have hfl : upd H2 g (.frz od (.dK (dctV (tabL (firstsL (l.take i)) (lastP (l.take i)))))) f = some (.lst ((depL (l.take i)).map depV)) := by rw [upd_ne gf.symm]; exact hf2
      refine ⟨_, rfl, .inl ⟨rfl, _, SqL.of hfl⟩, ?_⟩
      refine ⟨_, rfl, rfl, _, rfl, iteF ?_⟩
      refine ⟨_, rfl, g, od, rfl, .inl ⟨_, hgl, fun L hL => lc_it (walk_keys (o := od)) (fun j H' => H' g = some (.frz od (.dK (dctV (tabL (firstsL (l.take i)) (lastP (l.take i)))))) ∧ (∀ b u, b ≠ f → b ≠ g → H2 b = some u → H' b = some u) ∧ H' f = some (.lst ((depL (l.take i)).map depV)) ∧
          H' L = some (.lst ((((firstsL (l.take i)).take j).filter fun y => decide (lastP (l.take i) z < lastP (l.take i) y)).map V.str))) ?_ (fun j H' _ x => x.1) ?_ ?_⟩⟩
      · have Lg : L ≠ g := fun x => by rw [x, hgl] at hL; cases hL
        have Lf : L ≠ f := fun x => by rw [x, hfl] at hL; cases hL
        refine ⟨by rw [upd_ne Lg.symm]; exact hgl, fun b u b1 b2 e => ?_, by rw [upd_ne Lf.symm]; exact hfl, upd_same⟩
        have e2 : upd H2 g (.frz od (.dK (dctV (tabL (firstsL (l.take i)) (lastP (l.take i)))))) b = some u := by rw [upd_ne b2]; exact e
        exact same_new hL _ _ _ e2
      · rintro j x H3 H4 hj ⟨hg3, st3, hf3, hL3⟩ ⟨rfl, k, v, hk, rfl⟩
        have Lg : L ≠ g := fun x => by rw [x, hgl] at hL; cases hL
        have Lf : L ≠ f := fun x => by rw [x, hfl] at hL; cases hL
        obtain ⟨y, hy, rfl, rfl⟩ := tab_at hk
        have ym := List.mem_of_getElem? hy
        have gy : DGet H4 g (.str y) (some (.int (lastP (l.take i) y))) := .inl ⟨_, Sum.inr y, .inr ⟨od, hg3⟩, rfl, by rw [valV_tab, if_pos ym]⟩
        refine ⟨rfl, _, rfl, _, rfl, g, _, rfl, gy, _, rfl, _, _, rfl, rfl, _, rfl, ?_⟩
        have tk : ((firstsL (l.take i)).take (j + 1)).filter (fun y => decide (lastP (l.take i) z < lastP (l.take i) y)) = ((firstsL (l.take i)).take j).filter (fun y => decide (lastP (l.take i) z < lastP (l.take i) y)) ++ (if decide (lastP (l.take i) z < lastP (l.take i) y) = true then [y] else []) := by
          rw [List.take_succ, hy, List.filter_append]
          congr 1
          show List.filter _ [y] = _
          rw [List.filter_cons]; rfl
        refine ite2 (fun c => ?_) (fun c => ?_)
        · rw [if_pos c] at tk
          refine ⟨_, rfl, _, hL3, ?_, by rw [upd_ne Lg.symm]; exact hg3, fun b u b1 b2 e => ?_, by rw [upd_ne Lf.symm]; exact hf3, ?_⟩
          · rw [List.length_map]
            refine Nat.lt_of_le_of_lt (Nat.le_trans (List.length_filter_le _ _) (?_ : _ ≤ 400)) (by decide)
            rw [List.length_take]; omega
          · have e3 := st3 b u b1 b2 e
            have bL : b ≠ L := fun x => by
              have e4 : upd H2 g (.frz od (.dK (dctV (tabL (firstsL (l.take i)) (lastP (l.take i)))))) b = some u := by rw [upd_ne b2]; exact e
              rw [x, hL] at e4; cases e4
            rw [upd_ne bL]; exact e3
          · rw [upd_same, tk, List.map_append]; rfl
        · rw [if_neg c, List.append_nil] at tk
          exact ⟨hg3, st3, hf3, by rw [hL3, tk]⟩
      · rintro H5 ⟨hg5, st5, hf5, hL5⟩
        rw [tab_len, List.take_of_length_le (Nat.le_refl _)] at hL5
        have cnt := later_count m
        refine ⟨L, _, rfl, .inl (SqL.of hL5), f, _, _, rfl, rfl, hf5, (by rw [List.length_map]; exact Nat.lt_of_le_of_lt dl (by decide)), ?_⟩
        refine ⟨by rw [upd_ne gf]; exact hg5, ?_⟩
        refine ⟨_, rfl, _, rfl, _, rfl, g, _, rfl, DPut.k (k := Sum.inr z) upd_same (lk _ tl), ?_⟩
        rw [List.length_map, cnt]
        exact fin _ (some ((lruL (l.take i)).idxOf z)) _ _ st5 (by rw [dt]; unfold depOf; rw [if_pos ((mem_lru z _).mpr m)])
    · have m1 : z ∉ firstsL (l.take i) := fun x => m ((mem_firstsL z (l.take i)).mp x)
      refine ⟨_, rfl, g, rfl, .inl ⟨_, .inl hg2⟩, _, rfl, none, gd _ (if_neg m1), ?_⟩
      refine ⟨g, _, hg2, trivial, fun od => ?_⟩
      have hfl : upd H2 g (.frz od (.dK (dctV (tabL (firstsL (l.take i)) (lastP (l.take i)))))) f = some (.lst ((depL (l.take i)).map depV)) := by rw [upd_ne gf.symm]; exact hf2
      have hgl : upd H2 g (.frz od (.dK (dctV (tabL (firstsL (l.take i)) (lastP (l.take i)))))) g = some (.frz od (.dK (dctV (tabL (firstsL (l.take i)) (lastP (l.take i)))))) := upd_same
      refine ⟨_, rfl, .inl ⟨rfl, _, SqL.of hfl⟩, ?_⟩
      refine ⟨_, rfl, rfl, _, rfl, iteT ?_⟩
      refine ⟨f, _, _, rfl, rfl, hfl, (by rw [List.length_map]; exact Nat.lt_of_le_of_lt dl (by decide)), ?_⟩
      refine ⟨by rw [upd_ne gf]; exact hgl, ?_⟩
      refine ⟨_, rfl, _, rfl, _, rfl, g, _, rfl, DPut.k (k := Sum.inr z) upd_same (lk _ tl), ?_⟩
      exact fin _ none _ _ (fun b u b1 b2 e => by rw [upd_ne b2]; exact e) (by rw [dt]; unfold depOf; rw [if_neg (fun x => m ((mem_lru z _).mp x))])
  · rintro σ H1 ⟨s3, s4, s5, s6, rfl, s1, hf1, hg1⟩
    rw [List.length_map, List.take_of_length_le (Nat.le_refl _)] at hf1
    exact ⟨_, rfl, q H1 f s1 hf hf1⟩
end
end K28

set_option Elab.async false
set_option linter.all false
set_option maxRecDepth 100000
set_option maxHeartbeats 4000000
set_option exponentiation.threshold 20000
namespace MC
open PySem PySem.Spec L2
/-- scalars -/
def smV : V → Bool
  | .non => true
  | .int i => decide (i.natAbs < 10 ^ 40)
  | _ => false
def sD : V → PyData
  | .int i => .int i
  | _ => .none
theorem sm_dd {H : Hp} : ∀ {vs : List V}, vs.all smV = true → DDs H vs (vs.map sD)
  | [], _ => .nil
  | v :: vs, h => by
    rw [List.all_cons, Bool.and_eq_true] at h
    refine .cons ?_ (sm_dd h.2)
    cases v <;> first | exact .non | exact .int _ | cases h.1
theorem sm_dp {K : PySem.W.Frag} {H : Hp} : ∀ {vs : List V}, vs.all smV = true → DpAll K H vs (vs.map sD)
  | [], _ => .nil
  | v :: vs, h => by
    rw [List.all_cons, Bool.and_eq_true] at h
    refine .cons ?_ (sm_dp h.2)
    cases v <;> first | exact .non | exact .int _ | cases h.1
theorem sm_facts : ∀ {vs : List V}, vs.all smV = true → oksD (vs.map sD) = true ∧ wDs (vs.map sD) = vs.length ∧ PyData.depthAll (vs.map sD) = 0 ∧ PyData.canLayAll0 (vs.map sD) = true ∧ PyData.eqvAll (vs.map sD) (vs.map sD) = true
  | [], _ => ⟨rfl, rfl, rfl, rfl, rfl⟩
  | v :: vs, h => by
    rw [List.all_cons, Bool.and_eq_true] at h
    obtain ⟨a, b, c, d, e⟩ := sm_facts h.2
    have ok : okD (sD v) = true ∧ wD (sD v) = 1 ∧ PyData.depth (sD v) = 0 ∧ PyData.canLay0 (sD v) = true ∧ PyData.eqv (sD v) (sD v) = true := by
      cases v with
      | non => exact ⟨rfl, rfl, rfl, rfl, by simp [sD, PyData.eqv]⟩
      | int i => exact ⟨h.1, rfl, rfl, rfl, by simp [sD, PyData.eqv]⟩
      | _ => cases h.1
    obtain ⟨o1, o2, o3, o4, o5⟩ := ok
    refine ⟨?_, ?_, ?_, ?_, ?_⟩
    · show (okD (sD v) && oksD (vs.map sD)) = true
      rw [o1, a]; rfl
    · show wD (sD v) + wDs (vs.map sD) = vs.length + 1
      omega
    · show max (PyData.depth (sD v)) (PyData.depthAll (vs.map sD)) = 0
      rw [o3, c]; rfl
    · show (PyData.canLay0 (sD v) && PyData.canLayAll0 (vs.map sD)) = true
      rw [o4, d]; rfl
    · simp only [List.map_cons, PyData.eqvAll, o5, e, Bool.and_self]
def lD (vs : List V) : PyData := .list (vs.map sD)
theorem lD_dd {H : Hp} {a : Addr} {vs : List V} (h : H a = some (.lst vs)) (k : vs.all smV = true) : DD H (.ref a) (lD vs) := .lst h (sm_dd k)
theorem lD_dp {K : PySem.W.Frag} {H : Hp} {a : Addr} {vs : List V} (h : H a = some (.lst vs)) (k : vs.all smV = true) : Dp K H (.ref a) (lD vs) := .lst (SqL.of h) (sm_dp k)
theorem lD_show {vs : List V} (k : vs.all smV = true) (hl : vs.length ≤ 1000) : (lD vs).showable = true ∧ (lD vs).depth ≤ 100 ∧ (lD vs).shown.length ≤ sizeLine := by
  obtain ⟨a, b, c, d, e⟩ := sm_facts k
  have ok : okD (lD vs) = true := a
  refine ⟨okD_showable _ ok, ?_, shown_fits ok ?_⟩
  · unfold lD; simp only [PyData.depth, c]; omega
  · unfold lD; simp only [wD, b]; omega
theorem lD_shaped {vs : List V} (k : vs.all smV = true) : SeqAt.shaped (lD vs) = true := by
  obtain ⟨a, b, c, d, e⟩ := sm_facts k
  unfold SeqAt.shaped lD
  rw [Bool.and_eq_true]
  exact ⟨by simp only [PyData.canLay0]; exact d, decide_eq_true (by simp only [PyData.depth, c]; omega)⟩
theorem lD_eqv {vs : List V} (k : vs.all smV = true) : PyData.eqv (lD vs) (lD vs) = true := by
  unfold lD; simp only [PyData.eqv]; exact (sm_facts k).2.2.2.2
theorem dep_sm {l : List Str} (hl : l.length ≤ 1000) : ((depL l).map depV).all smV = true := by
  rw [List.all_eq_true]
  intro v hv
  obtain ⟨o, ho, rfl⟩ := List.mem_map.mp hv
  unfold depL at ho
  obtain ⟨i, hi, rfl⟩ := List.mem_map.mp ho
  have il := List.mem_range.mp hi
  cases e : depOf (lruL (l.take i)) (l[i]?.getD Str.empty) with
  | none => rfl
  | some n =>
    have n1 := depOf_lt e
    rw [List.length_take] at n1
    exact decide_eq_true (Nat.lt_of_le_of_lt (show ((n : Nat) : Int).natAbs ≤ 1000 by omega) (show 1000 < 10 ^ 40 by decide))
theorem miss_mem {p : Int} {l : List Str} {n : Nat} (h : n ∈ missL p l) : n < l.length := by
  unfold missL at h
  exact List.mem_range.mp (List.mem_filter.mp h).1
theorem miss_len (p : Int) (l : List Str) : (missL p l).length ≤ l.length := by
  unfold missL
  refine Nat.le_trans (List.length_filter_le _ _) ?_
  rw [List.length_range]; exact Nat.le_refl _
theorem miss_sm {p : Int} {l : List Str} (hl : l.length ≤ 1000) : ((missL p l).map K28.natV).all smV = true := by
  rw [List.all_eq_true]
  intro v hv
  obtain ⟨n, hn, rfl⟩ := List.mem_map.mp hv
  have := miss_mem hn
  exact decide_eq_true (Nat.lt_of_le_of_lt (show ((n : Nat) : Int).natAbs ≤ 1000 by omega) (show 1000 < 10 ^ 40 by decide))
/-- no depth is so great -/
theorem miss_min {l : List Str} (hl : l.length ≤ 400) {k : Int} (h : 400 < k) : missL k l = missL 400 l := by
  unfold missL
  refine List.filter_congr fun i hi => ?_
  have il := List.mem_range.mp hi
  have e : (depL l)[i]? = some (depOf (lruL (l.take i)) (l[i]?.getD Str.empty)) := by
    unfold depL
    rw [List.getElem?_map, List.getElem?_range il]; rfl
  rw [e]
  show missD k (depOf (lruL (l.take i)) (l[i]?.getD Str.empty)) = missD 400 (depOf (lruL (l.take i)) (l[i]?.getD Str.empty))
  cases e2 : depOf (lruL (l.take i)) (l[i]?.getD Str.empty) with
  | none => rfl
  | some n =>
    have n1 := depOf_lt e2
    rw [List.length_take] at n1
    show decide (k ≤ (n : Int)) = decide ((400 : Int) ≤ (n : Int))
    rw [decide_eq_false (by omega), decide_eq_false (by omega)]
theorem cut_front (xs : List V) (v : V) : cutV (xs ++ [v]) none (some (-1)) = xs := by
  unfold cutV
  have e1 : HT.sIx (xs ++ [v]).length (xs ++ [v]).length (some (-1)) = xs.length := by
    unfold HT.sIx
    simp only []
    rw [if_pos (by decide), List.length_append, List.length_singleton]
    omega
  rw [e1, HT.sIx_none]
  simp
end MC
namespace K28
open PySem PySem.Spec L2 MC
open PyProof.Rows hiding St
def spRt : Sp := fun vs H Q _ => ∃ (t a : Addr) (N : Nat) (x : V) (d : PyData) (l : List Str), vs = [.ref t, x, .ref a] ∧ Pot H t N ∧ N ≤ 10 ^ 11 ∧ DD (Hid [t] H) x d ∧ Row5 l d ∧ a ≠ t ∧ H a = some (.lst (l.map V.str)) ∧ l.length ≤ 400 ∧
  ∀ H', Oth t H H' → Pot H' t (N + 10) → Q (.bl true) H'
section
variable {P : Program} {w : World} {K : PySem.W.Frag} {mg : Str → Option Value} {base : Heap}
variable {f_plain_depths f_plain_misses f_l_coin f_l_plain f_l_deep f_l_right : Addr} {fd_plain_depths fd_plain_misses fd_l_coin fd_l_plain fd_l_deep fd_l_right : FuncData}
theorem ok_right (T : Txt K mg) (O_plain_depths : Own K mg "plain_depths" s_plain_depths f_plain_depths fd_plain_depths ["row"]) (O_plain_misses : Own K mg "plain_misses" s_plain_misses f_plain_misses fd_plain_misses ["row", "places"]) (O_l_coin : Own K mg "_law_coin" s_l_coin f_l_coin fd_l_coin ["_law_till_here", "_law_many"]) (O_l_plain : Own K mg "_law_plain" s_l_plain f_l_plain fd_l_plain ["_law_asks", "_law_places"]) (O_l_deep : Own K mg "_law_deep" s_l_deep f_l_deep fd_l_deep ["_law_asks"]) (O_l_right : Own K mg "_law_right" s_l_right f_l_right fd_l_right ["_law_till_here", "_law_row_here", "_law_asks"]) (G_plain_depths : FnOk P w K mg base CX0 17 f_plain_depths fd_plain_depths ["row"] spPd) (G_plain_misses : FnOk P w K mg base CX0 17 f_plain_misses fd_plain_misses ["row", "places"] spPm)
    (G_l_coin : FnOk P w K mg base CX0 1 f_l_coin fd_l_coin ["_law_till_here", "_law_many"] spDraw) (G_l_plain : FnOk P w K mg base CX0 1 f_l_plain fd_l_plain ["_law_asks", "_law_places"] spLpl) (G_l_deep : FnOk P w K mg base CX0 1 f_l_deep fd_l_deep ["_law_asks"] spLdp) :
    FnA Clean P w K mg base CX0 18 f_l_right fd_l_right ["_law_till_here", "_law_row_here", "_law_asks"] spRt := by
  refine FunA.ok O_l_right.F sc_l_right (fun vs H Q E h => by obtain ⟨t, a, N, x, d, l, rfl, _⟩ := h; rfl) (fun cdv A outer s H vs Q E hg0 hr h => ?_)
  obtain ⟨t, a, N, x, d, l, rfl, hP, hN, hd, ⟨r1, r2, r3, r4, r5⟩, at', ha, ll, q⟩ := h
  have hg : (A.deeper (envOfC "_law_right" (defScope s_l_right) s.heap.objs.size f_l_right cdv)).guards = some [] := hg0
  have hu1 : (A.deeper (envOfC "_law_right" (defScope s_l_right) s.heap.objs.size f_l_right cdv)).units + 200 < cLine := by have := hr.un; omega
  have hu64 : (A.deeper (envOfC "_law_right" (defScope s_l_right) s.heap.objs.size f_l_right cdv)).units + 64 < cLine := by omega
  have hu : (A.deeper (envOfC "_law_right" (defScope s_l_right) s.heap.objs.size f_l_right cdv)).units + 1 < cLine := by omega
  have hn : ∃ o, K.lookup sysModules = some o := T.sys
  refine ⟨_, (pss_cons (ps_set (i := 3) sc_l_right.nd rfl (Or.inl rfl) (pe_callB (call_reprE hg hu1 hn) (by rfl) T.n_repr (by decide +kernel) (pa_cons (pe_call G_l_deep (hr.mono (by omega)) rfl O_l_deep.m O_l_deep.F.kp O_l_deep.b .nil pass0 (pa_cons (pv 2) pa_nil)) pa_nil)))
    (pss_cons (ps_for PassesOwn.never rfl (pi_range1 (by rfl) T.n_range (pa_cons pe_int pa_nil)) (pg_name (i := 4) sc_l_right.nd rfl (Or.inl rfl))
    (pss_cons (ps_set (i := 5) sc_l_right.nd rfl (Or.inl rfl) (pe_call G_plain_depths (hr.mono (by omega)) rfl O_plain_depths.m O_plain_depths.F.kp O_plain_depths.b .nil pass0 (pa_cons (pv 1) pa_nil)))
    (pss_cons (ps_if (pt_cmpR op_ne (pe_callB (call_reprE hg hu1 hn) (by rfl) T.n_repr (by decide +kernel) (pa_cons (pv 5) pa_nil)) (pv 3) (nomark _))
    (pss_one (ps_ret pe_bl))
    pss_nil)
    (pss_one (ps_expr (k_bm (K := K) rfl (pe_bm PySem.F.plainAttrs_list PySem.F.slot_list_append PySem.F.type_list_append mt_append (pv 5) (pa_cons pe_non pa_nil))))))))
    (pss_cons (ps_for PassesOwn.never rfl (k_list (K := K) rfl (pe_lst (pa_cons pe_int (pa_cons pe_int (pa_cons (pe_op op_add pe_int (pe_call G_l_coin (hr.mono (by omega)) rfl O_l_coin.m O_l_coin.F.kp O_l_coin.b .nil pass0 (pa_cons (pv 0) (pa_cons pe_int pa_nil)))) (pa_cons (pe_op op_add pe_int (pe_call G_l_coin (hr.mono (by omega)) rfl O_l_coin.m O_l_coin.F.kp O_l_coin.b .nil pass0 (pa_cons (pv 0) (pa_cons pe_int pa_nil)))) (pa_cons (pe_op op_pow pe_int pe_int) pa_nil))))))) (pg_name (i := 6) sc_l_right.nd rfl (Or.inl rfl))
    (pss_cons (ps_set (i := 5) sc_l_right.nd rfl (Or.inl rfl) (pe_call G_plain_misses (hr.mono (by omega)) rfl O_plain_misses.m O_plain_misses.F.kp O_plain_misses.b .nil pass0 (pa_cons (pv 1) (pa_cons (pv 6) pa_nil))))
    (pss_cons (ps_if (pt_cmpR op_ne (pe_callB (call_reprE hg hu1 hn) (by rfl) T.n_repr (by decide +kernel) (pa_cons (pv 5) pa_nil)) (pe_callB (call_reprE hg hu1 hn) (by rfl) T.n_repr (by decide +kernel) (pa_cons (pe_call G_l_plain (hr.mono (by omega)) rfl O_l_plain.m O_l_plain.F.kp O_l_plain.b .nil pass0 (pa_cons (pv 2) (pa_cons (pe_callB (call_min2 rfl) (by rfl) T.n_min (by decide +kernel) (pa_cons (pv 6) (pa_cons pe_int pa_nil))) pa_nil))) pa_nil)) (nomark _))
    (pss_one (ps_ret pe_bl))
    pss_nil)
    (pss_cons (ps_expr (k_bm (K := K) rfl (pe_bm PySem.F.plainAttrs_list PySem.F.slot_list_append PySem.F.type_list_append mt_append (pv 5) (pa_cons pe_int pa_nil))))
    (pss_one (ps_if (pt_cmpR (op_neD hu64) (pe_call G_plain_misses (hr.mono (by omega)) rfl O_plain_misses.m O_plain_misses.F.kp O_plain_misses.b .nil pass0 (pa_cons (pv 1) (pa_cons (pv 6) pa_nil))) (pe_slice (k_sl_list (K := K) rfl) (pv 5) po_none (po_some (pe_un un_neg pe_int))) (nomark _))
    (pss_one (ps_ret pe_bl))
    pss_nil))))))
    (pss_one (ps_ret pe_bl))))), ?_⟩
  have mr : manyR d ≤ 400 := by have := (outR_get d r1).1; rw [r2] at this; omega
  have sm1 := dep_sm (l := l) (by omega)
  obtain ⟨sh1, sh2, sh3⟩ := lD_show sm1 (by rw [List.length_map, depL_len]; omega)
  refine ⟨_, rfl, a, l, rfl, ha, ll, fun H1 b1 s1 b10 hb1 => ⟨b1, _, rfl, .of (lD_dd hb1 sm1), sh1, sh2, sh3, ?_⟩⟩
  have P1 := hP.same s1
  refine ⟨_, rfl, by decide, by decide, for_range (lo := 0) (n := 2) (fun i σ H' => ∃ (t4 t5 t6 : Option V), σ = [some (.ref t), some x, some (.ref a), some (.str (lD ((depL l).map depV)).shown), t4, t5, t6] ∧ Same H1 H') ⟨_, _, _, rfl, Same.refl _⟩ ?_ ?_⟩
  · rintro i σ H2 hi ⟨t4, t5, t6, rfl, s2⟩
    have hd2 : DD H2 x d := (hd.mono (Same.hid (s1.trans s2))).mono hid_same
    refine ⟨_, rfl, x, d, rfl, hd2, r3, by omega, by omega, r1, mr, fun H3 p s3 p0 hp => ?_⟩
    rw [r2] at hp
    refine ⟨_, rfl, p, _, rfl, .of (lD_dd hp sm1), sh1, sh2, sh3, _, rfl, rfl, _, rfl, ?_⟩
    refine ite2 (fun z => absurd z (by simp)) (fun _ => ?_)
    refine ⟨_, rfl, .inl ⟨rfl, _, SqL.of hp⟩, p, _, _, rfl, rfl, hp, ?_, ?_⟩
    · rw [List.length_map, depL_len]; exact Nat.lt_of_le_of_lt ll (by decide)
    exact ⟨_, _, _, rfl, same_mut (s2.trans s3) (s2.free p0) _⟩
  rintro σ H2 ⟨t4, t5, t6, rfl, s2⟩
  have P2 := P1.same s2
  refine ⟨_, rfl, t, N, 9, rfl, P2, by omega, by decide, by decide, fun c1 H3 c10 c11 o3 d3 => ⟨_, _, rfl, rfl, _, rfl, t, _, 60, rfl, d3, by omega, by decide, by decide, fun c2 H4 c20 c21 o4 d4 => ⟨_, _, rfl, rfl, _, _, rfl, rfl, ⟨by decide, by decide, by decide⟩, (by show 5 ≤ sizeLine; decide), fun b hb => ?_⟩⟩⟩
  have oH4 : Oth t H H4 := ((Oth.of (s1.trans s2)).trans o3).trans o4
  have items : ∀ v ∈ [V.int 1, V.int 2, V.int (1 + c1), V.int (1 + c2), V.int (10 ^ (30 : Int).toNat)], ∃ k : Int, v = .int k ∧ 1 ≤ k := by
    intro v hv
    simp only [List.mem_cons, List.not_mem_nil, or_false] at hv
    rcases hv with rfl | rfl | rfl | rfl | rfl
    · exact ⟨_, rfl, by decide⟩
    · exact ⟨_, rfl, by decide⟩
    · exact ⟨_, rfl, by omega⟩
    · exact ⟨_, rfl, by omega⟩
    · exact ⟨_, rfl, by decide⟩
  have bt : b ≠ t := d4.ne hb
  have hb5 := upd_same (H := H4) (a := b) (o := .lst [V.int 1, V.int 2, V.int (1 + c1), V.int (1 + c2), V.int (10 ^ (30 : Int).toNat)])
  have oH5 : Oth t H (upd H4 b (.lst [V.int 1, V.int 2, V.int (1 + c1), V.int (1 + c2), V.int (10 ^ (30 : Int).toNat)])) := oH4.updn (oH4.free d4.at hb) _
  have d5 : Pot (upd H4 b (.lst [V.int 1, V.int 2, V.int (1 + c1), V.int (1 + c2), V.int (10 ^ (30 : Int).toNat)])) t (N + 1 + 1) := d4.upd bt
  generalize upd H4 b (.lst [V.int 1, V.int 2, V.int (1 + c1), V.int (1 + c2), V.int (10 ^ (30 : Int).toNat)]) = H5 at hb5 oH5 d5
  generalize [V.int 1, V.int 2, V.int (1 + c1), V.int (1 + c2), V.int (10 ^ (30 : Int).toNat)] = xs at hb5 items
  refine ⟨b, rfl, ⟨_, SqL.of hb5⟩, for_list (K := K) (a := b) (xs := xs) (fun i σ H' => ∃ (t4 t5 t6 : Option V), σ = [some (.ref t), some x, some (.ref a), some (.str (lD ((depL l).map depV)).shown), t4, t5, t6] ∧ Same H5 H') ⟨_, _, _, rfl, Same.refl _⟩ (fun i σ H' _ z => by obtain ⟨_, _, _, _, z⟩ := z; exact SqL.of (z _ _ hb5)) ?_ ?_⟩
  · rintro i v σ H6 hi ⟨t4, t5, t6, rfl, s6⟩
    obtain ⟨k, rfl, k1⟩ := items v (List.mem_of_getElem? hi)
    have dRow : ∀ {H' : Hp}, Same H5 H' → DD H' x d := fun {H'} e => ((hd.mono oH5.hid).mono (Same.hid e)).mono hid_same
    have hasks : ∀ {H' : Hp}, Same H5 H' → H' a = some (.lst (l.map V.str)) := fun {H'} e => e _ _ (oH5 _ _ at' ha)
    have sm2 := miss_sm (p := k) (l := l) (by omega)
    have ml := miss_len k l
    obtain ⟨sj1, sj2, sj3⟩ := lD_show sm2 (by rw [List.length_map]; omega)
    obtain ⟨pn, hpn, pn4, hm⟩ : ∃ pn : Nat, (if (400 : Int) < k then 400 else k) = ((pn + 1 : Nat) : Int) ∧ pn + 1 ≤ 400 ∧ missL ((pn : Int) + 1) l = missL k l := by
      by_cases c : 400 < k
      · exact ⟨399, by rw [if_pos c]; rfl, by omega, (miss_min ll c).symm⟩
      · refine ⟨(k - 1).toNat, by rw [if_neg c]; omega, by omega, ?_⟩
        rw [show (((k - 1).toNat : Nat) : Int) + 1 = k by omega]
    refine ⟨_, rfl, _, rfl, x, d, k, rfl, dRow s6, r3, by omega, by omega, r1, mr, k1, fun H7 p s7 p0 hp => ?_⟩
    rw [r2] at hp
    have s67 := s6.trans s7
    refine ⟨_, rfl, p, _, rfl, .of (lD_dd hp sm2), sj1, sj2, sj3, _, rfl, _, rfl, _, _, rfl, a, l, pn, (by show [V.ref a, V.int (if (400 : Int) < k then 400 else k)] = _; rw [hpn]), hasks s67, ll, pn4, fun H8 b8 s8 b80 hb8 => ?_⟩
    rw [hm] at hb8
    refine ⟨b8, _, rfl, .of (lD_dd hb8 sm2), sj1, sj2, sj3, rfl, _, rfl, ?_⟩
    refine ite2 (fun z => absurd z (by simp)) (fun _ => ?_)
    have hp8 := s8 _ _ hp
    have s68 := s67.trans s8
    refine ⟨_, rfl, .inl ⟨rfl, _, SqL.of hp8⟩, p, _, _, rfl, rfl, hp8, ?_, ?_⟩
    · rw [List.length_map]; exact Nat.lt_of_le_of_lt (Nat.le_trans ml ll) (by decide)
    have hp9 := upd_same (H := H8) (a := p) (o := .lst ((missL k l).map natV ++ [V.int 0]))
    have s9 : Same H5 (upd H8 p (.lst ((missL k l).map natV ++ [V.int 0]))) := same_mut s68 (s6.free p0) _
    generalize upd H8 p (.lst ((missL k l).map natV ++ [V.int 0])) = H9 at hp9 s9
    refine ⟨_, rfl, _, rfl, x, d, k, rfl, dRow s9, r3, by omega, by omega, r1, mr, k1, fun Ha pa sa pa0 hpa => ?_⟩
    rw [r2] at hpa
    refine ⟨_, rfl, _, rfl, _, rfl, p, _, rfl, SqL.of (sa _ _ hp9), fun e he => ?_⟩
    have se := same_new he (.lst (cutV ((missL k l).map natV ++ [V.int 0]) none (some (-1))))
    have hee := upd_same (H := Ha) (a := e) (o := .lst (cutV ((missL k l).map natV ++ [V.int 0]) none (some (-1))))
    rw [cut_front] at hee
    refine ⟨_, _, lD_dp (se _ _ hpa) sm2, lD_dp (by rw [cut_front]; exact hee) sm2, lD_shaped sm2, lD_shaped sm2, _, rfl, ?_⟩
    refine ite2 (fun z => absurd z (by rw [lD_eqv sm2]; simp)) (fun _ => ?_)
    exact ⟨_, _, _, rfl, (s9.trans sa).trans se⟩
  · rintro σ H6 ⟨t4, t5, t6, rfl, s6⟩
    exact q H6 (oH5.trans (Oth.of s6)) ((d5.same s6).mono (by omega))
end
end K28

set_option Elab.async false
set_option linter.all false
set_option maxRecDepth 100000
set_option maxHeartbeats 4000000
set_option exponentiation.threshold 20000
namespace K28
open PySem PySem.Spec L2 MC
open PyProof.Rows hiding St
def spAn : Sp := fun vs H Q _ => ∃ (t a : Addr) (N : Nat) (l : List Str), vs = [.ref t, .ref a] ∧ Pot H t N ∧ N ≤ 10 ^ 11 ∧ H a = some (.lst (l.map V.str)) ∧ l.all isThingS = true ∧ l.length ≤ 20 ∧
  ∀ H', Oth t H H' → Pot H' t (N + 10) → Q (.bl true) H'
section
variable {P : Program} {w : World} {K : PySem.W.Frag} {mg : Str → Option Value} {base : Heap}
variable {f_plain_depths f_plain_misses f_l_coin f_l_plain f_l_deep f_l_anew_right : Addr} {fd_plain_depths fd_plain_misses fd_l_coin fd_l_plain fd_l_deep fd_l_anew_right : FuncData}
theorem ok_anew (T : Txt K mg) (O_plain_depths : Own K mg "plain_depths" s_plain_depths f_plain_depths fd_plain_depths ["row"]) (O_plain_misses : Own K mg "plain_misses" s_plain_misses f_plain_misses fd_plain_misses ["row", "places"]) (O_l_coin : Own K mg "_law_coin" s_l_coin f_l_coin fd_l_coin ["_law_till_here", "_law_many"]) (O_l_plain : Own K mg "_law_plain" s_l_plain f_l_plain fd_l_plain ["_law_asks", "_law_places"]) (O_l_deep : Own K mg "_law_deep" s_l_deep f_l_deep fd_l_deep ["_law_asks"]) (O_l_anew_right : Own K mg "_law_anew_right" s_l_anew_right f_l_anew_right fd_l_anew_right ["_law_till_here", "_law_asks"]) (G_plain_depths : FnOk P w K mg base CX0 17 f_plain_depths fd_plain_depths ["row"] spPd) (G_plain_misses : FnOk P w K mg base CX0 17 f_plain_misses fd_plain_misses ["row", "places"] spPm)
    (G_l_coin : FnOk P w K mg base CX0 1 f_l_coin fd_l_coin ["_law_till_here", "_law_many"] spDraw) (G_l_plain : FnOk P w K mg base CX0 1 f_l_plain fd_l_plain ["_law_asks", "_law_places"] spLpl) (G_l_deep : FnOk P w K mg base CX0 1 f_l_deep fd_l_deep ["_law_asks"] spLdp) :
    FnOk P w K mg base CX0 18 f_l_anew_right fd_l_anew_right ["_law_till_here", "_law_asks"] spAn := by
  refine O_l_anew_right.F.ok sc_l_anew_right (fun vs H Q E h => by obtain ⟨t, a, N, l, rfl, _⟩ := h; rfl) (fun cdv A outer s H vs Q E hr h => ?_)
  obtain ⟨t, a, N, l, rfl, hP, hN, ha, hl, ll, q⟩ := h
  have hu64 : (A.deeper (envOfC "_law_anew_right" (defScope s_l_anew_right) s.heap.objs.size f_l_anew_right cdv)).units + 64 < cLine := by have := hr.un; omega
  refine ⟨_, (pss_cons (ps_set (i := 2) sc_l_anew_right.nd rfl (Or.inl rfl) (pe_callTy (k_list_of (K := K) rfl) (by rfl) T.n_list (by decide +kernel) (pa_cons (pv 1) pa_nil)))
    (pss_cons (ps_for PassesOwn.never rfl (pi_range1 (by rfl) T.n_range (pa_cons pe_int pa_nil)) (pg_name (i := 3) sc_l_anew_right.nd rfl (Or.inl rfl))
    (pss_cons (ps_if (PW.pt (pw_or (pt_cmpR (op_neD hu64) (pe_call G_plain_depths (hr.mono (by omega)) rfl O_plain_depths.m O_plain_depths.F.kp O_plain_depths.b .nil pass0 (pa_cons (pv 2) pa_nil)) (pe_call G_l_deep (hr.mono (by omega)) rfl O_l_deep.m O_l_deep.F.kp O_l_deep.b .nil pass0 (pa_cons (pv 2) pa_nil)) (nomark _)) (pw_or1 (pt_cmpR (op_neD hu64) (pe_call G_plain_misses (hr.mono (by omega)) rfl O_plain_misses.m O_plain_misses.F.kp O_plain_misses.b .nil pass0 (pa_cons (pv 2) (pa_cons pe_int pa_nil))) (pe_call G_l_plain (hr.mono (by omega)) rfl O_l_plain.m O_l_plain.F.kp O_l_plain.b .nil pass0 (pa_cons (pv 2) (pa_cons pe_int pa_nil))) (nomark _)))))
    (pss_one (ps_ret pe_bl))
    pss_nil)
    (pss_cons (ps_set (i := 4) sc_l_anew_right.nd rfl (Or.inl rfl) (pe_call G_l_coin (hr.mono (by omega)) rfl O_l_coin.m O_l_coin.F.kp O_l_coin.b .nil pass0 (pa_cons (pv 0) (pa_cons (pe_op op_add (pe_callB (k_len_seq (K := K) rfl) (by rfl) T.n_len (by decide +kernel) (pa_cons (pv 2) pa_nil)) pe_int) pa_nil))))
    (pss_one (ps_slset (pv 2) (po_some (pv 4)) (po_some (pe_op op_add (pv 4) (pe_op op_mod (pv 3) pe_int))) (pe_lst (pa_cons pe_str pa_nil)) rfl)))))
    (pss_one (ps_ret pe_bl)))), ?_⟩
  refine ⟨_, rfl, a, _, rfl, .inl (SqL.of ha), fun o ho => ?_⟩
  have ot : o ≠ t := hP.ne ho
  refine ⟨_, rfl, by decide, by decide, for_range (lo := 0) (n := 4) (fun i σ H' => ∃ (s3 s4 : Option V) (l' : List Str), σ = [some (.ref t), some (.ref a), some (.ref o), s3, s4] ∧ Oth t H H' ∧ Pot H' t (N + i) ∧ H' o = some (.lst (l'.map V.str)) ∧ l'.length ≤ 20 + i ∧ l'.all isThingS = true)
    ⟨_, _, l, rfl, (Oth.refl t H).updn ho _, hP.upd ot, upd_same, by omega, hl⟩ ?_ ?_⟩
  · rintro i σ H2 hi ⟨s3, s4, l', rfl, o2, d2, h2, len, ok⟩
    obtain ⟨⟨r1, r2, r3, r4, r5⟩, _⟩ := row5_flat ok (by omega)
    have mr : manyR (.list (strD l')) ≤ 400 := by have := (outR_get _ r1).1; rw [r2] at this; omega
    have dRow : ∀ {H' : Hp}, Same H2 H' → DD H' (.ref o) (.list (strD l')) := fun {H'} e => .lst (e _ _ h2) (strs_D l')
    have sm1 := dep_sm (l := l') (by omega)
    have sm2 := miss_sm (p := 2) (l := l') (by omega)
    refine ⟨_, rfl, .ref o, _, rfl, dRow (Same.refl _), r3, by omega, by omega, r1, mr, fun H3 p3 s3' p30 hp3 => ?_⟩
    rw [r2] at hp3
    refine ⟨_, rfl, o, l', rfl, s3' _ _ h2, by omega, fun H4 p4 s4' p40 hp4 => ?_⟩
    have s24 := s3'.trans s4'
    refine ⟨_, _, lD_dp (s4' _ _ hp3) sm1, lD_dp hp4 sm1, lD_shaped sm1, lD_shaped sm1, _, rfl, ?_⟩
    refine ite2 (fun z => absurd z (by rw [lD_eqv sm1]; simp)) (fun _ => ?_)
    refine ⟨_, rfl, .ref o, _, 2, rfl, dRow s24, r3, by omega, by omega, r1, mr, by decide, fun H5 p5 s5' p50 hp5 => ?_⟩
    rw [r2] at hp5
    have s25 := s24.trans s5'
    refine ⟨_, rfl, o, l', 1, rfl, s25 _ _ h2, by omega, by omega, fun H6 p6 s6' p60 hp6 => ?_⟩
    have hp6 : H6 p6 = some (.lst ((missL 2 l').map natV)) := hp6
    have s26 := s25.trans s6'
    refine ⟨_, _, lD_dp (s6' _ _ hp5) sm2, lD_dp hp6 sm2, lD_shaped sm2, lD_shaped sm2, _, rfl, ?_⟩
    refine ite2 (fun z => absurd z (by rw [lD_eqv sm2]; simp)) (fun _ => ?_)
    have d6 := d2.same s26
    have h6 := s26 _ _ h2
    have il : i < 4 := by omega
    refine ⟨_, rfl, _, rfl, _, _, rfl, .inl (SqL.of h6), _, _, rfl, rfl, t, N + i, _, rfl, d6, by omega, by omega, ?_, fun r H7 r0 rl o7 d7 => ?_⟩
    · rw [List.length_map]; omega
    rw [List.length_map] at rl
    have h7 := o7 _ _ ot h6
    refine ⟨(by show 1 ≤ sizeLine; decide), fun b hb => ?_⟩
    have bo : o ≠ b := fun z => by rw [z, hb] at h7; cases h7
    have h8 : upd H7 b (.lst [V.str "qq"]) o = some (.lst (l'.map V.str)) := same_new hb _ _ _ h7
    have oH : Oth t H (upd H7 b (.lst [V.str "qq"])) := ((o2.trans (Oth.of s26)).trans o7).updn (((o2.trans (Oth.of s26)).trans o7).free d7.at hb) _
    have d8 : Pot (upd H7 b (.lst [V.str "qq"])) t (N + i + 1) := d7.upd (d7.ne hb)
    have hb8 : upd H7 b (.lst [V.str "qq"]) b = some (.lst [V.str "qq"]) := upd_same
    generalize upd H7 b (.lst [V.str "qq"]) = H8 at h8 oH d8 hb8
    have tm0 : 0 ≤ (0 + (i : Int)) % 2 := Int.emod_nonneg _ (by decide)
    refine ⟨_, rfl, _, rfl, _, rfl, _, rfl, _, rfl, _, _, rfl, rfl, (by show (0 : Int) < 2; decide), _, _, rfl, rfl, _, rfl, ?_⟩
    refine ⟨o, b, l'.map V.str, [V.str "qq"], r.toNat, (r + (0 + (i : Int)) % 2).toNat, rfl, rfl, ?_, ?_, h8, hb8, bo, by omega, ?_, ?_, ?_⟩
    · rw [Int.toNat_of_nonneg r0]
    · rw [Int.toNat_of_nonneg (by omega)]
    · rw [List.length_map]; omega
    · rw [List.length_map]
      exact Nat.le_trans (show l'.length + 1 ≤ 30 by omega) (by decide)
    have el : (l'.map V.str).take r.toNat ++ [V.str "qq"] ++ (l'.map V.str).drop (min (r + (0 + (i : Int)) % 2).toNat (l'.map V.str).length) = (l'.take r.toNat ++ [("qq" : Str)] ++ l'.drop (min (r + (0 + (i : Int)) % 2).toNat l'.length)).map V.str := by
      rw [List.map_append, List.map_append, List.map_take, List.map_drop, List.length_map]; rfl
    rw [el]
    have ok1 := List.all_eq_true.mp ok
    refine ⟨_, _, _, rfl, oH.updn ho _, d8.upd ot, upd_same, ?_, ?_⟩
    · rw [List.length_append, List.length_append, List.length_take, List.length_drop, List.length_singleton]; omega
    · rw [List.all_eq_true]
      intro y hy
      rcases List.mem_append.mp hy with hy | hy
      · rcases List.mem_append.mp hy with hy | hy
        · exact ok1 y (List.mem_of_mem_take hy)
        · rw [List.mem_singleton.mp hy]; decide +kernel
      · exact ok1 y (List.mem_of_mem_drop hy)
  · rintro σ H2 ⟨s3, s4, l', rfl, o2, d2, h2, len, ok⟩
    exact q H2 o2 (d2.mono (by omega))
end
end K28

set_option Elab.async false
set_option linter.all false
set_option maxRecDepth 100000
set_option maxHeartbeats 4000000
set_option exponentiation.threshold 20000
namespace MC
open PySem PySem.Spec L2
theorem sqS {K : PySem.W.Frag} {H H' : Hp} {a : Addr} {xs : List V} (e : Same H H') (h : SqL K H a xs) : SqL K H' a xs := by
  rcases h with h | h
  · rcases h with h | ⟨o, h⟩
    · exact .inl (.inl (e _ _ h))
    · exact .inl (.inr ⟨o, e _ _ h⟩)
  · exact .inr h
theorem cut_to (l : List Str) (k : Nat) : cutV (l.map V.str) none (some (k : Int)) = (l.take k).map V.str := by
  unfold cutV
  rw [HT.sIx_nat, HT.sIx_none, List.drop_zero, Nat.sub_zero, List.length_map, ← List.map_take]
  congr 1
  rw [Nat.min_comm, ← List.take_take]
  exact List.take_of_length_le (by rw [List.length_take]; omega)
/-- a pair of how many and how wide -/
def Itm (H : Hp) (v : V) : Prop := ∃ (p : Addr) (m w : Int), v = .ref p ∧ H p = some (.tup [.int m, .int w]) ∧ 8 ≤ m ∧ m ≤ 400 ∧ 1 ≤ w ∧ w ≤ 60
end MC
namespace K28
open PySem PySem.Spec L2 MC
open PyProof.Rows hiding St
def spLaw (K : PySem.W.Frag) : Sp := fun vs H Q _ => ∃ (a : Addr) (ns : List Int), vs = [.ref a] ∧ SqL K H a (ns.map V.int) ∧ ns.length ≤ 63 ∧ ∀ H', Q (.bl true) H'
section
variable {P : Program} {w : World} {K : PySem.W.Frag} {mg : Str → Option Value} {base : Heap}
variable {f_plain_depths f_plain_misses f_l_till f_l_row f_l_right f_l_anew_right f_law : Addr} {fd_plain_depths fd_plain_misses fd_l_till fd_l_row fd_l_right fd_l_anew_right fd_law : FuncData}
theorem ok_law (T : Txt K mg) (G_plain_depths : FnOk P w K mg base CX0 17 f_plain_depths fd_plain_depths ["row"] spPd) (G_plain_misses : FnOk P w K mg base CX0 17 f_plain_misses fd_plain_misses ["row", "places"] spPm)
    (G_l_till : FnOk P w K mg base CX0 1 f_l_till fd_l_till ["_law_script", "_law_k"] (spTill K)) (G_l_row : FnOk P w K mg base CX0 3 f_l_row fd_l_row ["_law_till_here", "_law_most", "_law_wide"] spRow5)
    (G_l_right : FnA Clean P w K mg base CX0 18 f_l_right fd_l_right ["_law_till_here", "_law_row_here", "_law_asks"] spRt) (G_l_anew_right : FnOk P w K mg base CX0 18 f_l_anew_right fd_l_anew_right ["_law_till_here", "_law_asks"] spAn)
    (O_plain_depths : Own K mg "plain_depths" s_plain_depths f_plain_depths fd_plain_depths ["row"]) (O_plain_misses : Own K mg "plain_misses" s_plain_misses f_plain_misses fd_plain_misses ["row", "places"]) (O_l_till : Own K mg "_law_till" s_l_till f_l_till fd_l_till ["_law_script", "_law_k"]) (O_l_row : Own K mg "_law_row" s_l_row f_l_row fd_l_row ["_law_till_here", "_law_most", "_law_wide"]) (O_l_right : Own K mg "_law_right" s_l_right f_l_right fd_l_right ["_law_till_here", "_law_row_here", "_law_asks"]) (O_l_anew_right : Own K mg "_law_anew_right" s_l_anew_right f_l_anew_right fd_l_anew_right ["_law_till_here", "_law_asks"]) (O_law : Own K mg "law" s_law f_law fd_law ["_law_script"]) : FnA Clean P w K mg base CX0 30 f_law fd_law ["_law_script"] (spLaw K) := by
  refine FunA.ok O_law.F sc_law (fun vs H Q E h => by obtain ⟨a, ns, rfl, _⟩ := h; rfl) (fun cdv A outer s H vs Q E hg0 hr h => ?_)
  obtain ⟨a, ns, rfl, hS, hl, q⟩ := h
  have hg : (A.deeper (envOfC "law" (defScope s_law) s.heap.objs.size f_law cdv)).guards = some [] := hg0
  have hu : (A.deeper (envOfC "law" (defScope s_law) s.heap.objs.size f_law cdv)).units + 200 < cLine := by have := hr.un; omega
  have hu1 : (A.deeper (envOfC "law" (defScope s_law) s.heap.objs.size f_law cdv)).units < cLine := by omega
  have hn : ∃ o, K.lookup sysModules = some o := T.sys
  refine ⟨_, (pss_cons (ps_for PassesOwn.never rfl (pi_range1 (by rfl) T.n_range (pa_cons (pe_callB (call_max2 rfl) (by rfl) T.n_max (by decide +kernel) (pa_cons pe_int (pa_cons (pe_callB (call_min2 rfl) (by rfl) T.n_min (by decide +kernel) (pa_cons pe_int (pa_cons (pe_callB (k_len_seq (K := K) rfl) (by rfl) T.n_len (by decide +kernel) (pa_cons (pv 0) pa_nil)) pa_nil))) pa_nil))) pa_nil)) (pg_name (i := 1) sc_law.nd rfl (Or.inl rfl))
    (pss_cons (ps_set (i := 2) sc_law.nd rfl (Or.inl rfl) (pe_call G_l_till (hr.mono (by omega)) rfl O_l_till.m O_l_till.F.kp O_l_till.b .nil pass0 (pa_cons (pv 0) (pa_cons (pv 1) pa_nil))))
    (pss_one (ps_for PassesOwn.never rfl (k_list (K := K) rfl (pe_op op_cat (pe_lst (pa_cons (pe_tup (pa_cons pe_int (pa_cons pe_int pa_nil))) (pa_cons (pe_tup (pa_cons pe_int (pa_cons pe_int pa_nil))) pa_nil))) (pe_op op_rep (pe_lst (pa_cons (pe_tup (pa_cons pe_int (pa_cons pe_int pa_nil))) (pa_cons (pe_tup (pa_cons pe_int (pa_cons pe_int pa_nil))) pa_nil))) (pe_callTy call_int1 (by rfl) T.n_int (by decide +kernel) (pa_cons (pe_cmpR op_eq (pv 1) pe_int (nomark _)) pa_nil))))) (pg_tup rfl (pgs_cons (pg_name (i := 3) sc_law.nd rfl (Or.inl rfl)) (pgs_cons (pg_name (i := 4) sc_law.nd rfl (Or.inl rfl)) pgs_nil)))
    (pss_cons (ps_asg (pe_call G_l_row (hr.mono (by omega)) rfl O_l_row.m O_l_row.F.kp O_l_row.b .nil pass0 (pa_cons (pv 2) (pa_cons (pv 3) (pa_cons (pv 4) pa_nil)))) (pg_lst rfl (pgs_cons (pg_name (i := 5) sc_law.nd rfl (Or.inl rfl)) (pgs_cons (pg_name (i := 6) sc_law.nd rfl (Or.inl rfl)) pgs_nil))))
    (pss_cons (ps_set (i := 7) sc_law.nd rfl (Or.inl rfl) (pe_callB (call_repr hg hu hn) (by rfl) T.n_repr (by decide +kernel) (pa_cons (pv 5) pa_nil)))
    (pss_one (ps_if (PW.pt (pw_or (pt_not (pt_val (pe_callA hg G_l_right (hr.mono (by omega)) rfl O_l_right.m O_l_right.F.kp O_l_right.b .nil pass0 (pa_cons (pv 2) (pa_cons (pv 5) (pa_cons (pv 6) pa_nil)))))) (pw_or (pt_cmpR op_ne (pe_callB (call_repr hg hu hn) (by rfl) T.n_repr (by decide +kernel) (pa_cons (pv 5) pa_nil)) (pv 7) (nomark _)) (pw_or1 (pt_not (pt_val (pe_call G_l_anew_right (hr.mono (by omega)) rfl O_l_anew_right.m O_l_anew_right.F.kp O_l_anew_right.b .nil pass0 (pa_cons (pv 2) (pa_cons (pe_slice (k_sl_list (K := K) rfl) (pv 6) po_none (po_some pe_int)) pa_nil)))))))))
    (pss_one (ps_ret pe_bl))
    pss_nil))))))))
    (pss_one (ps_ret (pe_and (pe_cmpR (k_eqNil (K := K) rfl hu1) (pe_call G_plain_depths (hr.mono (by omega)) rfl O_plain_depths.m O_plain_depths.F.kp O_plain_depths.b .nil pass0 (pa_cons (pe_tup pa_nil) pa_nil)) (pe_lst pa_nil) (nomark _)) (pe_one (pe_cmpR (k_eqNil (K := K) rfl hu1) (pe_call G_plain_misses (hr.mono (by omega)) rfl O_plain_misses.m O_plain_misses.F.kp O_plain_misses.b .nil pass0 (pa_cons (pe_lst pa_nil) (pa_cons pe_int pa_nil))) (pe_lst pa_nil) (nomark _))))))), ?_⟩
  refine ⟨_, rfl, a, _, rfl, .inl hS, _, _, rfl, _, _, rfl, _, rfl, ?_⟩
  obtain ⟨M, hM, M0, M6⟩ : ∃ M : Int, (if (if ((ns.map V.int).length : Int) < 6 then ((ns.map V.int).length : Int) else 6) > 1 then (if ((ns.map V.int).length : Int) < 6 then ((ns.map V.int).length : Int) else 6) else 1) = M ∧ 0 ≤ M ∧ M ≤ 6 := by
    refine ⟨_, rfl, ?_, ?_⟩ <;> (repeat' split) <;> omega
  rw [hM]
  refine ⟨by omega, by omega, for_range (lo := 0) (n := M.toNat) (fun i σ H' => ∃ (s1 s2 s3 s4 s5 s6 s7 : Option V), σ = [some (.ref a), s1, s2, s3, s4, s5, s6, s7] ∧ Same H H') ⟨_, _, _, _, _, _, _, rfl, Same.refl _⟩ ?_ ?_⟩
  · rintro i σ H1 hi ⟨s1, s2, s3, s4, s5, s6, s7, rfl, e1⟩
    have i20 : i < 20 := by omega
    refine ⟨_, rfl, _, rfl, a, ns, i, (by show [V.ref a, V.int (0 + (i : Int))] = _; rw [Int.zero_add]), sqS e1 hS, hl, i20, fun t H2 e2 t0 hP => ?_⟩
    have tH : H t = none := e1.free t0
    -- the four pairs
    refine ⟨(by show 2 ≤ sizeLine; decide), fun p1 hp1 => ?_⟩
    have q1 := upd_same (H := H2) (a := p1) (o := .tup [V.int 8, V.int 8])
    have u1 := same_new hp1 (.tup [V.int 8, V.int 8])
    generalize upd H2 p1 (.tup [V.int 8, V.int 8]) = G1 at q1 u1 ⊢
    refine ⟨(by show 2 ≤ sizeLine; decide), fun p2 hp2 => ?_⟩
    have q2 := upd_same (H := G1) (a := p2) (o := .tup [V.int 40, V.int 40])
    have u2 := same_new hp2 (.tup [V.int 40, V.int 40])
    generalize upd G1 p2 (.tup [V.int 40, V.int 40]) = G2 at q2 u2 ⊢
    refine ⟨(by show 2 ≤ sizeLine; decide), fun l1 hl1 => ?_⟩
    have q3 := upd_same (H := G2) (a := l1) (o := .lst [V.ref p1, V.ref p2])
    have u3 := same_new hl1 (.lst [V.ref p1, V.ref p2])
    generalize upd G2 l1 (.lst [V.ref p1, V.ref p2]) = G3 at q3 u3 ⊢
    refine ⟨(by show 2 ≤ sizeLine; decide), fun p3 hp3 => ?_⟩
    have q4 := upd_same (H := G3) (a := p3) (o := .tup [V.int 120, V.int 60])
    have u4 := same_new hp3 (.tup [V.int 120, V.int 60])
    generalize upd G3 p3 (.tup [V.int 120, V.int 60]) = G4 at q4 u4 ⊢
    refine ⟨(by show 2 ≤ sizeLine; decide), fun p4 hp4 => ?_⟩
    have q5 := upd_same (H := G4) (a := p4) (o := .tup [V.int 400, V.int 60])
    have u5 := same_new hp4 (.tup [V.int 400, V.int 60])
    generalize upd G4 p4 (.tup [V.int 400, V.int 60]) = G5 at q5 u5 ⊢
    refine ⟨(by show 2 ≤ sizeLine; decide), fun l2 hl2 => ?_⟩
    have q6 := upd_same (H := G5) (a := l2) (o := .lst [V.ref p3, V.ref p4])
    have u6 := same_new hl2 (.lst [V.ref p3, V.ref p4])
    generalize upd G5 l2 (.lst [V.ref p3, V.ref p4]) = G6 at q6 u6 ⊢
    obtain ⟨kk, hkk, k0, k1⟩ : ∃ kk : Int, (if decide (V.int (0 + (i : Int)) = V.int 0) = true then (1 : Int) else 0) = kk ∧ 0 ≤ kk ∧ kk ≤ 1 := by
      refine ⟨_, rfl, ?_, ?_⟩ <;> split <;> decide
    refine ⟨_, rfl, rfl, .inr ⟨_, rfl, l2, kk, _, rfl, (by show V.int (if decide (V.int (0 + (i : Int)) = V.int 0) = true then (1 : Int) else 0) = _; rw [hkk]), q6, by omega, by omega, ?_, fun l3 hl3 => ?_⟩⟩
    · exact Nat.le_trans (show 2 * kk.toNat ≤ 2 by omega) (by decide)
    have q7 := upd_same (H := G6) (a := l3) (o := .lst (List.replicate kk.toNat [V.ref p3, V.ref p4]).flatten)
    have u7 := same_new hl3 (.lst (List.replicate kk.toNat [V.ref p3, V.ref p4]).flatten)
    generalize upd G6 l3 (.lst (List.replicate kk.toNat [V.ref p3, V.ref p4]).flatten) = G7 at q7 u7 ⊢
    have fl : (List.replicate kk.toNat [V.ref p3, V.ref p4]).flatten.length ≤ 2 := by simp; omega
    have u37 := ((u4.trans u5).trans u6).trans u7
    refine ⟨l1, l3, _, _, rfl, rfl, u37 _ _ q3, q7, ?_, fun l4 hl4 => ?_⟩
    · exact Nat.le_trans (show 2 + _ ≤ 4 by omega) (by decide)
    have q8 := upd_same (H := G7) (a := l4) (o := .lst ([V.ref p1, V.ref p2] ++ (List.replicate kk.toNat [V.ref p3, V.ref p4]).flatten))
    have u8 := same_new hl4 (.lst ([V.ref p1, V.ref p2] ++ (List.replicate kk.toNat [V.ref p3, V.ref p4]).flatten))
    generalize upd G7 l4 (.lst ([V.ref p1, V.ref p2] ++ (List.replicate kk.toNat [V.ref p3, V.ref p4]).flatten)) = G8 at q8 u8 ⊢
    have e3 : Same H2 G8 := (((u1.trans u2).trans u3).trans u37).trans u8
    have items : ∀ v ∈ [V.ref p1, V.ref p2] ++ (List.replicate kk.toNat [V.ref p3, V.ref p4]).flatten, Itm G8 v := by
      intro v hv
      rcases List.mem_append.mp hv with hv | hv
      · simp only [List.mem_cons, List.not_mem_nil, or_false] at hv
        rcases hv with rfl | rfl
        · exact ⟨p1, 8, 8, rfl, u8 _ _ (u37 _ _ (u3 _ _ (u2 _ _ q1))), by decide, by decide, by decide, by decide⟩
        · exact ⟨p2, 40, 40, rfl, u8 _ _ (u37 _ _ (u3 _ _ q2)), by decide, by decide, by decide, by decide⟩
      · obtain ⟨xs, hxs, hv⟩ := List.mem_flatten.mp hv
        obtain ⟨_, rfl⟩ := List.mem_replicate.mp hxs
        simp only [List.mem_cons, List.not_mem_nil, or_false] at hv
        rcases hv with rfl | rfl
        · exact ⟨p3, 120, 60, rfl, u8 _ _ (u7 _ _ (u6 _ _ (u5 _ _ q4))), by decide, by decide, by decide, by decide⟩
        · exact ⟨p4, 400, 60, rfl, u8 _ _ (u7 _ _ (u6 _ _ q5)), by decide, by decide, by decide, by decide⟩
    have xl : ([V.ref p1, V.ref p2] ++ (List.replicate kk.toNat [V.ref p3, V.ref p4]).flatten).length ≤ 4 := by rw [List.length_append]; show 2 + _ ≤ 4; omega
    generalize [V.ref p1, V.ref p2] ++ (List.replicate kk.toNat [V.ref p3, V.ref p4]).flatten = xs at q8 items xl
    have hP8 := hP.same e3
    have l4t : l4 ≠ t := fun z => by
      obtain ⟨_, _, _, g, _⟩ := hP
      have := ((((u1.trans u2).trans u3).trans u37)) _ _ g
      rw [z, this] at hl4; cases hl4
    have e12 := e1.trans e2
    refine ⟨l4, rfl, ⟨_, SqL.of q8⟩, for_list (K := K) (a := l4) (xs := xs) (fun j σ H' => ∃ (s3 s4 s5 s6 s7 : Option V), σ = [some (.ref a), some (.int (0 + (i : Int))), some (.ref t), s3, s4, s5, s6, s7] ∧ Oth t G8 H' ∧ Pot H' t (6000 * j)) ⟨_, _, _, _, _, rfl, Oth.refl _ _, hP8⟩ (fun j σ H' _ z => by obtain ⟨_, _, _, _, _, _, o, _⟩ := z; exact SqL.of (o _ _ l4t q8)) ?_ ?_⟩
    · rintro j v σ H3 hj ⟨s3, s4, s5, s6, s7, rfl, o3, d3⟩
      have jl := (List.getElem?_eq_some_iff.mp hj).1
      obtain ⟨p, mo, wi, rfl, hp, m1, m2, w1, w2⟩ := items v (List.mem_of_getElem? hj)
      have pt : p ≠ t := fun z => by
        obtain ⟨_, _, _, g, _⟩ := hP8
        rw [z, g] at hp; cases hp
      refine ⟨p, _, rfl, SqT.of (o3 _ _ pt hp), rfl, _, _, rfl, _, _, rfl, rfl, ?_⟩
      refine ⟨_, rfl, _, rfl, _, rfl, t, 6000 * j, mo, wi, rfl, d3, by omega, m1, m2, w1, w2, fun p5 a5 rv H4 asks d o4 p50 hp5 a50 ha5 hok hlen hrd r5 d4 => ?_⟩
      refine ⟨p5, _, rfl, SqL.of hp5, rfl, _, _, rfl, _, _, rfl, rfl, ?_⟩
      have a5t : a5 ≠ t := d3.ne a50
      have showd := okD_showable d r5.2.2.1
      have fitd := shown_fits r5.2.2.1 (by have := r5.2.2.2.2; omega)
      have dep : d.depth ≤ 100 := by have := r5.2.2.2.1; omega
      refine ⟨_, rfl, rv, d, rfl, hrd.mono hid_same, showd, dep, fitd, ?_⟩
      refine ⟨_, rfl, _, rfl, _, rfl, t, a5, _, rv, d, asks, rfl, d4, by omega, hrd, r5, a5t, ha5, hlen, fun H5 o5 d5 => ⟨_, rfl, iteF ?_⟩⟩
      have ha6 := o5 _ _ a5t ha5
      refine ⟨_, rfl, rv, d, rfl, (hrd.mono o5.hid).mono hid_same, showd, dep, fitd, _, rfl, rfl, _, rfl, ?_⟩
      refine ite2 (fun z => absurd z (by simp)) (fun _ => ?_)
      refine ⟨_, rfl, _, rfl, _, rfl, a5, _, rfl, SqL.of ha6, fun e he => ?_⟩
      have he7 := upd_same (H := H5) (a := e) (o := .lst (cutV (asks.map V.str) none (some 20)))
      rw [show cutV (asks.map V.str) none (some 20) = (asks.take 20).map V.str from cut_to asks 20] at he7 ⊢
      have et : e ≠ t := d5.ne he
      refine ⟨t, e, _, asks.take 20, rfl, d5.upd et, by omega, he7, ?_, by rw [List.length_take]; omega, fun H6 o6 d6 => ⟨_, rfl, iteF ?_⟩⟩
      · rw [List.all_eq_true]
        exact fun y hy => List.all_eq_true.mp hok y (List.mem_of_mem_take hy)
      have oA := (o3.trans o4).trans o5
      exact ⟨_, _, _, _, _, rfl, (oA.updn (oA.free d5.at he) _).trans o6, d6.mono (by omega)⟩
    · rintro σ H3 ⟨s3, s4, s5, s6, s7, rfl, o3, d3⟩
      refine ⟨_, _, _, _, _, _, _, rfl, fun b u z => ?_⟩
      have bt : b ≠ t := fun y => by rw [y, tH] at z; cases z
      exact o3 b u bt (e3 _ _ (e12 _ _ z))
  · rintro σ H1 ⟨s1, s2, s3, s4, s5, s6, s7, rfl, e1⟩
    refine ⟨Nat.zero_le _, fun p1 hp1 => ⟨_, .tuple [], rfl, .tup upd_same .nil, rfl, by decide, by decide, rfl, by decide, fun H3 t1 s3 t10 ht1 => ⟨Nat.zero_le _, fun l1 hl1 => ?_⟩⟩⟩
    have ht1 : H3 t1 = some (.lst []) := ht1
    have z1 := same_new hl1 (.lst [])
    refine ⟨t1, l1, [], rfl, rfl, SqL.of (z1 _ _ ht1), upd_same, _, rfl, iteT ?_⟩
    refine ⟨Nat.zero_le _, fun p2 hp2 => ⟨_, .list [], 1, rfl, .lst upd_same .nil, rfl, by decide, by decide, rfl, by decide, by decide, fun H4 t2 s4 t20 ht2 => ⟨Nat.zero_le _, fun l2 hl2 => ?_⟩⟩⟩
    have ht2 : H4 t2 = some (.lst []) := ht2
    have z2 := same_new hl2 (.lst [])
    exact ⟨t2, l2, [], rfl, rfl, SqL.of (z2 _ _ ht2), upd_same, q _⟩
end
end K28

set_option Elab.async false
set_option linter.all false
set_option maxRecDepth 100000
set_option maxHeartbeats 4000000
namespace K28
open PySem PySem.Spec L2 MC
open PyProof.Rows hiding St
theorem all_mk {l : PySem.W.OpenLaw} {w : World} {K : PySem.W.Frag} {h : Heap} {mg : Str → Option Value} {fa : Addr} (X : K.In h) (G : h.Ns mainGlobals mg) (hfa : mg "law" = some (.ref fa))
    {f_is_whole : Addr} {f_are_things : Addr} {f_are_small : Addr} {f_is_row : Addr} {f_looks_again : Addr} {f_near : Addr} {f_check_row : Addr} {f_check_near : Addr} {f_count_asks : Addr} {f_laid_out : Addr} {f_is_missed : Addr} {f_check_places : Addr} {f_plain_depths : Addr} {f_plain_misses : Addr} {f_plain : Addr} {f_l_till : Addr} {f_l_coin : Addr} {f_l_names : Addr} {f_l_some : Addr} {f_l_row : Addr} {f_l_plain : Addr} {f_l_deep : Addr} {f_l_right : Addr} {f_l_anew_right : Addr} {f_law : Addr} {od_is_whole an_is_whole : Option Addr} {od_are_things an_are_things : Option Addr} {od_are_small an_are_small : Option Addr} {od_is_row an_is_row : Option Addr} {od_looks_again an_looks_again : Option Addr} {od_near an_near : Option Addr} {od_check_row an_check_row : Option Addr} {od_check_near an_check_near : Option Addr} {od_count_asks an_count_asks : Option Addr} {od_laid_out an_laid_out : Option Addr} {od_is_missed an_is_missed : Option Addr} {od_check_places an_check_places : Option Addr} {od_plain_depths an_plain_depths : Option Addr} {od_plain_misses an_plain_misses : Option Addr} {od_plain an_plain : Option Addr} {od_l_till an_l_till : Option Addr} {od_l_coin an_l_coin : Option Addr} {od_l_names an_l_names : Option Addr} {od_l_some an_l_some : Option Addr} {od_l_row an_l_row : Option Addr} {od_l_plain an_l_plain : Option Addr} {od_l_deep an_l_deep : Option Addr} {od_l_right an_l_right : Option Addr} {od_l_anew_right an_l_anew_right : Option Addr} {od_law an_law : Option Addr} {sl_is_whole : Array (Option Value)} {sl_are_things : Array (Option Value)} {sl_are_small : Array (Option Value)} {sl_is_row : Array (Option Value)} {sl_looks_again : Array (Option Value)} {sl_near : Array (Option Value)} {sl_check_row : Array (Option Value)} {sl_check_near : Array (Option Value)} {sl_count_asks : Array (Option Value)} {sl_laid_out : Array (Option Value)} {sl_is_missed : Array (Option Value)} {sl_check_places : Array (Option Value)} {sl_plain_depths : Array (Option Value)} {sl_plain_misses : Array (Option Value)} {sl_plain : Array (Option Value)} {sl_l_till : Array (Option Value)} {sl_l_coin : Array (Option Value)} {sl_l_names : Array (Option Value)} {sl_l_some : Array (Option Value)} {sl_l_row : Array (Option Value)} {sl_l_plain : Array (Option Value)} {sl_l_deep : Array (Option Value)} {sl_l_right : Array (Option Value)} {sl_l_anew_right : Array (Option Value)} {sl_law : Array (Option Value)} {oc_is_whole kV_is_whole dc_is_whole pm_is_whole cd_is_whole ct_is_whole : Value} {oc_are_things kV_are_things dc_are_things pm_are_things cd_are_things ct_are_things : Value} {oc_are_small kV_are_small dc_are_small pm_are_small cd_are_small ct_are_small : Value} {oc_is_row kV_is_row dc_is_row pm_is_row cd_is_row ct_is_row : Value} {oc_looks_again kV_looks_again dc_looks_again pm_looks_again cd_looks_again ct_looks_again : Value} {oc_near kV_near dc_near pm_near cd_near ct_near : Value} {oc_check_row kV_check_row dc_check_row pm_check_row cd_check_row ct_check_row : Value} {oc_check_near kV_check_near dc_check_near pm_check_near cd_check_near ct_check_near : Value} {oc_count_asks kV_count_asks dc_count_asks pm_count_asks cd_count_asks ct_count_asks : Value} {oc_laid_out kV_laid_out dc_laid_out pm_laid_out cd_laid_out ct_laid_out : Value} {oc_is_missed kV_is_missed dc_is_missed pm_is_missed cd_is_missed ct_is_missed : Value} {oc_check_places kV_check_places dc_check_places pm_check_places cd_check_places ct_check_places : Value} {oc_plain_depths kV_plain_depths dc_plain_depths pm_plain_depths cd_plain_depths ct_plain_depths : Value} {oc_plain_misses kV_plain_misses dc_plain_misses pm_plain_misses cd_plain_misses ct_plain_misses : Value} {oc_plain kV_plain dc_plain pm_plain cd_plain ct_plain : Value} {oc_l_till kV_l_till dc_l_till pm_l_till cd_l_till ct_l_till : Value} {oc_l_coin kV_l_coin dc_l_coin pm_l_coin cd_l_coin ct_l_coin : Value} {oc_l_names kV_l_names dc_l_names pm_l_names cd_l_names ct_l_names : Value} {oc_l_some kV_l_some dc_l_some pm_l_some cd_l_some ct_l_some : Value} {oc_l_row kV_l_row dc_l_row pm_l_row cd_l_row ct_l_row : Value} {oc_l_plain kV_l_plain dc_l_plain pm_l_plain cd_l_plain ct_l_plain : Value} {oc_l_deep kV_l_deep dc_l_deep pm_l_deep cd_l_deep ct_l_deep : Value} {oc_l_right kV_l_right dc_l_right pm_l_right cd_l_right ct_l_right : Value} {oc_l_anew_right kV_l_anew_right dc_l_anew_right pm_l_anew_right cd_l_anew_right ct_l_anew_right : Value} {oc_law kV_law dc_law pm_law cd_law ct_law : Value} {t_LONGEST_THING : Nat} {t_MOST_TIMES : Nat} {t_DEEPEST_ROW : Nat} {t_MOST_NEAR : Nat} {osys : Obj}
    (a_is_whole : PySem.W.nsIn K mainGlobals "is_whole" = some (some (.ref f_is_whole))) (l_is_whole : K.lookup f_is_whole = some ⟨oc_is_whole, od_is_whole, .func (PySem.W.fnOf "is_whole" "is_whole" (defArgs s_is_whole) (defBody s_is_whole) (defScope s_is_whole) .none kV_is_whole dc_is_whole pm_is_whole an_is_whole cd_is_whole ct_is_whole), sl_is_whole⟩) (w_is_whole : PySem.W.codeIn K cd_is_whole "is_whole" = true) (k_is_whole : PySem.W.keepIn K (.ref f_is_whole) = true)
    (a_are_things : PySem.W.nsIn K mainGlobals "are_things" = some (some (.ref f_are_things))) (l_are_things : K.lookup f_are_things = some ⟨oc_are_things, od_are_things, .func (PySem.W.fnOf "are_things" "are_things" (defArgs s_are_things) (defBody s_are_things) (defScope s_are_things) .none kV_are_things dc_are_things pm_are_things an_are_things cd_are_things ct_are_things), sl_are_things⟩) (w_are_things : PySem.W.codeIn K cd_are_things "are_things" = true) (k_are_things : PySem.W.keepIn K (.ref f_are_things) = true)
    (a_are_small : PySem.W.nsIn K mainGlobals "are_small" = some (some (.ref f_are_small))) (l_are_small : K.lookup f_are_small = some ⟨oc_are_small, od_are_small, .func (PySem.W.fnOf "are_small" "are_small" (defArgs s_are_small) (defBody s_are_small) (defScope s_are_small) .none kV_are_small dc_are_small pm_are_small an_are_small cd_are_small ct_are_small), sl_are_small⟩) (w_are_small : PySem.W.codeIn K cd_are_small "are_small" = true) (k_are_small : PySem.W.keepIn K (.ref f_are_small) = true)
    (a_is_row : PySem.W.nsIn K mainGlobals "is_row" = some (some (.ref f_is_row))) (l_is_row : K.lookup f_is_row = some ⟨oc_is_row, od_is_row, .func (PySem.W.fnOf "is_row" "is_row" (defArgs s_is_row) (defBody s_is_row) (defScope s_is_row) .none kV_is_row dc_is_row pm_is_row an_is_row cd_is_row ct_is_row), sl_is_row⟩) (w_is_row : PySem.W.codeIn K cd_is_row "is_row" = true) (k_is_row : PySem.W.keepIn K (.ref f_is_row) = true)
    (a_looks_again : PySem.W.nsIn K mainGlobals "_looks_again" = some (some (.ref f_looks_again))) (l_looks_again : K.lookup f_looks_again = some ⟨oc_looks_again, od_looks_again, .func (PySem.W.fnOf "_looks_again" "_looks_again" (defArgs s_looks_again) (defBody s_looks_again) (defScope s_looks_again) .none kV_looks_again dc_looks_again pm_looks_again an_looks_again cd_looks_again ct_looks_again), sl_looks_again⟩) (w_looks_again : PySem.W.codeIn K cd_looks_again "_looks_again" = true) (k_looks_again : PySem.W.keepIn K (.ref f_looks_again) = true)
    (a_near : PySem.W.nsIn K mainGlobals "near" = some (some (.ref f_near))) (l_near : K.lookup f_near = some ⟨oc_near, od_near, .func (PySem.W.fnOf "near" "near" (defArgs s_near) (defBody s_near) (defScope s_near) .none kV_near dc_near pm_near an_near cd_near ct_near), sl_near⟩) (w_near : PySem.W.codeIn K cd_near "near" = true) (k_near : PySem.W.keepIn K (.ref f_near) = true)
    (a_check_row : PySem.W.nsIn K mainGlobals "check_row" = some (some (.ref f_check_row))) (l_check_row : K.lookup f_check_row = some ⟨oc_check_row, od_check_row, .func (PySem.W.fnOf "check_row" "check_row" (defArgs s_check_row) (defBody s_check_row) (defScope s_check_row) .none kV_check_row dc_check_row pm_check_row an_check_row cd_check_row ct_check_row), sl_check_row⟩) (w_check_row : PySem.W.codeIn K cd_check_row "check_row" = true) (k_check_row : PySem.W.keepIn K (.ref f_check_row) = true)
    (a_check_near : PySem.W.nsIn K mainGlobals "check_near" = some (some (.ref f_check_near))) (l_check_near : K.lookup f_check_near = some ⟨oc_check_near, od_check_near, .func (PySem.W.fnOf "check_near" "check_near" (defArgs s_check_near) (defBody s_check_near) (defScope s_check_near) .none kV_check_near dc_check_near pm_check_near an_check_near cd_check_near ct_check_near), sl_check_near⟩) (w_check_near : PySem.W.codeIn K cd_check_near "check_near" = true) (k_check_near : PySem.W.keepIn K (.ref f_check_near) = true)
    (a_count_asks : PySem.W.nsIn K mainGlobals "count_asks" = some (some (.ref f_count_asks))) (l_count_asks : K.lookup f_count_asks = some ⟨oc_count_asks, od_count_asks, .func (PySem.W.fnOf "count_asks" "count_asks" (defArgs s_count_asks) (defBody s_count_asks) (defScope s_count_asks) .none kV_count_asks dc_count_asks pm_count_asks an_count_asks cd_count_asks ct_count_asks), sl_count_asks⟩) (w_count_asks : PySem.W.codeIn K cd_count_asks "count_asks" = true) (k_count_asks : PySem.W.keepIn K (.ref f_count_asks) = true)
    (a_laid_out : PySem.W.nsIn K mainGlobals "laid_out" = some (some (.ref f_laid_out))) (l_laid_out : K.lookup f_laid_out = some ⟨oc_laid_out, od_laid_out, .func (PySem.W.fnOf "laid_out" "laid_out" (defArgs s_laid_out) (defBody s_laid_out) (defScope s_laid_out) .none kV_laid_out dc_laid_out pm_laid_out an_laid_out cd_laid_out ct_laid_out), sl_laid_out⟩) (w_laid_out : PySem.W.codeIn K cd_laid_out "laid_out" = true) (k_laid_out : PySem.W.keepIn K (.ref f_laid_out) = true)
    (a_is_missed : PySem.W.nsIn K mainGlobals "is_missed" = some (some (.ref f_is_missed))) (l_is_missed : K.lookup f_is_missed = some ⟨oc_is_missed, od_is_missed, .func (PySem.W.fnOf "is_missed" "is_missed" (defArgs s_is_missed) (defBody s_is_missed) (defScope s_is_missed) .none kV_is_missed dc_is_missed pm_is_missed an_is_missed cd_is_missed ct_is_missed), sl_is_missed⟩) (w_is_missed : PySem.W.codeIn K cd_is_missed "is_missed" = true) (k_is_missed : PySem.W.keepIn K (.ref f_is_missed) = true)
    (a_check_places : PySem.W.nsIn K mainGlobals "check_places" = some (some (.ref f_check_places))) (l_check_places : K.lookup f_check_places = some ⟨oc_check_places, od_check_places, .func (PySem.W.fnOf "check_places" "check_places" (defArgs s_check_places) (defBody s_check_places) (defScope s_check_places) .none kV_check_places dc_check_places pm_check_places an_check_places cd_check_places ct_check_places), sl_check_places⟩) (w_check_places : PySem.W.codeIn K cd_check_places "check_places" = true) (k_check_places : PySem.W.keepIn K (.ref f_check_places) = true)
    (a_plain_depths : PySem.W.nsIn K mainGlobals "plain_depths" = some (some (.ref f_plain_depths))) (l_plain_depths : K.lookup f_plain_depths = some ⟨oc_plain_depths, od_plain_depths, .func (PySem.W.fnOf "plain_depths" "plain_depths" (defArgs s_plain_depths) (defBody s_plain_depths) (defScope s_plain_depths) .none kV_plain_depths dc_plain_depths pm_plain_depths an_plain_depths cd_plain_depths ct_plain_depths), sl_plain_depths⟩) (w_plain_depths : PySem.W.codeIn K cd_plain_depths "plain_depths" = true) (k_plain_depths : PySem.W.keepIn K (.ref f_plain_depths) = true)
    (a_plain_misses : PySem.W.nsIn K mainGlobals "plain_misses" = some (some (.ref f_plain_misses))) (l_plain_misses : K.lookup f_plain_misses = some ⟨oc_plain_misses, od_plain_misses, .func (PySem.W.fnOf "plain_misses" "plain_misses" (defArgs s_plain_misses) (defBody s_plain_misses) (defScope s_plain_misses) .none kV_plain_misses dc_plain_misses pm_plain_misses an_plain_misses cd_plain_misses ct_plain_misses), sl_plain_misses⟩) (w_plain_misses : PySem.W.codeIn K cd_plain_misses "plain_misses" = true) (k_plain_misses : PySem.W.keepIn K (.ref f_plain_misses) = true)
    (a_plain : PySem.W.nsIn K mainGlobals "_plain" = some (some (.ref f_plain))) (l_plain : K.lookup f_plain = some ⟨oc_plain, od_plain, .func (PySem.W.fnOf "_plain" "_plain" (defArgs s_plain) (defBody s_plain) (defScope s_plain) .none kV_plain dc_plain pm_plain an_plain cd_plain ct_plain), sl_plain⟩) (w_plain : PySem.W.codeIn K cd_plain "_plain" = true) (k_plain : PySem.W.keepIn K (.ref f_plain) = true)
    (a_l_till : PySem.W.nsIn K mainGlobals "_law_till" = some (some (.ref f_l_till))) (l_l_till : K.lookup f_l_till = some ⟨oc_l_till, od_l_till, .func (PySem.W.fnOf "_law_till" "_law_till" (defArgs s_l_till) (defBody s_l_till) (defScope s_l_till) .none kV_l_till dc_l_till pm_l_till an_l_till cd_l_till ct_l_till), sl_l_till⟩) (w_l_till : PySem.W.codeIn K cd_l_till "_law_till" = true) (k_l_till : PySem.W.keepIn K (.ref f_l_till) = true)
    (a_l_coin : PySem.W.nsIn K mainGlobals "_law_coin" = some (some (.ref f_l_coin))) (l_l_coin : K.lookup f_l_coin = some ⟨oc_l_coin, od_l_coin, .func (PySem.W.fnOf "_law_coin" "_law_coin" (defArgs s_l_coin) (defBody s_l_coin) (defScope s_l_coin) .none kV_l_coin dc_l_coin pm_l_coin an_l_coin cd_l_coin ct_l_coin), sl_l_coin⟩) (w_l_coin : PySem.W.codeIn K cd_l_coin "_law_coin" = true) (k_l_coin : PySem.W.keepIn K (.ref f_l_coin) = true)
    (a_l_names : PySem.W.nsIn K mainGlobals "_law_names" = some (some (.ref f_l_names))) (l_l_names : K.lookup f_l_names = some ⟨oc_l_names, od_l_names, .func (PySem.W.fnOf "_law_names" "_law_names" (defArgs s_l_names) (defBody s_l_names) (defScope s_l_names) .none kV_l_names dc_l_names pm_l_names an_l_names cd_l_names ct_l_names), sl_l_names⟩) (w_l_names : PySem.W.codeIn K cd_l_names "_law_names" = true) (k_l_names : PySem.W.keepIn K (.ref f_l_names) = true)
    (a_l_some : PySem.W.nsIn K mainGlobals "_law_some" = some (some (.ref f_l_some))) (l_l_some : K.lookup f_l_some = some ⟨oc_l_some, od_l_some, .func (PySem.W.fnOf "_law_some" "_law_some" (defArgs s_l_some) (defBody s_l_some) (defScope s_l_some) .none kV_l_some dc_l_some pm_l_some an_l_some cd_l_some ct_l_some), sl_l_some⟩) (w_l_some : PySem.W.codeIn K cd_l_some "_law_some" = true) (k_l_some : PySem.W.keepIn K (.ref f_l_some) = true)
    (a_l_row : PySem.W.nsIn K mainGlobals "_law_row" = some (some (.ref f_l_row))) (l_l_row : K.lookup f_l_row = some ⟨oc_l_row, od_l_row, .func (PySem.W.fnOf "_law_row" "_law_row" (defArgs s_l_row) (defBody s_l_row) (defScope s_l_row) .none kV_l_row dc_l_row pm_l_row an_l_row cd_l_row ct_l_row), sl_l_row⟩) (w_l_row : PySem.W.codeIn K cd_l_row "_law_row" = true) (k_l_row : PySem.W.keepIn K (.ref f_l_row) = true)
    (a_l_plain : PySem.W.nsIn K mainGlobals "_law_plain" = some (some (.ref f_l_plain))) (l_l_plain : K.lookup f_l_plain = some ⟨oc_l_plain, od_l_plain, .func (PySem.W.fnOf "_law_plain" "_law_plain" (defArgs s_l_plain) (defBody s_l_plain) (defScope s_l_plain) .none kV_l_plain dc_l_plain pm_l_plain an_l_plain cd_l_plain ct_l_plain), sl_l_plain⟩) (w_l_plain : PySem.W.codeIn K cd_l_plain "_law_plain" = true) (k_l_plain : PySem.W.keepIn K (.ref f_l_plain) = true)
    (a_l_deep : PySem.W.nsIn K mainGlobals "_law_deep" = some (some (.ref f_l_deep))) (l_l_deep : K.lookup f_l_deep = some ⟨oc_l_deep, od_l_deep, .func (PySem.W.fnOf "_law_deep" "_law_deep" (defArgs s_l_deep) (defBody s_l_deep) (defScope s_l_deep) .none kV_l_deep dc_l_deep pm_l_deep an_l_deep cd_l_deep ct_l_deep), sl_l_deep⟩) (w_l_deep : PySem.W.codeIn K cd_l_deep "_law_deep" = true) (k_l_deep : PySem.W.keepIn K (.ref f_l_deep) = true)
    (a_l_right : PySem.W.nsIn K mainGlobals "_law_right" = some (some (.ref f_l_right))) (l_l_right : K.lookup f_l_right = some ⟨oc_l_right, od_l_right, .func (PySem.W.fnOf "_law_right" "_law_right" (defArgs s_l_right) (defBody s_l_right) (defScope s_l_right) .none kV_l_right dc_l_right pm_l_right an_l_right cd_l_right ct_l_right), sl_l_right⟩) (w_l_right : PySem.W.codeIn K cd_l_right "_law_right" = true) (k_l_right : PySem.W.keepIn K (.ref f_l_right) = true)
    (a_l_anew_right : PySem.W.nsIn K mainGlobals "_law_anew_right" = some (some (.ref f_l_anew_right))) (l_l_anew_right : K.lookup f_l_anew_right = some ⟨oc_l_anew_right, od_l_anew_right, .func (PySem.W.fnOf "_law_anew_right" "_law_anew_right" (defArgs s_l_anew_right) (defBody s_l_anew_right) (defScope s_l_anew_right) .none kV_l_anew_right dc_l_anew_right pm_l_anew_right an_l_anew_right cd_l_anew_right ct_l_anew_right), sl_l_anew_right⟩) (w_l_anew_right : PySem.W.codeIn K cd_l_anew_right "_law_anew_right" = true) (k_l_anew_right : PySem.W.keepIn K (.ref f_l_anew_right) = true)
    (a_law : PySem.W.nsIn K mainGlobals "law" = some (some (.ref f_law))) (l_law : K.lookup f_law = some ⟨oc_law, od_law, .func (PySem.W.fnOf "law" "law" (defArgs s_law) (defBody s_law) (defScope s_law) .none kV_law dc_law pm_law an_law cd_law ct_law), sl_law⟩) (w_law : PySem.W.codeIn K cd_law "law" = true) (k_law : PySem.W.keepIn K (.ref f_law) = true)
    (z_isinstance : PySem.W.nsIn K mainGlobals "isinstance" = some none)
    (z_int : PySem.W.nsIn K mainGlobals "int" = some none)
    (z_bool : PySem.W.nsIn K mainGlobals "bool" = some none)
    (z_str : PySem.W.nsIn K mainGlobals "str" = some none)
    (z_list : PySem.W.nsIn K mainGlobals "list" = some none)
    (z_tuple : PySem.W.nsIn K mainGlobals "tuple" = some none)
    (z_len : PySem.W.nsIn K mainGlobals "len" = some none)
    (z_all : PySem.W.nsIn K mainGlobals "all" = some none)
    (z_range : PySem.W.nsIn K mainGlobals "range" = some none)
    (z_min : PySem.W.nsIn K mainGlobals "min" = some none)
    (z_repr : PySem.W.nsIn K mainGlobals "repr" = some none)
    (z_enumerate : PySem.W.nsIn K mainGlobals "enumerate" = some none)
    (z_sum : PySem.W.nsIn K mainGlobals "sum" = some none)
    (z_zip : PySem.W.nsIn K mainGlobals "zip" = some none)
    (z_max : PySem.W.nsIn K mainGlobals "max" = some none)
    (q_LONGEST_THING : PySem.W.nsIn K mainGlobals "LONGEST_THING" = some (some (.int 8 t_LONGEST_THING)))
    (q_MOST_TIMES : PySem.W.nsIn K mainGlobals "MOST_TIMES" = some (some (.int 1000000000000000000000000000000 t_MOST_TIMES)))
    (q_DEEPEST_ROW : PySem.W.nsIn K mainGlobals "DEEPEST_ROW" = some (some (.int 2000000 t_DEEPEST_ROW)))
    (q_MOST_NEAR : PySem.W.nsIn K mainGlobals "MOST_NEAR" = some (some (.int 400 t_MOST_NEAR)))
    (q_sys : K.lookup sysModules = some osys) :
    ∃ fd : FuncData, (∀ (s : Shared) (v : Value), BindsTo s fd ⟨[v], []⟩ [("_law_script", v)]) ∧ ∀ base : Heap, K.In base → base.Ns mainGlobals mg → FnA Clean l.prog w K mg base CX0 30 fa fd ["_law_script"] (spLaw K) := by
  have e := hfa.symm.trans (PySem.W.mg_of X G a_law)
  cases e
  have T : Txt K mg := ⟨PySem.W.mg_none_of X G z_isinstance, PySem.W.mg_none_of X G z_int, PySem.W.mg_none_of X G z_bool, PySem.W.mg_none_of X G z_str, PySem.W.mg_none_of X G z_list, PySem.W.mg_none_of X G z_tuple, PySem.W.mg_none_of X G z_len, PySem.W.mg_none_of X G z_all, PySem.W.mg_none_of X G z_range, PySem.W.mg_none_of X G z_min, PySem.W.mg_none_of X G z_repr, PySem.W.mg_none_of X G z_enumerate, PySem.W.mg_none_of X G z_sum, PySem.W.mg_none_of X G z_zip, PySem.W.mg_none_of X G z_max, ⟨_, PySem.W.mg_of X G q_LONGEST_THING⟩, ⟨_, PySem.W.mg_of X G q_MOST_TIMES⟩, ⟨_, PySem.W.mg_of X G q_DEEPEST_ROW⟩, ⟨_, PySem.W.mg_of X G q_MOST_NEAR⟩, ⟨_, q_sys⟩⟩
  have F_is_whole := fun_mk (st := s_is_whole) l_is_whole w_is_whole k_is_whole
  have O_is_whole : Own K mg "is_whole" s_is_whole _ _ ["value"] := ⟨F_is_whole, PySem.W.mg_of X G a_is_whole, F_is_whole.binds (ps := ["value"]) fun _ _ _ _ _ _ us hl => match us, hl with | [_], _ => rfl⟩
  have F_are_things := fun_mk (st := s_are_things) l_are_things w_are_things k_are_things
  have O_are_things : Own K mg "are_things" s_are_things _ _ ["values"] := ⟨F_are_things, PySem.W.mg_of X G a_are_things, F_are_things.binds (ps := ["values"]) fun _ _ _ _ _ _ us hl => match us, hl with | [_], _ => rfl⟩
  have F_are_small := fun_mk (st := s_are_small) l_are_small w_are_small k_are_small
  have O_are_small : Own K mg "are_small" s_are_small _ _ ["signs"] := ⟨F_are_small, PySem.W.mg_of X G a_are_small, F_are_small.binds (ps := ["signs"]) fun _ _ _ _ _ _ us hl => match us, hl with | [_], _ => rfl⟩
  have F_is_row := fun_mk (st := s_is_row) l_is_row w_is_row k_is_row
  have O_is_row : Own K mg "is_row" s_is_row _ _ ["thing"] := ⟨F_is_row, PySem.W.mg_of X G a_is_row, F_is_row.binds (ps := ["thing"]) fun _ _ _ _ _ _ us hl => match us, hl with | [_], _ => rfl⟩
  have F_looks_again := fun_mk (st := s_looks_again) l_looks_again w_looks_again k_looks_again
  have O_looks_again : Own K mg "_looks_again" s_looks_again _ _ ["part"] := ⟨F_looks_again, PySem.W.mg_of X G a_looks_again, F_looks_again.binds (ps := ["part"]) fun _ _ _ _ _ _ us hl => match us, hl with | [_], _ => rfl⟩
  have F_near := fun_mk (st := s_near) l_near w_near k_near
  have O_near : Own K mg "near" s_near _ _ ["row"] := ⟨F_near, PySem.W.mg_of X G a_near, F_near.binds (ps := ["row"]) fun _ _ _ _ _ _ us hl => match us, hl with | [_], _ => rfl⟩
  have F_check_row := fun_mk (st := s_check_row) l_check_row w_check_row k_check_row
  have O_check_row : Own K mg "check_row" s_check_row _ _ ["row"] := ⟨F_check_row, PySem.W.mg_of X G a_check_row, F_check_row.binds (ps := ["row"]) fun _ _ _ _ _ _ us hl => match us, hl with | [_], _ => rfl⟩
  have F_check_near := fun_mk (st := s_check_near) l_check_near w_check_near k_check_near
  have O_check_near : Own K mg "check_near" s_check_near _ _ ["row"] := ⟨F_check_near, PySem.W.mg_of X G a_check_near, F_check_near.binds (ps := ["row"]) fun _ _ _ _ _ _ us hl => match us, hl with | [_], _ => rfl⟩
  have F_count_asks := fun_mk (st := s_count_asks) l_count_asks w_count_asks k_count_asks
  have O_count_asks : Own K mg "count_asks" s_count_asks _ _ ["row"] := ⟨F_count_asks, PySem.W.mg_of X G a_count_asks, F_count_asks.binds (ps := ["row"]) fun _ _ _ _ _ _ us hl => match us, hl with | [_], _ => rfl⟩
  have F_laid_out := fun_mk (st := s_laid_out) l_laid_out w_laid_out k_laid_out
  have O_laid_out : Own K mg "laid_out" s_laid_out _ _ ["row"] := ⟨F_laid_out, PySem.W.mg_of X G a_laid_out, F_laid_out.binds (ps := ["row"]) fun _ _ _ _ _ _ us hl => match us, hl with | [_], _ => rfl⟩
  have F_is_missed := fun_mk (st := s_is_missed) l_is_missed w_is_missed k_is_missed
  have O_is_missed : Own K mg "is_missed" s_is_missed _ _ ["depth", "drawers"] := ⟨F_is_missed, PySem.W.mg_of X G a_is_missed, F_is_missed.binds (ps := ["depth", "drawers"]) fun _ _ _ _ _ _ us hl => match us, hl with | [_, _], _ => rfl⟩
  have F_check_places := fun_mk (st := s_check_places) l_check_places w_check_places k_check_places
  have O_check_places : Own K mg "check_places" s_check_places _ _ ["places"] := ⟨F_check_places, PySem.W.mg_of X G a_check_places, F_check_places.binds (ps := ["places"]) fun _ _ _ _ _ _ us hl => match us, hl with | [_], _ => rfl⟩
  have F_plain_depths := fun_mk (st := s_plain_depths) l_plain_depths w_plain_depths k_plain_depths
  have O_plain_depths : Own K mg "plain_depths" s_plain_depths _ _ ["row"] := ⟨F_plain_depths, PySem.W.mg_of X G a_plain_depths, F_plain_depths.binds (ps := ["row"]) fun _ _ _ _ _ _ us hl => match us, hl with | [_], _ => rfl⟩
  have F_plain_misses := fun_mk (st := s_plain_misses) l_plain_misses w_plain_misses k_plain_misses
  have O_plain_misses : Own K mg "plain_misses" s_plain_misses _ _ ["row", "places"] := ⟨F_plain_misses, PySem.W.mg_of X G a_plain_misses, F_plain_misses.binds (ps := ["row", "places"]) fun _ _ _ _ _ _ us hl => match us, hl with | [_, _], _ => rfl⟩
  have F_plain := fun_mk (st := s_plain) l_plain w_plain k_plain
  have O_plain : Own K mg "_plain" s_plain _ _ ["asks"] := ⟨F_plain, PySem.W.mg_of X G a_plain, F_plain.binds (ps := ["asks"]) fun _ _ _ _ _ _ us hl => match us, hl with | [_], _ => rfl⟩
  have F_l_till := fun_mk (st := s_l_till) l_l_till w_l_till k_l_till
  have O_l_till : Own K mg "_law_till" s_l_till _ _ ["_law_script", "_law_k"] := ⟨F_l_till, PySem.W.mg_of X G a_l_till, F_l_till.binds (ps := ["_law_script", "_law_k"]) fun _ _ _ _ _ _ us hl => match us, hl with | [_, _], _ => rfl⟩
  have F_l_coin := fun_mk (st := s_l_coin) l_l_coin w_l_coin k_l_coin
  have O_l_coin : Own K mg "_law_coin" s_l_coin _ _ ["_law_till_here", "_law_many"] := ⟨F_l_coin, PySem.W.mg_of X G a_l_coin, F_l_coin.binds (ps := ["_law_till_here", "_law_many"]) fun _ _ _ _ _ _ us hl => match us, hl with | [_, _], _ => rfl⟩
  have F_l_names := fun_mk (st := s_l_names) l_l_names w_l_names k_l_names
  have O_l_names : Own K mg "_law_names" s_l_names _ _ ["_law_till_here", "_law_many"] := ⟨F_l_names, PySem.W.mg_of X G a_l_names, F_l_names.binds (ps := ["_law_till_here", "_law_many"]) fun _ _ _ _ _ _ us hl => match us, hl with | [_, _], _ => rfl⟩
  have F_l_some := fun_mk (st := s_l_some) l_l_some w_l_some k_l_some
  have O_l_some : Own K mg "_law_some" s_l_some _ _ ["_law_till_here", "_law_names_here", "_law_most"] := ⟨F_l_some, PySem.W.mg_of X G a_l_some, F_l_some.binds (ps := ["_law_till_here", "_law_names_here", "_law_most"]) fun _ _ _ _ _ _ us hl => match us, hl with | [_, _, _], _ => rfl⟩
  have F_l_row := fun_mk (st := s_l_row) l_l_row w_l_row k_l_row
  have O_l_row : Own K mg "_law_row" s_l_row _ _ ["_law_till_here", "_law_most", "_law_wide"] := ⟨F_l_row, PySem.W.mg_of X G a_l_row, F_l_row.binds (ps := ["_law_till_here", "_law_most", "_law_wide"]) fun _ _ _ _ _ _ us hl => match us, hl with | [_, _, _], _ => rfl⟩
  have F_l_plain := fun_mk (st := s_l_plain) l_l_plain w_l_plain k_l_plain
  have O_l_plain : Own K mg "_law_plain" s_l_plain _ _ ["_law_asks", "_law_places"] := ⟨F_l_plain, PySem.W.mg_of X G a_l_plain, F_l_plain.binds (ps := ["_law_asks", "_law_places"]) fun _ _ _ _ _ _ us hl => match us, hl with | [_, _], _ => rfl⟩
  have F_l_deep := fun_mk (st := s_l_deep) l_l_deep w_l_deep k_l_deep
  have O_l_deep : Own K mg "_law_deep" s_l_deep _ _ ["_law_asks"] := ⟨F_l_deep, PySem.W.mg_of X G a_l_deep, F_l_deep.binds (ps := ["_law_asks"]) fun _ _ _ _ _ _ us hl => match us, hl with | [_], _ => rfl⟩
  have F_l_right := fun_mk (st := s_l_right) l_l_right w_l_right k_l_right
  have O_l_right : Own K mg "_law_right" s_l_right _ _ ["_law_till_here", "_law_row_here", "_law_asks"] := ⟨F_l_right, PySem.W.mg_of X G a_l_right, F_l_right.binds (ps := ["_law_till_here", "_law_row_here", "_law_asks"]) fun _ _ _ _ _ _ us hl => match us, hl with | [_, _, _], _ => rfl⟩
  have F_l_anew_right := fun_mk (st := s_l_anew_right) l_l_anew_right w_l_anew_right k_l_anew_right
  have O_l_anew_right : Own K mg "_law_anew_right" s_l_anew_right _ _ ["_law_till_here", "_law_asks"] := ⟨F_l_anew_right, PySem.W.mg_of X G a_l_anew_right, F_l_anew_right.binds (ps := ["_law_till_here", "_law_asks"]) fun _ _ _ _ _ _ us hl => match us, hl with | [_, _], _ => rfl⟩
  have F_law := fun_mk (st := s_law) l_law w_law k_law
  have O_law : Own K mg "law" s_law _ _ ["_law_script"] := ⟨F_law, PySem.W.mg_of X G a_law, F_law.binds (ps := ["_law_script"]) fun _ _ _ _ _ _ us hl => match us, hl with | [_], _ => rfl⟩
  refine ⟨PySem.W.fnOf "law" "law" (defArgs s_law) (defBody s_law) (defScope s_law) .none kV_law dc_law pm_law an_law cd_law ct_law, fun s v => .of_eq rfl, fun base _ _ => ?_⟩
  have H_is_whole := ok_is_whole (P := l.prog) (w := w) (base := base) T O_is_whole
  have H_is_whole0 := ok_is_whole0 (P := l.prog) (w := w) (base := base) T O_is_whole
  have H_small := ok_are_small (P := l.prog) (w := w) (base := base) T O_are_small
  have H_things := ok_are_things T H_small O_are_small O_are_things
  have H_looks := ok_looks_again T H_is_whole O_is_whole O_looks_again
  have H_is_row := ok_is_row T H_things H_looks O_are_things O_looks_again O_is_row
  have H_check_row := ok_check_row T O_is_row O_check_row H_is_row
  have H_count := count_all (P := l.prog) (w := w) (base := base) T O_count_asks 13
  have H_check_near := ok_check_near T O_count_asks O_check_near H_count
  have H_laid := laid_all (P := l.prog) (w := w) (base := base) T O_laid_out 13
  have H_near := ok_near T O_check_row O_check_near O_laid_out O_near H_check_row H_check_near H_laid
  have H_missed := ok_is_missed (P := l.prog) (w := w) (base := base) T O_is_missed
  have H_places := ok_check_places T O_is_whole O_check_places H_is_whole0
  have H_plain := ok_plain (P := l.prog) (w := w) (base := base) T O_plain
  have H_pd := ok_plain_depths T O_near O_plain O_plain_depths H_near H_plain
  have H_pm := ok_plain_misses T O_near O_check_places O_is_missed O_plain O_plain_misses H_near H_places H_missed H_plain
  have H_till := ok_till (P := l.prog) (w := w) (base := base) T O_l_till
  have H_coin := ok_coin (P := l.prog) (w := w) (base := base) T O_l_coin
  have H_names := ok_names T H_coin O_l_coin O_l_names
  have H_some := ok_some T H_coin O_l_coin O_l_some
  have H_row := ok_row T H_coin H_names H_some O_l_coin O_l_names O_l_some O_l_row
  have H_lplain := ok_lplain (P := l.prog) (w := w) (base := base) T O_l_plain
  have H_ldeep := ok_ldeep (P := l.prog) (w := w) (base := base) T O_l_deep
  have H_right := ok_right T O_plain_depths O_plain_misses O_l_coin O_l_plain O_l_deep O_l_right H_pd H_pm H_coin H_lplain H_ldeep
  have H_anew := ok_anew T O_plain_depths O_plain_misses O_l_coin O_l_plain O_l_deep O_l_anew_right H_pd H_pm H_coin H_lplain H_ldeep
  exact ok_law T H_pd H_pm H_till H_row H_right H_anew O_plain_depths O_plain_misses O_l_till O_l_row O_l_right O_l_anew_right O_law
theorem walk {l : PySem.W.OpenLaw} {q : Program} {loose : List Str} {XP : (Str → Option Value) → Heap → Prop} {YP : World → Heap → Prop} {d : DefRec} {K : Params → PySem.W.Frag} (hn : l.most = some 63) (hdf : d.params.defaults = [])
    (hY : ∀ (w : World) (h : Heap), YP w h → (K w.params).In h)
    (F : ∀ (w : World) (mg : Str → Option Value) (fa : Addr) (h : Heap), (K w.params).In h → h.Ns mainGlobals mg → mg d.name = some (.ref fa) →
      ∃ fd : FuncData, (∀ (s : Shared) (u : Value), BindsTo s fd ⟨[u], []⟩ [("_law_script", u)]) ∧ ∀ base : Heap, (K w.params).In base → base.Ns mainGlobals mg → FnA Clean l.prog w (K w.params) mg base CX0 30 fa fd ["_law_script"] (spLaw (K w.params))) :
    PySem.W.WalkO q loose XP YP l.row.toRowW d [] (fun f vs => PySem.call f vs) :=
  walk_ofA (n := 63) (k := 30) (x := "_law_script") (sp := fun w => spLaw (K w.params)) hn (by decide) hdf ⟨rfl, by decide, by decide⟩ hY F (fun _ _ a ns hl _ hS => ⟨a, ns, rfl, hS, hl, fun _ => rfl⟩)
end K28
open PySem PySem.W PyProof.Rows in
set_option maxRecDepth 100000 in
set_option maxHeartbeats 0 in
theorem PySem.Challenge.cw_missclock_k28_the_plain_rule_holds : PySem.Challenge.rw_missclock_k28_the_plain_rule.Holds := by
  w_on; o_law; x_head; (case hw => w_witness2)
  k_fill
  refine K28.walk (l := PySem.Challenge.rw_missclock_k28_the_plain_rule) rfl rfl (fun w h Y => PySem.W.kIn_of Y) ?F
  case F =>
    intro w mg fa h KX G hmg
    refine' K28.all_mk KX G hmg ?a_is_whole ?l_is_whole ?w_is_whole ?k_is_whole ?a_are_things ?l_are_things ?w_are_things ?k_are_things ?a_are_small ?l_are_small ?w_are_small ?k_are_small ?a_is_row ?l_is_row ?w_is_row ?k_is_row ?a_looks_again ?l_looks_again ?w_looks_again ?k_looks_again ?a_near ?l_near ?w_near ?k_near ?a_check_row ?l_check_row ?w_check_row ?k_check_row ?a_check_near ?l_check_near ?w_check_near ?k_check_near ?a_count_asks ?l_count_asks ?w_count_asks ?k_count_asks ?a_laid_out ?l_laid_out ?w_laid_out ?k_laid_out ?a_is_missed ?l_is_missed ?w_is_missed ?k_is_missed ?a_check_places ?l_check_places ?w_check_places ?k_check_places ?a_plain_depths ?l_plain_depths ?w_plain_depths ?k_plain_depths ?a_plain_misses ?l_plain_misses ?w_plain_misses ?k_plain_misses ?a_plain ?l_plain ?w_plain ?k_plain ?a_l_till ?l_l_till ?w_l_till ?k_l_till ?a_l_coin ?l_l_coin ?w_l_coin ?k_l_coin ?a_l_names ?l_l_names ?w_l_names ?k_l_names ?a_l_some ?l_l_some ?w_l_some ?k_l_some ?a_l_row ?l_l_row ?w_l_row ?k_l_row ?a_l_plain ?l_l_plain ?w_l_plain ?k_l_plain ?a_l_deep ?l_l_deep ?w_l_deep ?k_l_deep ?a_l_right ?l_l_right ?w_l_right ?k_l_right ?a_l_anew_right ?l_l_anew_right ?w_l_anew_right ?k_l_anew_right ?a_law ?l_law ?w_law ?k_law ?z_isinstance ?z_int ?z_bool ?z_str ?z_list ?z_tuple ?z_len ?z_all ?z_range ?z_min ?z_repr ?z_enumerate ?z_sum ?z_zip ?z_max ?q_LONGEST_THING ?q_MOST_TIMES ?q_DEEPEST_ROW ?q_MOST_NEAR ?q_sys
    (case a_is_whole => k_is)
    (case l_is_whole => k_is)
    (case w_is_whole => k_is)
    (case k_is_whole => k_is)
    (case a_are_things => k_is)
    (case l_are_things => k_is)
    (case w_are_things => k_is)
    (case k_are_things => k_is)
    (case a_are_small => k_is)
    (case l_are_small => k_is)
    (case w_are_small => k_is)
    (case k_are_small => k_is)
    (case a_is_row => k_is)
    (case l_is_row => k_is)
    (case w_is_row => k_is)
    (case k_is_row => k_is)
    (case a_looks_again => k_is)
    (case l_looks_again => k_is)
    (case w_looks_again => k_is)
    (case k_looks_again => k_is)
    (case a_near => k_is)
    (case l_near => k_is)
    (case w_near => k_is)
    (case k_near => k_is)
    (case a_check_row => k_is)
    (case l_check_row => k_is)
    (case w_check_row => k_is)
    (case k_check_row => k_is)
    (case a_check_near => k_is)
    (case l_check_near => k_is)
    (case w_check_near => k_is)
    (case k_check_near => k_is)
    (case a_count_asks => k_is)
    (case l_count_asks => k_is)
    (case w_count_asks => k_is)
    (case k_count_asks => k_is)
    (case a_laid_out => k_is)
    (case l_laid_out => k_is)
    (case w_laid_out => k_is)
    (case k_laid_out => k_is)
    (case a_is_missed => k_is)
    (case l_is_missed => k_is)
    (case w_is_missed => k_is)
    (case k_is_missed => k_is)
    (case a_check_places => k_is)
    (case l_check_places => k_is)
    (case w_check_places => k_is)
    (case k_check_places => k_is)
    (case a_plain_depths => k_is)
    (case l_plain_depths => k_is)
    (case w_plain_depths => k_is)
    (case k_plain_depths => k_is)
    (case a_plain_misses => k_is)
    (case l_plain_misses => k_is)
    (case w_plain_misses => k_is)
    (case k_plain_misses => k_is)
    (case a_plain => k_is)
    (case l_plain => k_is)
    (case w_plain => k_is)
    (case k_plain => k_is)
    (case a_l_till => k_is)
    (case l_l_till => k_is)
    (case w_l_till => k_is)
    (case k_l_till => k_is)
    (case a_l_coin => k_is)
    (case l_l_coin => k_is)
    (case w_l_coin => k_is)
    (case k_l_coin => k_is)
    (case a_l_names => k_is)
    (case l_l_names => k_is)
    (case w_l_names => k_is)
    (case k_l_names => k_is)
    (case a_l_some => k_is)
    (case l_l_some => k_is)
    (case w_l_some => k_is)
    (case k_l_some => k_is)
    (case a_l_row => k_is)
    (case l_l_row => k_is)
    (case w_l_row => k_is)
    (case k_l_row => k_is)
    (case a_l_plain => k_is)
    (case l_l_plain => k_is)
    (case w_l_plain => k_is)
    (case k_l_plain => k_is)
    (case a_l_deep => k_is)
    (case l_l_deep => k_is)
    (case w_l_deep => k_is)
    (case k_l_deep => k_is)
    (case a_l_right => k_is)
    (case l_l_right => k_is)
    (case w_l_right => k_is)
    (case k_l_right => k_is)
    (case a_l_anew_right => k_is)
    (case l_l_anew_right => k_is)
    (case w_l_anew_right => k_is)
    (case k_l_anew_right => k_is)
    (case a_law => k_is)
    (case l_law => k_is)
    (case w_law => k_is)
    (case k_law => k_is)
    (case z_isinstance => k_is)
    (case z_int => k_is)
    (case z_bool => k_is)
    (case z_str => k_is)
    (case z_list => k_is)
    (case z_tuple => k_is)
    (case z_len => k_is)
    (case z_all => k_is)
    (case z_range => k_is)
    (case z_min => k_is)
    (case z_repr => k_is)
    (case z_enumerate => k_is)
    (case z_sum => k_is)
    (case z_zip => k_is)
    (case z_max => k_is)
    (case q_LONGEST_THING => k_is)
    (case q_MOST_TIMES => k_is)
    (case q_DEEPEST_ROW => k_is)
    (case q_MOST_NEAR => k_is)
    (case q_sys => k_is)
#print axioms PySem.Challenge.cw_missclock_k28_the_plain_rule_holds

