import PyProof.Rows.All
import Wide.All
import OpenK.AllK
import Wide.FinOn
import HandS.Base
import HandS.Call
import HandS.List
import HandS.Comp
import HandS.Ends
import HandS.Words
import HandS.Iter
import HandS.Dict
import HandS.IsInst
import HandS.Deep
import HandS.Text
import HandS.Style
import HandS.Wide
import HandS.WordsList
import HandS.StrMore
import HandS.DictComp
import HandS.Walk
import HandS.WordsDict
import HandS.Zip
import KE.GoesMore
import PyProof.Rows.ChunkEnd
import HandS.Sort
import HandS.TupAny
import HandS.WideBits
import HandS.Small
import HandS.More
import OpenK.XHead
import PySem.Challenge.RW_missclock_k03_so_often_ahead
set_option Elab.async false
set_option linter.all false
set_option maxRecDepth 100000
set_option maxHeartbeats 4000000
/-! MC: data of any depth over the heap, its repr, comparisons with the empty ones; promises under known guards. -/
namespace MC
open PySem PySem.Spec L2
open PyProof.Rows hiding St

/-! ### data -/
def keyD : Key → PyData
  | .inl i => .int i
  | .inr x => .str x
mutual
inductive DD (H : Hp) : V → PyData → Prop
  | non : DD H .non .none
  | bl (b : Bool) : DD H (.bl b) (.bool b)
  | int (i : Int) : DD H (.int i) (.int i)
  | str (x : Str) : DD H (.str x) (.str x)
  | lst {a : Addr} {xs : List V} {ds : List PyData} (h : H a = some (.lst xs)) (hs : DDs H xs ds) : DD H (.ref a) (.list ds)
  | tup {a : Addr} {xs : List V} {ds : List PyData} (h : H a = some (.tup xs)) (hs : DDs H xs ds) : DD H (.ref a) (.tuple ds)
  | dct0 {a : Addr} (h : H a = some (.dK [])) : DD H (.ref a) (.dict [])
inductive DDs (H : Hp) : List V → List PyData → Prop
  | nil : DDs H [] []
  | cons {v : V} {vs : List V} {d : PyData} {ds : List PyData} (h : DD H v d) (hs : DDs H vs ds) : DDs H (v :: vs) (d :: ds)
end

mutual
theorem DD.mono {H H' : Hp} (e : Same H H') : ∀ {d : PyData} {v : V}, DD H v d → DD H' v d
  | _, _, .non => .non
  | _, _, .bl b => .bl b
  | _, _, .int i => .int i
  | _, _, .str x => .str x
  | _, _, .lst h hs => .lst (e _ _ h) (DDs.mono e hs)
  | _, _, .tup h hs => .tup (e _ _ h) (DDs.mono e hs)
  | _, _, .dct0 h => .dct0 (e _ _ h)
theorem DDs.mono {H H' : Hp} (e : Same H H') : ∀ {ds : List PyData} {vs : List V}, DDs H vs ds → DDs H' vs ds
  | _, _, .nil => .nil
  | _, _, .cons h hs => .cons (DD.mono e h) (DDs.mono e hs)
end
theorem DDs.length {H : Hp} : ∀ {vs : List V} {ds : List PyData}, DDs H vs ds → vs.length = ds.length
  | _, _, .nil => rfl
  | _, _, .cons _ hs => congrArg (· + 1) hs.length
theorem DDs.get {H : Hp} : ∀ {vs : List V} {ds : List PyData}, DDs H vs ds → ∀ {i : Nat} {v : V}, vs[i]? = some v → ∃ d, ds[i]? = some d ∧ DD H v d
  | _, _, .nil, _, _, e => by simp at e
  | _, _, .cons h _, 0, _, e => by simp at e; subst e; exact ⟨_, rfl, h⟩
  | _, _, .cons _ hs, i + 1, v, e => by
    obtain ⟨d, e1, e2⟩ := hs.get (i := i) (v := v) (by simpa using e)
    exact ⟨d, by simpa using e1, e2⟩
theorem DDs.append {H : Hp} : ∀ {vs ws : List V} {ds es : List PyData}, DDs H vs ds → DDs H ws es → DDs H (vs ++ ws) (ds ++ es)
  | _, _, _, _, .nil, k => k
  | _, _, _, _, .cons h hs, k => .cons h (hs.append k)
theorem DDs.take {H : Hp} : ∀ {vs : List V} {ds : List PyData} (n : Nat), DDs H vs ds → DDs H (vs.take n) (ds.take n)
  | _, _, 0, _ => .nil
  | _, _, _ + 1, .nil => .nil
  | _, _, n + 1, .cons h hs => .cons h (DDs.take n hs)
theorem DDs.drop {H : Hp} : ∀ {vs : List V} {ds : List PyData} (n : Nat), DDs H vs ds → DDs H (vs.drop n) (ds.drop n)
  | _, _, 0, r => r
  | _, _, _ + 1, .nil => .nil
  | _, _, n + 1, .cons _ hs => DDs.drop n hs
theorem DDs.set {H : Hp} {v : V} {d : PyData} (r : DD H v d) : ∀ {vs : List V} {ds : List PyData} (i : Nat), DDs H vs ds → DDs H (vs.set i v) (ds.set i d)
  | _, _, _, .nil => .nil
  | _, _, 0, .cons _ hs => .cons r hs
  | _, _, i + 1, .cons h hs => .cons h (DDs.set r i hs)

section
variable {X : Cx} {pins : List (Addr × Obj)} {σ : St} {H : Hp} {s : Shared}
mutual
theorem DD.reads (I : Inv X pins σ H s) : ∀ (d : PyData) (v : V) (u : Value), DD H v d → RelV v u → ∃ as, Reads s.heap u d as ∧ ∀ b ∈ as, H b ≠ none
  | .none, _, _, h, r => by
    cases h; cases r
    exact ⟨_, .none, fun b hb => nomatch hb⟩
  | .bool b, _, _, h, r => by
    cases h; cases r
    exact ⟨_, .bool b, fun b hb => nomatch hb⟩
  | .int i, _, _, h, r => by
    cases h; obtain ⟨t, rfl⟩ := r
    exact ⟨_, .int i t, fun b hb => nomatch hb⟩
  | .str x, _, _, h, r => by
    cases h; obtain ⟨t, rfl⟩ := r
    exact ⟨_, .str x t, fun b hb => nomatch hb⟩
  | .list ds, _, _, h, r => by
    cases h with
    | lst ha hs =>
      cases r
      obtain ⟨_, its, n, rv, ho⟩ := (show ObjOk X.prog X.w H s.heap _ (.lst _) from I.hok _ _ ha)
      obtain ⟨as, hr, hb⟩ := DDs.reads I ds _ its hs rv
      refine ⟨_, .list ho rfl rfl (by simpa using hr), fun b hbm => ?_⟩
      rcases List.mem_cons.mp hbm with rfl | hbm
      · rw [ha]; exact fun z => nomatch z
      · exact hb b hbm
  | .tuple ds, _, _, h, r => by
    cases h with
    | tup ha hs =>
      cases r
      obtain ⟨_, its, rv, o, ho, hc, n, hd⟩ := (show ObjOk X.prog X.w H s.heap _ (.tup _) from I.hok _ _ ha)
      obtain ⟨as, hr, hb⟩ := DDs.reads I ds _ its hs rv
      exact ⟨_, .tuple ho hc hd (by simpa using hr), hb⟩
  | .dict es, _, _, h, r => by
    cases h with
    | dct0 ha =>
      cases r
      obtain ⟨_, _, vs, kv, o, es, ep, ho, hx, hd, _, hm, _⟩ := (show ObjOk X.prog X.w H s.heap _ (.dK _) from I.hok _ _ ha)
      cases kv
      have e0 : es.toList = [] := by
        generalize es.toList = l at hm
        cases hm
        rfl
      refine ⟨_, .dict (kvs := []) ho hx.1 hd (by rw [e0]; exact .nil) (by rw [e0]; exact .nil), fun b hb => ?_⟩
      rw [List.append_nil] at hb
      rw [List.mem_singleton.mp hb, ha]
      exact fun z => nomatch z
theorem DDs.reads (I : Inv X pins σ H s) : ∀ (ds : List PyData) (vs : List V) (us : List Value), DDs H vs ds → Vals vs us → ∃ as, ReadsAll s.heap us ds as ∧ ∀ b ∈ as, H b ≠ none
  | [], _, _, h, r => by
    cases h; cases r
    exact ⟨_, .nil, fun b hb => nomatch hb⟩
  | d :: ds, _, _, h, r => by
    cases h with
    | cons h1 h2 =>
      cases r with
      | cons r1 r2 =>
        obtain ⟨as, q1, b1⟩ := DD.reads I d _ _ h1 r1
        obtain ⟨bs, q2, b2⟩ := DDs.reads I ds _ _ h2 r2
        exact ⟨_, .cons q1 q2, fun b hb => (List.mem_append.mp hb).elim (b1 b) (b2 b)⟩
end
end

/-! ### repr -/
section
variable {X : Cx}
def rRepr : List V → Hp → VK → Prop := fun xs H Q => ∃ x d, xs = [x] ∧ DD H x d ∧ d.showable = true ∧ d.depth ≤ 100 ∧ d.shown.length ≤ sizeLine ∧ Q (.str d.shown) H
theorem flatD {H : Hp} {x : V} {d : PyData} (h : DD H x d) : (∃ a, x = .ref a) ∨ (x = .non ∧ d = .none) ∨ (∃ b, x = .bl b ∧ d = .bool b) ∨ (∃ i, x = .int i ∧ d = .int i) ∨ ∃ z, x = .str z ∧ d = .str z := by
  cases h with
  | non => exact .inr (.inl ⟨rfl, rfl⟩)
  | bl b => exact .inr (.inr (.inl ⟨b, rfl, rfl⟩))
  | int i => exact .inr (.inr (.inr (.inl ⟨i, rfl, rfl⟩)))
  | str z => exact .inr (.inr (.inr (.inr ⟨z, rfl, rfl⟩)))
  | lst h _ => exact .inl ⟨_, rfl⟩
  | tup h _ => exact .inl ⟨_, rfl⟩
  | dct0 h => exact .inl ⟨_, rfl⟩
/-- the system's own table of modules is an object of the written part: nothing tracked lies there -/
def NoSys (X : Cx) : Prop := ∃ o, X.K.lookup sysModules = some o
theorem call_repr (hg : X.A.guards = some []) (hu : X.A.units + 200 < cLine) (hn : NoSys X) : CallR X (.builtin "repr") rRepr := by
  intro pins s σ H xs us Q I r h
  obtain ⟨x, d, rfl, hd, hs, hdp, hz, q⟩ := h
  obtain ⟨u, rfl, rx⟩ := vals1 r
  obtain ⟨as, rd, nb⟩ := DD.reads I d x u hd rx
  have fin : ∀ tk t, EP X pins σ Q (.str d.shown t) { s with toks := tk } := fun tk t => ⟨.str _, H, I.tok _, ⟨_, rfl⟩, q⟩
  rcases flatD hd with ⟨a, rfl⟩ | ⟨rfl, rfl⟩ | ⟨b, rfl, rfl⟩ | ⟨i, rfl, rfl⟩ | ⟨z, rfl, rfl⟩
  · cases rx
    refine repr_of_reads' rd hs (fun _ hm => ?_) hg (by omega) (fun _ _ e => e) (fun h' u tk hk => ⟨.str _, H, I.kept (h' := h') (t' := tk) hk, ⟨_, rfl⟩, q⟩) hz
    obtain ⟨o, ho⟩ := hn
    exact nb _ hm (I.bs _ _ (I.ok.mod.kin _ _ ho)).2
  · cases rx
    exact PySem.P.repr_of_none (fin _ _)
  · cases rx
    refine PySem.P.repr_of_bool ?_
    have := fin (s.toks + 1) s.toks
    cases b <;> exact this
  · obtain ⟨t, rfl⟩ := rx
    exact PySem.P.repr_of_int (by simpa [PyData.showable] using hs) (fin _ _)
  · obtain ⟨t, rfl⟩ := rx
    exact PySem.P.repr_of_str (fin _ _) hz
end
end MC

set_option Elab.async false
set_option linter.all false
set_option maxRecDepth 100000
set_option maxHeartbeats 4000000
namespace MC
open PySem PySem.Spec L2
open PyProof.Rows hiding St

/-! ### promises under a fact about what lies around -/
structure FnA (Φ : Around → Prop) (P : Program) (w : World) (K : PySem.W.Frag) (mg : Str → Option Value) (base : Heap) (CX : CXT) (k : Nat) (f : Addr) (fd : FuncData) (ps : List Str) (sp : Sp) : Prop where
  len : ∀ vs H Q E, sp vs H Q E → vs.length = ps.length
  run : ∀ (A : Around) (outer : List Env) (s : Shared) (H : Hp) (args : Args) (us : List Value) (vs : List V) (Q : VK) (E : XK), Φ A → Room k A → Env0 P w K mg base A outer s H →
    BindsTo s fd args (ps.zip us) → Vals vs us → sp vs H Q E → codeAny (model P w) A (.call (.ref f) args) (CR CX outer P w H s Q E) s
def Clean (A : Around) : Prop := A.guards = some []
theorem Clean.deeper {A : Around} (h : Clean A) (e : Env) : Clean (A.deeper e) := h

section
variable {Φ : Around → Prop} {CX : CXT} {P : Program} {w : World} {K : PySem.W.Frag} {mg : Str → Option Value} {base : Heap} {k : Nat} {f : Addr}
theorem fn_ofA {name qual : Str} {params : Arguments} {body : List Stmt} {scope : Scope} {dV kV doc pm cdv ct oc : Value} {an od : Option Addr}
    {osl : Array (Option Value)} {N ps : List Str} {sp : Sp} (lk : K.lookup f = some ⟨oc, od, .func (PySem.W.fnOf name qual params body scope dV kV doc pm an cdv ct), osl⟩)
    (hcd : PySem.W.codeIn K cdv qual = true) (S : FnScope N ps scope) (len : ∀ vs H Q E, sp vs H Q E → vs.length = ps.length)
    (hbody : ∀ (A : Around) (outer : List Env) (s : Shared) (H : Hp) (vs : List V) (Q : VK) (E : XK), Φ A → Room k (A.deeper (envOfC qual scope s.heap.objs.size f cdv)) → sp vs H Q E →
      ∃ t, PSs (cxOf CX P w K mg base N qual scope f cdv A outer s H E) body t ∧ t { nx := fun _ H' => Q .non H', rt := Q } (start N vs) H) :
    FnA Φ P w K mg base CX (k + 1) f (PySem.W.fnOf name qual params body scope dV kV doc pm an cdv ct) ps sp := by
  refine ⟨len, fun A outer s H args us vs Q E hΦ hr e0 hb r hsp => ?_⟩
  have sub := fun b o e => (e0.bs b o e).1
  have inK : K.In s.heap := e0.mod.kin.keeps sub
  have bound : ∀ y ∈ ps.zip us, scope.names.lookup y.1 = some .local ∨ (scope.names.lookup y.1 = some .cell ∧ ((cellsFrom (s.heap.objs.size + 1) scope.names []).lookup y.1).isSome = true) := by
    rintro ⟨n, v⟩ hy
    have hp := S.par n (List.of_mem_zip hy).1
    exact hp.elim .inl fun q => .inr ⟨q, PySem.W.cellsFrom_some _ _ _ (.inl q)⟩
  refine codeAny_call_function hr.depth (inK _ _ lk) rfl S.co S.gen rfl (PySem.W.codeRec_of inK hcd) (hb _ _ _ _ (wpAny_newFunctionEnv_cells S.kind bound fun env he s1 x => ?_))
  cases he
  refine ⟨(e0.mod.nolimit.keeps sub).keeps x.toInCall.keep, codeAny_func ?_⟩
  obtain ⟨t, ht, hq⟩ := hbody A outer s H vs Q E hΦ (hr.deeper _) hsp
  have J := inv_start (CX := CX) (w := w) (qual := qual) (f := f) (cd := cdv) (E := E) S hr.hd e0 (len _ _ _ _ hsp) r x
  refine wpAny_mono (ht.run [] s1 _ H _ J hq) (fun fl s' hs => ?_) fun _ _ z => z
  match fl, hs with
  | .ret u, ⟨v, _, H', J', rv, q⟩ => exact ⟨v, H', J'.os, J'.bare, J'.base, J'.hok, rv, q⟩
  | .next, ⟨_, H', J', q⟩ => exact ⟨V.non, H', J'.os, J'.bare, J'.base, J'.hok, rfl, q⟩
  | .brk, ⟨_, _, _, q⟩ => exact q.elim
  | .cont, ⟨_, _, _, q⟩ => exact q.elim

theorem FunA.ok {x qual : Str} {st : Stmt} {fd : FuncData} {N ps : List Str} {sp : Sp} (F : Fun K x qual st f fd) (S : FnScope N ps (defScope st)) (len : ∀ vs H Q E, sp vs H Q E → vs.length = ps.length)
    (hbody : ∀ (cdv : Value) (A : Around) (outer : List Env) (s : Shared) (H : Hp) (vs : List V) (Q : VK) (E : XK), Φ A → Room k (A.deeper (envOfC qual (defScope st) s.heap.objs.size f cdv)) → sp vs H Q E →
      ∃ t, PSs (cxOf CX0 P w K mg base N qual (defScope st) f cdv A outer s H E).nox (defBody st) t ∧ t { nx := fun _ H' => Q .non H', rt := Q } (start N vs) H) : FnA Φ P w K mg base CX0 (k + 1) f fd ps sp := by
  obtain ⟨oc, od, kV, doc, pm, an, cdv, ct, osl, rfl, lk, hcd⟩ := F.ex
  exact fn_ofA lk hcd S len fun A outer s H vs Q E hΦ hr hsp => (hbody cdv A outer s H vs Q E hΦ hr hsp).imp fun t z => ⟨z.1.nox, z.2⟩
theorem FnA.of {fd : FuncData} {ps : List Str} {sp : Sp} (F : FnOk P w K mg base CX k f fd ps sp) : FnA Φ P w K mg base CX k f fd ps sp :=
  ⟨F.len, fun A outer s H args us vs Q E _ => F.run A outer s H args us vs Q E⟩
end

section
variable {Φ : Around → Prop} {X : Cx} {CX : CXT} {k : Nat} {f : Addr} {fd : FuncData} {ps : List Str} {sp : Sp} {dvs : List V} {ds : List Value} {E : XK} {x : Str} {p pos : Pos} {e : Expr} {es : List Expr} {t : TA}
/-- a call of a def whose promise leans on what lies around -/
theorem pe_callA (hΦ : Φ X.A) (F : FnA Φ X.prog X.w X.K X.mg X.base CX k f fd ps sp) (hr : Room k X.A) (hg : Gl X x) (hm : X.mg x = some (.ref f)) (hk : PySem.W.keepIn X.K (.ref f) = true) (hb : Binds X.K fd ps ds) (hd : Vals dvs ds) (hx : Passes CX X E)
    (ha : PA X (e :: es) t) (hdb : (x == ("__debug__" : Str)) = false := by decide) (he : starEach (e :: es) X.env = (false, eval e X.env) :: starEach es X.env := by rfl) (hpl : (backTo pos (starEach es X.env)).any (·.1) = false := by rfl) :
    PE X (.Call (.Name x p) (e :: es) [] pos) (tCall sp dvs E t) := by
  constructor
  intro pins s σ H Q I h
  refine wpAny_Call_Name_kw (ld_glob I hg hm ?_ hdb)
  refine PySem.W.callWith_K (h₀ := X.base) I.ok.mod.kin hk (thn (ha.run pos pins s σ H _ I h) fun us s1 ⟨vs, H1, I1, r, q⟩ => ⟨I1.kIn, ?_⟩) he hpl
  have r2 := r.append hd
  have hl : (us ++ ds).length = ps.length := r2.length.symm.trans (F.len _ _ _ _ q)
  refine wpAny_call (codeAny_mono (F.run X.A X.stack s1 H1 ⟨us, []⟩ _ _ Q E hΦ hr I1.env0 (hb s1 us I1.kIn hl) r2 q) fun z s' hq => ?_)
  match z, hq with
  | .error e', hq => exact hx pins σ H1 s1 e' s' I1 hq
  | .ok (.ret u), hq => exact I1.after hq
  | .ok .next, hq => exact hq.elim
  | .ok .brk, hq => exact hq.elim
  | .ok .cont, hq => exact hq.elim
end

/-! ### the law's own call -/
theorem law_callA {P : Program} {w : World} {K : PySem.W.Frag} {mg mb : Str → Option Value} {k : Nat} {fa a : Addr} {fd : FuncData} {x : Str} {sp : Sp} {s₁ : Shared} {vs : List Value} {ns : List Int}
    (KX : K.In s₁.heap) (hns : s₁.heap.Ns mainGlobals mg) (hb : s₁.heap.Ns builtinsNs mb) (hbb : ∀ x : Str, x ≠ "__name__" → mb x = bootBuiltins x) (hlim : s₁.heap.NoLimit) (hg : s₁.gens = #[])
    (ha : s₁.heap.get? a = some { cls := .type "list", data := .seq vs.toArray }) (hi : IntsAre vs ns) (hl : ns.length ≤ sizeLine) (hr : Room k callerA)
    (F : ∀ base : Heap, K.In base → base.Ns mainGlobals mg → FnA Clean P w K mg base CX0 k fa fd [x] sp) (hbind : ∀ (s : Shared) (u : Value), BindsTo s fd ⟨[u], []⟩ [(x, u)])
    (hsp : ∀ H : Hp, Only H → SqL K H a (ns.map V.int) → sp [.ref a] H (fun v _ => v = .bl true) fun _ _ _ => False) :
    codeAny (model P w) callerA (.call (.ref fa) ⟨[.ref a], []⟩) (fun r s' => r = .ok (.ret (.bool true)) ∧ OldK s₁.heap s'.heap ∧ s'.os = s₁.os ∧ AllBare s'.gens) s₁ := by
  have rv := vals_ints hi
  have main : ∀ H : Hp, Only H → SqL K H a (ns.map V.int) → HOk P w H s₁.heap → (∀ b u, H b = some u → b = a ∧ K.lookup a = none) →
      codeAny (model P w) callerA (.call (.ref fa) ⟨[.ref a], []⟩) (fun r s' => r = .ok (.ret (.bool true)) ∧ OldK s₁.heap s'.heap ∧ s'.os = s₁.os ∧ AllBare s'.gens) s₁ := by
    intro H hO hS hok hA
    have none_of : ∀ {b : Addr}, (b = a → K.lookup a = none → False) → H b = none := fun {b} h => by
      match e : H b with
      | none => rfl
      | some u => exact (h (hA b u e).1 (hA b u e).2).elim
    have ns_of : ∀ {b : Addr} {m : Str → Option Value}, s₁.heap.Ns b m → (hidT s₁.heap H).Ns b m := fun {b m} ⟨o, es, ep, e, d, r⟩ =>
      ⟨o, es, ep, hidT_get e (none_of fun q _ => by subst q; rw [ha] at e; cases e; cases d), d, r⟩
    have kb : K.In (hidT s₁.heap H) := fun b o e => hidT_get (KX b o e) (none_of fun q z => by subst q; rw [z] at e; cases e)
    have M : Mod K mg (hidT s₁.heap H) := ⟨kb, ns_of hns, ⟨mb, ns_of hb, hbb⟩, hlim.imp fun mc z => ⟨ns_of z.1, z.2⟩⟩
    have e0 : Env0 P w K mg (hidT s₁.heap H) callerA [] s₁ H := ⟨rfl, M, fun b o e => of_hidT e, Nat.le_of_eq (hidT_size _ _), trivial, (fun b z => nomatch z), hok, .of_eq hg⟩
    refine codeAny_mono ((F _ kb (ns_of hns)).run callerA [] s₁ H ⟨[.ref a], []⟩ [.ref a] [.ref a] _ _ rfl hr e0 (hbind s₁ (.ref a)) (.cons rfl .nil) (hsp H hO hS)) fun r s' h => ?_
    match r, h with
    | .error e, h => exact h.elim
    | .ok .next, h => exact h.elim
    | .ok .brk, h => exact h.elim
    | .ok .cont, h => exact h.elim
    | .ok (.ret u), ⟨v, H', os, bare, un, hok', r', q⟩ =>
      cases (show v = .bl true from q)
      cases (show u = Value.bool true from r')
      refine ⟨rfl, OldK.of_keep fun b o e => ?_, os, bare⟩
      match z : H b with
      | none => exact un.keep b o e z (fun q => nomatch q) (fun q => nomatch q)
      | some y =>
        rcases hO b with z2 | ⟨ob, xs, z2⟩
        · rw [z] at z2; cases z2
        · have f1 := (hok b _ z2).1
          have f2 := (hok' b _ (un.frzs b ob _ z2)).1
          rw [e] at f1; cases f1
          exact f2
  match hk : K.lookup a with
  | some o =>
    have e := KX a o hk
    rw [ha] at e
    cases e
    exact main (fun _ => none) (fun _ => .inl rfl) (.inr ⟨_, vs.toArray, _, hk, rfl, rfl, rfl, by rw [List.size_toArray, hi.length]; exact hl, by simpa using rv⟩) (fun b u z => (nomatch z)) (fun b u z => (nomatch z))
  | none =>
    have at_a : upd (fun _ => none) a (.frz { cls := .type "list", data := .seq vs.toArray } (.lst (ns.map V.int))) a = some _ := upd_same
    refine main _ (fun b => ?_) (.inl (.inr ⟨_, at_a⟩)) (fun b u z => ?_) fun b u z => ⟨?_, hk⟩
    · by_cases q : b = a
      · subst q; exact .inr ⟨_, _, at_a⟩
      · exact .inl (upd_ne q)
    · by_cases q : b = a
      · subst q; rw [at_a] at z; cases z
        exact ⟨ha, by rw [List.length_map]; exact hl, vs, _, rv, ha⟩
      · rw [upd_ne q] at z; cases z
    · by_cases q : b = a
      · exact q
      · rw [upd_ne q] at z; cases z
theorem walk_ofA {l : PySem.W.OpenLaw} {n k : Nat} {q : Program} {loose : List Str} {XP : (Str → Option Value) → Heap → Prop} {YP : World → Heap → Prop} {d : DefRec} {K : Params → PySem.W.Frag} {sp : World → Sp} {x : Str}
    (hn : l.most = some n) (hn2 : n ≤ sizeLine) (hdf : d.params.defaults = []) (hr : Room k callerA) (hY : ∀ (w : World) (h : Heap), YP w h → (K w.params).In h)
    (F : ∀ (w : World) (mg : Str → Option Value) (fa : Addr) (h : Heap), (K w.params).In h → h.Ns mainGlobals mg → mg d.name = some (.ref fa) →
      ∃ fd : FuncData, (∀ (s : Shared) (u : Value), BindsTo s fd ⟨[u], []⟩ [(x, u)]) ∧ ∀ base : Heap, (K w.params).In base → base.Ns mainGlobals mg → FnA Clean l.prog w (K w.params) mg base CX0 k fa fd [x] (sp w))
    (hsp : ∀ (w : World) (H : Hp) (a : Addr) (ns : List Int), ns.length ≤ n → Only H → SqL (K w.params) H a (ns.map V.int) → sp w [.ref a] H (fun v _ => v = .bl true) fun _ _ _ => False) :
    PySem.W.WalkO q loose XP YP l.row.toRowW d [] (fun f vs => PySem.call f vs) :=
  Att.attach_call hn hdf fun w s₀ s₁ mg mb fa o pm cd doc a vs ns G Y ho hd hcd hmg hobj hints hlen hg => by
    obtain ⟨fd, hb, hF⟩ := F w mg fa _ (hY w _ Y) G.T.g hmg
    exact law_callA (hY w _ Y) G.T.g G.T.b G.T.builtins G.T.nolimit hg hobj hints (Nat.le_trans hlen hn2) hr hF hb fun H hO hS => hsp w H a ns hlen hO hS
end MC

set_option Elab.async false
set_option linter.all false
set_option maxRecDepth 100000
set_option maxHeartbeats 4000000
namespace MC
open PySem PySem.Spec L2
open PyProof.Rows hiding St
open AutoSeq1 (wpAny_loadPart')

/-! ### a list (a tuple) is no dict -/
theorem list_eq_dict (l b : Addr) (items : Array Value) (n n2 : Nat) (dd dd2 : Option Addr) (sl sl2 : Array (Option Value)) (es : Array DictEntry) :
    Meets (Builtin.«list.__eq__» ⟨[.ref l, .ref b], []⟩) (fun _ R s => s.heap.get? l = some { cls := .type "list", dict := dd, data := .seq items n, slots := sl } ∧
      s.heap.get? b = some { cls := .type "dict", dict := dd2, data := .dict es n2, slots := sl2 } ∧ R (.ok (.ret .notImplemented)) s) :=
  .of_wp fun prog w A R s h => by
    obtain ⟨hp, g, d, tk, os⟩ := s
    obtain ⟨hl, hb, h⟩ := h
    have f1 := F.sub_dict_list
    wp_walk using wpAny_loadPart' hl, wpAny_loadPart' hb
    exact ⟨_, rfl, h⟩
theorem tuple_eq_dict (l b : Addr) (items : Array Value) (n n2 : Nat) (dd dd2 : Option Addr) (sl sl2 : Array (Option Value)) (es : Array DictEntry) :
    Meets (Builtin.«tuple.__eq__» ⟨[.ref l, .ref b], []⟩) (fun _ R s => s.heap.get? l = some { cls := .type "tuple", dict := dd, data := .seq items n, slots := sl } ∧
      s.heap.get? b = some { cls := .type "dict", dict := dd2, data := .dict es n2, slots := sl2 } ∧ R (.ok (.ret .notImplemented)) s) :=
  .of_wp fun prog w A R s h => by
    obtain ⟨hp, g, d, tk, os⟩ := s
    obtain ⟨hl, hb, h⟩ := h
    have f1 := F.sub_dict_tuple
    wp_walk using wpAny_loadPart' hl, wpAny_loadPart' hb
    exact ⟨_, rfl, h⟩
theorem dict_eq_list (l b : Addr) (items : Array Value) (n n2 : Nat) (dd dd2 : Option Addr) (sl sl2 : Array (Option Value)) (es : Array DictEntry) (hb0 : (b == sysModules) = false) :
    Meets (Builtin.«dict.__eq__» ⟨[.ref b, .ref l], []⟩) (fun _ R s => s.heap.get? l = some { cls := .type "list", dict := dd, data := .seq items n, slots := sl } ∧
      s.heap.get? b = some { cls := .type "dict", dict := dd2, data := .dict es n2, slots := sl2 } ∧ R (.ok (.ret .notImplemented)) s) :=
  .of_wp fun prog w A R s h => by
    obtain ⟨hp, g, d, tk, os⟩ := s
    obtain ⟨hl, hb, h⟩ := h
    have f1 := F.sub_list_dict
    wp_walk using wpAny_loadPart' hl, wpAny_loadPart' hb
    exact ⟨_, rfl, h⟩
theorem dict_eq_tuple (l b : Addr) (items : Array Value) (n n2 : Nat) (dd dd2 : Option Addr) (sl sl2 : Array (Option Value)) (es : Array DictEntry) (hb0 : (b == sysModules) = false) :
    Meets (Builtin.«dict.__eq__» ⟨[.ref b, .ref l], []⟩) (fun _ R s => s.heap.get? l = some { cls := .type "tuple", dict := dd, data := .seq items n, slots := sl } ∧
      s.heap.get? b = some { cls := .type "dict", dict := dd2, data := .dict es n2, slots := sl2 } ∧ R (.ok (.ret .notImplemented)) s) :=
  .of_wp fun prog w A R s h => by
    obtain ⟨hp, g, d, tk, os⟩ := s
    obtain ⟨hl, hb, h⟩ := h
    have f1 := F.sub_tuple_dict
    wp_walk using wpAny_loadPart' hl, wpAny_loadPart' hb
    exact ⟨_, rfl, h⟩
section
variable {A : Around} {s : Shared}
open PySem.SeqAt
theorem list_dict {l b : Addr} {items : Array Value} {o : Obj} {es : Array DictEntry} {n2 : Nat} (hl : s.heap.IsList l items) (ho2 : s.heap.get? b = some o) (hc2 : o.cls = .type "dict") (hd2 : o.data = .dict es n2) (hb0 : (b == sysModules) = false)
    (hu : A.units < cLine) : EqAt A s (.ref l) (.ref b) false := by
  obtain ⟨⟨cls, dd, data, sl⟩, ho, hc, n, hd⟩ := id hl
  obtain ⟨cls2, dd2, data2, sl2⟩ := o
  simp only at hc hd hc2 hd2
  subst hc hd hc2 hd2
  have hne : l ≠ b := fun e => by
    subst e
    rw [ho] at ho2
    injection ho2 with z
    injection z with z1 _
    injection z1 with z2
    exact absurd z2 (by decide)
  refine EqAt.of_refs hne fun prog w E Q h => ?_
  exact rc_eq_decline_or (k := false) ⟨_, ho, rfl⟩ ⟨_, ho2, rfl⟩ (by decide) F.sub_dict_list F.slot_list_eq F.slot_dict_eq_refl
    (fun _ q => call_meets F.slot_list_eq ⟨_, ho, rfl⟩ F.entry_list_eq (F.args_list_eq_2 _ _) (list_eq_dict l b items n n2 dd dd2 sl sl2 es) ⟨ho, ho2, q⟩)
    (fun _ q => call_meets F.slot_dict_eq_refl ⟨_, ho2, rfl⟩ F.entry_dict_eq (F.args_dict_eq_2 _ _) (dict_eq_list l b items n n2 dd dd2 sl sl2 es hb0) ⟨ho, ho2, q⟩)
    (fun _ q => wpAny_isSame_ref_other hne ho ho2 (by simp) q) (.inr hu) h
theorem tuple_dict {l b : Addr} {items : Array Value} {o : Obj} {es : Array DictEntry} {n2 : Nat} (hl : s.heap.IsTuple l items) (ho2 : s.heap.get? b = some o) (hc2 : o.cls = .type "dict") (hd2 : o.data = .dict es n2) (hb0 : (b == sysModules) = false)
    (hu : A.units < cLine) : EqAt A s (.ref l) (.ref b) false := by
  obtain ⟨⟨cls, dd, data, sl⟩, ho, hc, n, hd⟩ := id hl
  obtain ⟨cls2, dd2, data2, sl2⟩ := o
  simp only at hc hd hc2 hd2
  subst hc hd hc2 hd2
  have hne : l ≠ b := fun e => by
    subst e
    rw [ho] at ho2
    injection ho2 with z
    injection z with z1 _
    injection z1 with z2
    exact absurd z2 (by decide)
  refine EqAt.of_refs hne fun prog w E Q h => ?_
  exact rc_eq_decline_or (k := false) ⟨_, ho, rfl⟩ ⟨_, ho2, rfl⟩ (by decide) F.sub_dict_tuple F.slot_tuple_eq F.slot_dict_eq_refl
    (fun _ q => call_meets F.slot_tuple_eq ⟨_, ho, rfl⟩ F.entry_tuple_eq (F.args_tuple_eq_2 _ _) (tuple_eq_dict l b items n n2 dd dd2 sl sl2 es) ⟨ho, ho2, q⟩)
    (fun _ q => call_meets F.slot_dict_eq_refl ⟨_, ho2, rfl⟩ F.entry_dict_eq (F.args_dict_eq_2 _ _) (dict_eq_tuple l b items n n2 dd dd2 sl sl2 es hb0) ⟨ho, ho2, q⟩)
    (fun _ q => wpAny_isSame_ref_other' hne ho ho2 (by simp) q) (.inr hu) h

/-! ### with the empty list, the empty tuple -/
theorem lists_nil {l b : Addr} {items : Array Value} (hl : s.heap.IsList l items) (hb : s.heap.IsList b #[]) (hu : A.units < cLine) : RcAt A s (.ref l) (.ref b) items.isEmpty := by
  by_cases e : items.size = 0
  · have q := RcAt.lists (e := fun _ => true) hl hb e hu (fun j h1 _ => by omega)
    rw [e] at q
    have z : items.isEmpty = true := by simpa using e
    rw [z]
    exact q
  · have z : items.isEmpty = false := by simpa using e
    rw [z]
    exact RcAt.lists_lengths hl hb (by simpa using e) hu
theorem ne_lists_nil {l b : Addr} {items : Array Value} (hl : s.heap.IsList l items) (hb : s.heap.IsList b #[]) (hu : A.units < cLine) : RcNeAt A s (.ref l) (.ref b) (!items.isEmpty) := by
  by_cases e : items.size = 0
  · have q := RcNeAt.lists (e := fun _ => true) hl hb e hu (fun j h1 _ => by omega)
    rw [e] at q
    have z : items.isEmpty = true := by simpa using e
    rw [z]
    exact q
  · have z : items.isEmpty = false := by simpa using e
    rw [z]
    exact RcNeAt.lists_lengths hl hb (by simpa using e) hu
theorem nil_lists {l b : Addr} {items : Array Value} (hl : s.heap.IsList l items) (hb : s.heap.IsList b #[]) (hu : A.units < cLine) : EqAt A s (.ref b) (.ref l) items.isEmpty := by
  by_cases hne : b = l
  · subst hne
    obtain ⟨o, h1, h2, n, h3⟩ := hl
    obtain ⟨o', k1, k2, n', k3⟩ := hb
    rw [h1] at k1; cases k1
    rw [h3] at k3; cases k3
    exact EqAt.same _
  · refine EqAt.of_refs hne ?_
    by_cases e : items.size = 0
    · have q := RcAt.lists (e := fun _ => true) hb hl e.symm hu (fun j h1 _ => by simp at h1)
      have z : items.isEmpty = true := by simpa using e
      rw [z]
      exact q
    · have z : items.isEmpty = false := by simpa using e
      rw [z]
      exact RcAt.lists_lengths hb hl (by simpa using Ne.symm e) hu
theorem nil_tuples {l b : Addr} {items : Array Value} (hl : s.heap.IsTuple l items) (hb : s.heap.IsTuple b #[]) (hu : A.units < cLine) : EqAt A s (.ref b) (.ref l) items.isEmpty := by
  by_cases hne : b = l
  · subst hne
    obtain ⟨o, h1, h2, n, h3⟩ := hl
    obtain ⟨o', k1, k2, n', k3⟩ := hb
    rw [h1] at k1; cases k1
    rw [h3] at k3; cases k3
    exact EqAt.same _
  · refine EqAt.of_refs hne ?_
    have q := RcAt.tuples (e := fun _ => true) hb hl hu (fun j h1 _ => by simp at h1)
    have z : ((List.range (min (#[] : Array Value).size items.size)).all (fun _ => true) && (#[] : Array Value).size == items.size) = items.isEmpty := by
      by_cases e : items.size = 0
      · have z : items.isEmpty = true := by simpa using e
        rw [z, e]; rfl
      · have z : items.isEmpty = false := by simpa using e
        rw [z, Bool.and_eq_false_iff]
        exact .inr (by simpa using Ne.symm e)
    rw [z] at q
    exact q
end

section
variable {X : Cx}
theorem isEmpty_vals {xs : List V} {us : List Value} (r : Vals xs us) : us.toArray.isEmpty = xs.isEmpty := by
  cases r <;> rfl
theorem vals_nil {us : List Value} (r : Vals [] us) : us = [] := by cases r; rfl
def rEqNil (K : PySem.W.Frag) : R2 := fun x y H Q => ∃ a b xs, x = .ref a ∧ y = .ref b ∧ SqL K H a xs ∧ H b = some (.lst []) ∧ Q (.bl xs.isEmpty) H
def rNeNil (K : PySem.W.Frag) : R2 := fun x y H Q => ∃ a b xs, x = .ref a ∧ y = .ref b ∧ SqL K H a xs ∧ H b = some (.lst []) ∧ Q (.bl (!xs.isEmpty)) H
theorem op_eqNil (hu : X.A.units < cLine) : OpR X (compareOp .Eq) (rEqNil X.K) := by
  intro pins s σ H x y v u Q I rx ry h
  obtain ⟨a, b, xs, rfl, rfl, ha, hb, q⟩ := h
  cases rx; cases ry
  obtain ⟨its, r, p, _⟩ := I.list ha
  obtain ⟨its2, r2, p2, _⟩ := I.list (SqL.of hb)
  cases vals_nil r2
  refine lists_nil p.isList p2.isList hu _ _ _ _ ⟨.bl _, H, I, rfl, ?_⟩
  rw [isEmpty_vals r]
  exact q
theorem op_neNil (hu : X.A.units < cLine) : OpR X (compareOp .NotEq) (rNeNil X.K) := by
  intro pins s σ H x y v u Q I rx ry h
  obtain ⟨a, b, xs, rfl, rfl, ha, hb, q⟩ := h
  cases rx; cases ry
  obtain ⟨its, r, p, _⟩ := I.list ha
  obtain ⟨its2, r2, p2, _⟩ := I.list (SqL.of hb)
  cases vals_nil r2
  refine ne_lists_nil p.isList p2.isList hu _ _ _ _ ⟨.bl _, H, I, rfl, ?_⟩
  rw [isEmpty_vals r]
  exact q

def emptyL : PyData → Bool
  | .list xs => xs.isEmpty
  | _ => false
def emptyT : PyData → Bool
  | .tuple xs => xs.isEmpty
  | _ => false
theorem isEmpty_reads {h : Heap} {us : Array Value} {ds : List PyData} {as : List Addr} (r : ReadsAll h us.toList ds as) : us.isEmpty = ds.isEmpty := by
  have q := SeqAt.ReadsAll.length _ _ _ r
  cases ds with
  | nil => simpa using q
  | cons d ds =>
    simp only [List.length_cons, Array.length_toList] at q
    simp only [List.isEmpty_cons]
    cases e : us.isEmpty with
    | false => rfl
    | true =>
      have : us.size = 0 := by simpa using e
      omega
section
open PySem.SeqAt
variable {A : Around} {s : Shared}
theorem eqAt_nilL {v : Value} {d : PyData} {as : List Addr} {b : Addr} (rd : Reads s.heap v d as) (hn : d.hasDict = true → sysModules ∉ as) (hb : s.heap.IsList b #[]) (hu : A.units < cLine) : EqAt A s (.ref b) v (emptyL d) := by
  cases rd with
  | none => exact EqAt.list_none hb hu
  | bool b => exact EqAt.list_bool _ hb hu
  | int i t => exact EqAt.list_int _ _ hb hu
  | str x t => exact EqAt.list_str _ _ hb hu
  | list h1 h2 h3 h4 =>
    have q := nil_lists ⟨_, h1, h2, _, h3⟩ hb hu
    rw [isEmpty_reads h4] at q
    exact q
  | tuple h1 h2 h3 h4 => exact EqAt.list_tuple hb ⟨_, h1, h2, _, h3⟩ hu
  | dict h1 h2 h3 h4 h5 =>
    refine list_dict hb h1 h2 h3 (beq_eq_false_iff_ne.mpr fun e => ?_) hu
    exact hn (by simp only [PyData.hasDict]) (by rw [e]; simp)
theorem eqAt_nilT {v : Value} {d : PyData} {as : List Addr} {b : Addr} (rd : Reads s.heap v d as) (hn : d.hasDict = true → sysModules ∉ as) (hb : s.heap.IsTuple b #[]) (hu : A.units < cLine) : EqAt A s (.ref b) v (emptyT d) := by
  cases rd with
  | none => exact EqAt.tuple_none hb hu
  | bool b => exact EqAt.tuple_bool _ hb hu
  | int i t => exact EqAt.tuple_int _ _ hb hu
  | str x t => exact EqAt.tuple_str _ _ hb hu
  | tuple h1 h2 h3 h4 =>
    have q := nil_tuples ⟨_, h1, h2, _, h3⟩ hb hu
    rw [isEmpty_reads h4] at q
    exact q
  | list h1 h2 h3 h4 => exact EqAt.tuple_list hb ⟨_, h1, h2, _, h3⟩ hu
  | dict h1 h2 h3 h4 h5 =>
    refine tuple_dict hb h1 h2 h3 (beq_eq_false_iff_ne.mpr fun e => ?_) hu
    exact hn (by simp only [PyData.hasDict]) (by rw [e]; simp)
end
/-- x not in [[], ()] -/
def rNotInE : R2 := fun x y H Q => ∃ d b p q, y = .ref b ∧ H b = some (.lst [.ref p, .ref q]) ∧ H p = some (.lst []) ∧ H q = some (.tup []) ∧ DD H x d ∧ Q (.bl (!(emptyL d || emptyT d))) H
theorem op_notInE (hu : X.A.units + 1 < cLine) (hn : NoSys X) : OpR X (compareOp .NotIn) rNotInE := by
  intro pins s σ H x y v u Q I rx ry h
  obtain ⟨d, b, p, q, rfl, hb, hp, hq, hd, k⟩ := h
  cases ry
  obtain ⟨as, rd, nb⟩ := DD.reads I d x v hd rx
  obtain ⟨o, ho⟩ := hn
  have hs : d.hasDict = true → sysModules ∉ as := fun _ hm => nb _ hm (I.bs _ _ (I.ok.mod.kin _ _ ho)).2
  obtain ⟨its, r, pl, _⟩ := I.list (SqL.of hb)
  obtain ⟨i1, r1, p1, _⟩ := I.list (SqL.of hp)
  obtain ⟨i2, r2, p2, _⟩ := I.tuple (SqT.of hq)
  cases vals_nil r1; cases vals_nil r2
  cases r with
  | cons e1 r =>
    cases r with
    | cons e2 r =>
      cases r
      cases e1; cases e2
      have npq : p ≠ q := ne_of hp hq (fun z => nomatch z)
      refine SeqAt.notIn_listAt (fun y => if y = .ref p then emptyL d else emptyT d) pl.isList (fun y hy => ?_) ⟨.bl _, H, I, rfl, ?_⟩
      · have hy' : y = .ref p ∨ y = .ref q := by simpa using hy
        rcases hy' with rfl | rfl
        · rw [if_pos rfl]
          exact eqAt_nilL rd hs p1.isList (by show X.A.units + 1 < cLine; exact hu)
        · rw [if_neg (fun z => npq (by injection z with z; exact z.symm))]
          exact eqAt_nilT rd hs p2 (by show X.A.units + 1 < cLine; exact hu)
      · have e : (#[Value.ref p, Value.ref q].any fun y => if y = .ref p then emptyL d else emptyT d) = (emptyL d || emptyT d) := by
          rw [← Array.any_toList]
          show ((if Value.ref p = Value.ref p then emptyL d else emptyT d) || ((if Value.ref q = Value.ref p then emptyL d else emptyT d) || false)) = _
          rw [if_pos rfl, if_neg (fun z => npq (by injection z with z; exact z.symm)), Bool.or_false]
        have e' : ([Value.ref p, Value.ref q].toArray.any fun y => if y = .ref p then emptyL d else emptyT d) = (emptyL d || emptyT d) := e
        rw [e']
        exact k
end
end MC

set_option Elab.async false
set_option linter.all false
set_option maxRecDepth 100000
set_option maxHeartbeats 4000000
namespace MC
open PySem PySem.Spec L2
open PyProof.Rows hiding St

/-! ### what is a list or a tuple, walked -/
def SqX (H : Hp) (a : Addr) (xs : List V) : Prop := H a = some (.lst xs) ∨ H a = some (.tup xs)
theorem SqX.mono {H H' : Hp} {a : Addr} {xs : List V} (e : Same H H') (h : SqX H a xs) : SqX H' a xs := h.imp (e _ _) (e _ _)
theorem SqX.inj {H : Hp} {a : Addr} {xs ys : List V} (h : SqX H a xs) (k : SqX H a ys) : xs = ys := by
  rcases h with h | h <;> rcases k with k | k <;> rw [h] at k <;> cases k <;> rfl
def iSeq (K : PySem.W.Frag) (tl : TE) : TI := fun σ H R => tl σ H fun x H1 => ∃ a, x = .ref a ∧ (((∃ xs, H1 a = some (.lst xs)) ∧ R (Itl K a) H1) ∨ ((∃ xs, H1 a = some (.tup xs)) ∧ R (Itt K a) H1))
theorem pi_seq {X : Cx} {tg l : Expr} {tl : TE} (hl : PE X l tl) : PI X tg l (iSeq X.K tl) := by
  constructor
  intro pins s σ H R I h
  refine thn (hl.run pins s σ H _ I h) fun v s1 ⟨x, H1, I1, r1, q1⟩ => ?_
  obtain ⟨a, rfl, q⟩ := q1
  cases r1
  have kept : ∀ (o : Obj), L2.Inv X pins σ H1 { s1 with heap := s1.heap.push o } := fun o => I1.kept (t' := s1.toks) fun b u e => Heap.get?_push_of_some _ e
  have fp : ∀ b ∈ [s1.heap.objs.size], FpOk X pins H1 b := fun b hb => by
    rw [List.mem_singleton.mp hb]
    exact I1.fpOk (Nat.le_refl _) (I1.hok.fresh (Nat.le_refl _))
  rcases q with ⟨⟨xs, hq⟩, q⟩ | ⟨⟨xs, hq⟩, q⟩
  · obtain ⟨its, rv, p, hz⟩ := I1.list (SqL.of hq)
    exact wpAny_pyIter_list p.isList ⟨_, _, _, _, H1, rfl, kept _, turn_list a _, ⟨_, Heap.get?_push_size _ rfl, rfl, rfl⟩, fp, q⟩
  · obtain ⟨its, rv, p, hz⟩ := I1.tuple (SqT.of hq)
    exact wpAny_pyIter_tuple (show s1.heap.IsTuple a its.toArray from p) ⟨_, _, _, _, H1, rfl, kept _, turn_tuple a _, ⟨_, Heap.get?_push_size _ rfl, rfl, rfl⟩, fp, q⟩
/-- the reading of a for over it -/
theorem for_seq {K : PySem.W.Frag} {a : Addr} {xs : List V} {g : TG} {tb : TS} {D : Ends} {σ : St} {H : Hp} (h : SqX H a xs) (Pv : Nat → St → Hp → Prop) (h0 : Pv 0 σ H) (hl : ∀ i σ' H', i ≤ xs.length → Pv i σ' H' → H' a = H a)
    (hs : ∀ i x σ H, xs[i]? = some x → Pv i σ H → g x σ H fun σ2 H2 => tb { D with nx := Pv (i + 1), ct := Pv (i + 1), bk := D.nx } σ2 H2) (hd : ∀ σ H, Pv xs.length σ H → D.nx σ H) :
    ∃ b, V.ref a = .ref b ∧ (((∃ ys, H b = some (.lst ys)) ∧ ∃ W : Nat → Nat → St → Hp → Prop, (∃ m, W 0 m σ H) ∧ ∀ i m σ H, W i m σ H →
        ((Itl K b).stop i H ∧ D.nx σ H) ∨ ((Itl K b).go i H ∧ ∃ N : St → Hp → Prop, (∀ σ' H', N σ' H' → ∃ m', m' < m ∧ W (i + 1) m' σ' H') ∧ ∀ x H', (Itl K b).yld i H x H' → g x σ H' fun σ2 H2 => tb { D with nx := N, ct := N, bk := D.nx } σ2 H2)) ∨
      ((∃ ys, H b = some (.tup ys)) ∧ ∃ W : Nat → Nat → St → Hp → Prop, (∃ m, W 0 m σ H) ∧ ∀ i m σ H, W i m σ H →
        ((Itt K b).stop i H ∧ D.nx σ H) ∨ ((Itt K b).go i H ∧ ∃ N : St → Hp → Prop, (∀ σ' H', N σ' H' → ∃ m', m' < m ∧ W (i + 1) m' σ' H') ∧ ∀ x H', (Itt K b).yld i H x H' → g x σ H' fun σ2 H2 => tb { D with nx := N, ct := N, bk := D.nx } σ2 H2))) := by
  refine ⟨a, rfl, ?_⟩
  rcases h with h | h
  · exact .inl ⟨⟨xs, h⟩, for_list (K := K) (a := a) (xs := xs) Pv h0 (fun i σ' H' hi p => SqL.of ((hl i σ' H' hi p).trans h)) hs hd⟩
  · exact .inr ⟨⟨xs, h⟩, for_tup (K := K) (a := a) (xs := xs) Pv h0 (fun i σ' H' hi p => SqT.of ((hl i σ' H' hi p).trans h)) hs hd⟩
/-- the reading of a comprehension over it -/
theorem lc_seq {K : PySem.W.Frag} {a : Addr} {xs : List V} {g : TG} {tt : TT} {te : TE} {vs : List Nat} {σ : St} {H : Hp} {Q : VK} (h : SqX H a xs) (Pv : Addr → Nat → Hp → Prop) (h0 : ∀ D, H D = none → Pv D 0 (upd H D (.lst [])))
    (hl : ∀ D i H', H D = none → i ≤ xs.length → Pv D i H' → H' a = H a)
    (hs : ∀ D i x H', H D = none → xs[i]? = some x → Pv D i H' → g x (wipe σ vs) H' fun σ2 H2 => wipe σ2 vs = wipe σ vs ∧ tt σ2 H2 fun b H3 =>
      if b = true then te σ2 H3 fun y H4 => ∃ acc, H4 D = some (.lst acc) ∧ acc.length < sizeLine ∧ Pv D (i + 1) (upd H4 D (.lst (acc ++ [y]))) else Pv D (i + 1) H3) (hd : ∀ D H', H D = none → Pv D xs.length H' → Q (.ref D) H') :
    ∃ b, V.ref a = .ref b ∧ (((∃ ys, H b = some (.lst ys)) ∧ ∀ D, H D = none → ∃ W : Nat → Nat → Hp → Prop, (∃ m, W 0 m (upd H D (.lst []))) ∧ ∀ i m H, W i m H →
        ((Itl K b).stop i H ∧ Q (.ref D) H) ∨ ((Itl K b).go i H ∧ ∃ Nx : Hp → Prop, (∀ H', Nx H' → ∃ m', m' < m ∧ W (i + 1) m' H') ∧ ∀ x H', (Itl K b).yld i H x H' → g x (wipe σ vs) H' fun σ2 H2 => wipe σ2 vs = wipe σ vs ∧ tt σ2 H2 fun b H3 =>
          if b = true then te σ2 H3 fun y H4 => ∃ acc, H4 D = some (.lst acc) ∧ acc.length < sizeLine ∧ Nx (upd H4 D (.lst (acc ++ [y]))) else Nx H3)) ∨
      ((∃ ys, H b = some (.tup ys)) ∧ ∀ D, H D = none → ∃ W : Nat → Nat → Hp → Prop, (∃ m, W 0 m (upd H D (.lst []))) ∧ ∀ i m H, W i m H →
        ((Itt K b).stop i H ∧ Q (.ref D) H) ∨ ((Itt K b).go i H ∧ ∃ Nx : Hp → Prop, (∀ H', Nx H' → ∃ m', m' < m ∧ W (i + 1) m' H') ∧ ∀ x H', (Itt K b).yld i H x H' → g x (wipe σ vs) H' fun σ2 H2 => wipe σ2 vs = wipe σ vs ∧ tt σ2 H2 fun b H3 =>
          if b = true then te σ2 H3 fun y H4 => ∃ acc, H4 D = some (.lst acc) ∧ acc.length < sizeLine ∧ Nx (upd H4 D (.lst (acc ++ [y]))) else Nx H3))) := by
  refine ⟨a, rfl, ?_⟩
  rcases h with h | h
  · exact .inl ⟨⟨xs, h⟩, fun D hD => lc_list (K := K) (a := a) (xs := xs) (Pv D) (h0 D hD) (fun i H' hi p => SqL.of ((hl D i H' hD hi p).trans h)) (fun i x H' e p => hs D i x H' hD e p) fun H' p => hd D H' hD p⟩
  · exact .inr ⟨⟨xs, h⟩, fun D hD => lc_tup (K := K) (a := a) (xs := xs) (Pv D) (h0 D hD) (fun i H' hi p => SqT.of ((hl D i H' hD hi p).trans h)) (fun i x H' e p => hs D i x H' hD e p) fun H' p => hd D H' hD p⟩
/-- the reading of a comprehension over a text -/
theorem lc_str {z : Str} {g : TG} {tt : TT} {te : TE} {vs : List Nat} {σ : St} {H1 : Hp} {D : Addr} {Qd : Hp → Prop} (Pv : Nat → Hp → Prop) (h0 : Pv 0 (upd H1 D (.lst [])))
    (hs : ∀ i c H, z.cps[i]? = some c → Pv i H → g (.str ⟨#[c]⟩) (wipe σ vs) H fun σ2 H2 => wipe σ2 vs = wipe σ vs ∧ tt σ2 H2 fun b H3 =>
      if b = true then te σ2 H3 fun y H4 => ∃ acc, H4 D = some (.lst acc) ∧ acc.length < sizeLine ∧ Pv (i + 1) (upd H4 D (.lst (acc ++ [y]))) else Pv (i + 1) H3) (hd : ∀ H, Pv z.cps.size H → Qd H) :
    ∃ W : Nat → Nat → Hp → Prop, (∃ m, W 0 m (upd H1 D (.lst []))) ∧ ∀ i m H, W i m H →
      ((Its z).stop i H ∧ Qd H) ∨ ((Its z).go i H ∧ ∃ Nx : Hp → Prop, (∀ H', Nx H' → ∃ m', m' < m ∧ W (i + 1) m' H') ∧ ∀ x H', (Its z).yld i H x H' → g x (wipe σ vs) H' fun σ2 H2 => wipe σ2 vs = wipe σ vs ∧ tt σ2 H2 fun b H3 =>
        if b = true then te σ2 H3 fun y H4 => ∃ acc, H4 D = some (.lst acc) ∧ acc.length < sizeLine ∧ Nx (upd H4 D (.lst (acc ++ [y]))) else Nx H3) := by
  refine ⟨fun i m H => m = z.cps.size - i ∧ i ≤ z.cps.size ∧ Pv i H, ⟨_, rfl, Nat.zero_le _, h0⟩, ?_⟩
  rintro i m H ⟨rfl, hi, p⟩
  by_cases lt : i < z.cps.size
  · refine .inr ⟨lt, Pv (i + 1), fun H' p' => ⟨z.cps.size - (i + 1), by omega, rfl, lt, p'⟩, ?_⟩
    rintro x H' ⟨rfl, c, e, rfl⟩
    exact hs i c _ e p
  · have e : i = z.cps.size := by omega
    subst e
    exact .inl ⟨Nat.le_refl _, hd H p⟩
end MC

set_option Elab.async false
set_option linter.all false
set_option maxRecDepth 100000
set_option maxHeartbeats 4000000
namespace MC
open PySem PySem.Spec L2
open PyProof.Rows hiding St

/-! ### isinstance of data -/
def tyD : PyData → String
  | .none => "NoneType"
  | .bool _ => "bool"
  | .int _ => "int"
  | .str _ => "str"
  | .list _ => "list"
  | .tuple _ => "tuple"
  | .dict _ => "dict"
theorem ty_of {K : PySem.W.Frag} {H : Hp} {x : V} {d : PyData} (h : DD H x d) : TyX K H x (.type (tyD d)) := by
  cases h with
  | non => exact .base .non
  | bl b => exact .base (.bl b)
  | int i => exact .base (.int i)
  | str z => exact .base (.str z)
  | lst h _ => exact .base (.lst h)
  | tup h _ => exact .base (.tup h)
  | dct0 h => exact .base (.dK h)
def dStr : PyData → Bool | .str _ => true | _ => false
def dInt : PyData → Bool | .int _ => true | .bool _ => true | _ => false
def dBool : PyData → Bool | .bool _ => true | _ => false
def dLst : PyData → Bool | .list _ => true | _ => false
def dTup : PyData → Bool | .tuple _ => true | _ => false
def dSeq : PyData → Bool | .list _ => true | .tuple _ => true | _ => false
def dDct : PyData → Bool | .dict _ => true | _ => false
def isT (b a : String) : Bool := (a == b) || (b == "int" && a == "bool")
theorem kb : ∀ a ∈ ["NoneType", "bool", "int", "str", "list", "tuple", "dict"], ∀ b ∈ ["str", "int", "bool", "list", "tuple", "dict"], kitB a b = some (isT b a) := by decide +kernel
theorem tyD_mem (d : PyData) : tyD d ∈ ["NoneType", "bool", "int", "str", "list", "tuple", "dict"] := by cases d <;> simp [tyD]
section
variable {K : PySem.W.Frag} {H : Hp} {x : V} {d : PyData} {Q : VK}
theorem kb_at (b : String) (hb : b ∈ ["str", "int", "bool", "list", "tuple", "dict"]) : PySem.W.kitOne K (.type (tyD d)) (.type b) = some (isT b (tyD d)) := kit_ty (kb _ (tyD_mem d) b hb)
theorem kI_str : PySem.W.kitOne K (.type (tyD d)) (.type "str") = some (dStr d) := (kb_at _ (by simp)).trans (by cases d <;> simp [isT, tyD, dStr])
theorem kI_int : PySem.W.kitOne K (.type (tyD d)) (.type "int") = some (dInt d) := (kb_at _ (by simp)).trans (by cases d <;> simp [isT, tyD, dInt])
theorem kI_bool : PySem.W.kitOne K (.type (tyD d)) (.type "bool") = some (dBool d) := (kb_at _ (by simp)).trans (by cases d <;> simp [isT, tyD, dBool])
theorem kI_list : PySem.W.kitOne K (.type (tyD d)) (.type "list") = some (dLst d) := (kb_at _ (by simp)).trans (by cases d <;> simp [isT, tyD, dLst])
theorem kI_tuple : PySem.W.kitOne K (.type (tyD d)) (.type "tuple") = some (dTup d) := (kb_at _ (by simp)).trans (by cases d <;> simp [isT, tyD, dTup])
theorem kI_dict : PySem.W.kitOne K (.type (tyD d)) (.type "dict") = some (dDct d) := (kb_at _ (by simp)).trans (by cases d <;> simp [isT, tyD, dDct])
theorem kit_seq : PySem.W.kitAny K (.type (tyD d)) [.type "list", .type "tuple"] = some (dSeq d) := by
  have h1 := kb_at (K := K) (d := d) "list" (by simp)
  have h2 := kb_at (K := K) (d := d) "tuple" (by simp)
  refine kitAny_cons h1 (fun e => kitAny_cons h2 (fun e2 => ?_) fun e2 => ?_) fun e => ?_
  · rw [show dSeq d = false from by cases d <;> simp [isT, tyD, dSeq] at e e2 ⊢]
    rfl
  · cases d <;> simp [isT, tyD, dSeq] at e e2 ⊢
  · cases d <;> simp [isT, tyD, dSeq] at e ⊢
theorem cl_seq : Paired ClsV [.ty "list", .ty "tuple"] [.type "list", .type "tuple"] := .cons (.ty _) (.cons (.ty _) .nil)
end

/-! ### list(text) -/
def signV (z : Str) : List V := z.cps.toList.map fun c => .str ⟨#[c]⟩
def rListText : List V → Hp → VK → Prop := fun xs H Q => ∃ z, xs = [.str z] ∧ z.length ≤ sizeLine ∧ ∀ p, H p = none → Q (.ref p) (upd H p (.lst (signV z)))
theorem call_list_text {X : Cx} (hc : X.calm = true) : CallR X (.type "list") rListText := by
  intro pins s σ H xs us Q I r h
  obtain ⟨z, rfl, hz, q⟩ := h
  obtain ⟨u, rfl, t, rfl⟩ := vals1 r
  refine call_list_str (I.ok.hd hc) z t (hn := hz) fun h' tk acc c' hk hS hacc => ?_
  have sz : acc.toList.length = z.cps.size := by rw [Array.length_toList]; exact hacc.1
  refine ⟨.ref s.heap.objs.size, _, I.laid (a := s.heap.objs.size) (o := .lst (signV z)) (h' := h') (t' := tk) hk (Nat.le_refl _) ⟨?_, acc.toList, c', ?_, by simpa using hS⟩, rfl, q _ (I.hok.fresh (Nat.le_refl _))⟩
  · show (z.cps.toList.map _).length ≤ sizeLine
    rw [List.length_map, Array.length_toList]
    exact hz
  · have main : ∀ (cs : List Nat) (vs : List Value), vs.length = cs.length → (∀ (j : Nat) v, vs[j]? = some v → ∃ c u, cs[j]? = some c ∧ v = Value.str ⟨#[c]⟩ u) → Vals (cs.map fun c => V.str ⟨#[c]⟩) vs := by
      intro cs
      induction cs with
      | nil => intro vs hl _; cases vs with
        | nil => exact .nil
        | cons _ _ => simp at hl
      | cons c cs ih => intro vs hl hv; cases vs with
        | nil => simp at hl
        | cons v vs =>
          obtain ⟨c', u, e1, e2⟩ := hv 0 v rfl
          simp at e1; subst e1; subst e2
          exact .cons ⟨u, rfl⟩ (ih vs (by simpa using hl) fun j w e => hv (j + 1) w (by simpa using e))
    refine main z.cps.toList acc.toList (by rw [sz]; simp) fun j v e => ?_
    obtain ⟨c, u, hc, rfl⟩ := hacc.2 j v (by simpa using e)
    exact ⟨c, u, by simpa using hc, rfl⟩

/-! ### the rules with the written part told (within a comprehension's block, too) -/
section
variable {X : Cx} {K : PySem.W.Frag} (hK : X.K = K)
include hK
theorem k_ix_list : IxR X (rIxL K) := by subst hK; exact ix_list
theorem k_ix_tup : IxR X (rIxT K) := by subst hK; exact ix_tup
theorem k_ix_seq : IxR X (rIx K) := by subst hK; exact ix_seq
theorem k_sl_list : SlR X (rSlL K) := by subst hK; exact sl_list
def rLenQ (K : PySem.W.Frag) : List V → Hp → VK → Prop := fun xs H Q => ∃ p ys, xs = [.ref p] ∧ (SqL K H p ys ∨ SqT K H p ys) ∧ Q (.int ys.length) H
omit hK in
def rLenZ : List V → Hp → VK → Prop := fun xs H Q => ∃ z, xs = [.str z] ∧ z.length ≤ sizeLine ∧ Q (.int z.length) H
theorem k_len_seq : CallR X (.builtin "len") (rLenQ K) := by subst hK; exact call_len_seq
theorem k_len_str : CallR X (.builtin "len") rLenZ := call_len_str
def rListOf (K : PySem.W.Frag) : List V → Hp → VK → Prop := fun xs H Q => ∃ p ys, xs = [.ref p] ∧ (SqL K H p ys ∨ SqT K H p ys) ∧ ∀ l, H l = none → Q (.ref l) (upd H l (.lst ys))
theorem k_list_of : CallR X (.type "list") (rListOf K) := by subst hK; exact call_list_of
def rTupleOf (K : PySem.W.Frag) : List V → Hp → VK → Prop := fun xs H Q => ∃ p ys, xs = [.ref p] ∧ ((SqL K H p ys ∧ ∀ l, H l = none → Q (.ref l) (upd H l (.tup ys))) ∨ (SqT K H p ys ∧ Q (.ref p) H))
theorem k_tuple_of : CallR X (.type "tuple") (rTupleOf K) := by subst hK; exact call_tuple_of
theorem k_isi : CallR X (.builtin "isinstance") (rIsi K) := by subst hK; exact call_isi
theorem k_isiT : CallR X (.builtin "isinstance") (rIsiT K) := by subst hK; exact call_isiT
theorem k_all (hc : X.calm = true) : CallR X (.builtin "all") (rAll K) := by subst hK; exact cr_all hc
theorem k_any (hc : X.calm = true) : CallR X (.builtin "any") (rAny K) := by subst hK; exact cr_any hc
theorem k_sum (hc : X.calm = true) : CallR X (.builtin "sum") (rSum K) := by subst hK; exact cr_sum hc
theorem k_max (hc : X.calm = true) : CallR X (.builtin "max") (rMax K) := by subst hK; exact cr_max hc
theorem k_min (hc : X.calm = true) : CallR X (.builtin "min") (rMin K) := by subst hK; exact cr_min hc
theorem k_eqNil (hu : X.A.units < cLine) : OpR X (compareOp .Eq) (rEqNil K) := by subst hK; exact op_eqNil hu
theorem k_neNil (hu : X.A.units < cLine) : OpR X (compareOp .NotEq) (rNeNil K) := by subst hK; exact op_neNil hu
theorem k_in_seq : OpR X (compareOp .In) (rIn K false) := by subst hK; exact op_in_seq
theorem k_notIn_seq : OpR X (compareOp .NotIn) (rIn K true) := by subst hK; exact op_notIn_seq
theorem k_list {tg l : Expr} {tl : TE} (hl : PE X l tl) : PI X tg l (iList K tl) := by subst hK; exact pi_list hl
theorem k_seq {tg l : Expr} {tl : TE} (hl : PE X l tl) : PI X tg l (iSeq K tl) := by subst hK; exact pi_seq hl
theorem k_bm {T : String} {r : V → List V → Hp → VK → Prop} {e : Expr} {to : TE} {t : TA} (h : PE X e (tBM X.K T r to t)) : PE X e (tBM K T r to t) := by subst hK; exact h
theorem k_bm0 {T : String} {r : V → List V → Hp → VK → Prop} {e : Expr} {to : TE} (h : PE X e (tBM0 X.K T r to)) : PE X e (tBM0 K T r to) := by subst hK; exact h
end
end MC

set_option Elab.async false
set_option linter.all false
set_option maxRecDepth 100000
set_option maxHeartbeats 4000000
/-! MD: rows as data: what a thing is, what a row is, sizes. -/
namespace MC
open PySem PySem.Spec L2
open PyProof.Rows hiding St

def isSign (c : Nat) : Bool := decide (97 ≤ c) && decide (c ≤ 122)
def isThingS (z : Str) : Bool := decide (1 ≤ z.length) && decide (z.length ≤ 8) && z.cps.toList.all isSign
def thingD : PyData → Bool
  | .str z => isThingS z
  | _ => false
def wholeD : PyData → Bool
  | .int _ => true
  | _ => false
def timesOk (t : Int) : Bool := decide (1 ≤ t) && decide (t ≤ 1000000000000000000000000000000)
def dNil : PyData → Bool
  | .list [] => true
  | .tuple [] => true
  | _ => false
mutual
def rowD : PyData → Bool
  | .list xs => partsD xs
  | .tuple xs => partsD xs
  | _ => false
def partD : PyData → Bool
  | .str z => isThingS z
  | .tuple [r, .int t] => timesOk t && !dNil r && rowD r
  | _ => false
def partsD : List PyData → Bool
  | [] => true
  | x :: xs => partD x && partsD xs
end
/-- looks like an again, but for what its row is made of -/
def againD : PyData → Bool
  | .tuple [r, .int t] => dSeq r && !dNil r && timesOk t
  | _ => false
def innerD : PyData → PyData
  | .tuple [r, _] => r
  | d => d
theorem rowD_seq {d : PyData} (h : dSeq d = false) : rowD d = false := by
  cases d <;> first | rfl | cases h
theorem partD_eq (d : PyData) : partD d = (if againD d then rowD (innerD d) else thingD d) := by
  unfold partD
  split
  · rename_i z
    rfl
  · rename_i r t
    have e : againD (.tuple [r, .int t]) = (dSeq r && !dNil r && timesOk t) := rfl
    rw [e]
    show (timesOk t && !dNil r && rowD r) = if (dSeq r && !dNil r && timesOk t) = true then rowD r else false
    by_cases h : dSeq r = true
    · rw [h]; cases timesOk t <;> cases dNil r <;> simp
    · have h : dSeq r = false := by simpa using h
      rw [rowD_seq h, h]; simp
  · rename_i h1 h2
    have : againD d = false := by
      unfold againD
      split
      · exact absurd rfl (h2 _ _)
      · rfl
    rw [this]
    cases d <;> first | rfl | exact absurd rfl (h1 _)
theorem partsD_eq (xs : List PyData) : partsD xs = xs.all partD := by
  induction xs with
  | nil => rfl
  | cons x xs ih => simp only [partsD, List.all_cons, ih]

def elemsD : PyData → List PyData
  | .list xs => xs
  | .tuple xs => xs
  | _ => []
theorem DD.seq {H : Hp} {x : V} {d : PyData} (h : DD H x d) (k : dSeq d = true) : ∃ a xs, x = .ref a ∧ SqX H a xs ∧ DDs H xs (elemsD d) := by
  cases h with
  | lst ha hs => exact ⟨_, _, rfl, .inl ha, hs⟩
  | tup ha hs => exact ⟨_, _, rfl, .inr ha, hs⟩
  | _ => cases k
theorem rowD_elems {d : PyData} (k : dSeq d = true) : rowD d = partsD (elemsD d) := by
  cases d <;> first | rfl | cases k
theorem dNil_elems {d : PyData} (k : dSeq d = true) : dNil d = (elemsD d).isEmpty := by
  cases d with
  | list xs => cases xs <;> rfl
  | tuple xs => cases xs <;> rfl
  | _ => cases k
theorem SqX.lt {K : PySem.W.Frag} {H : Hp} {a : Addr} {xs : List V} (h : SqX H a xs) : SqL K H a xs ∨ SqT K H a xs := h.imp SqL.of SqT.of

/-! ### sizes -/
mutual
/-- how many nodes -/
def wD : PyData → Nat
  | .list xs => 1 + wDs xs
  | .tuple xs => 1 + wDs xs
  | _ => 1
def wDs : List PyData → Nat
  | [] => 0
  | x :: xs => wD x + wDs xs
end
mutual
/-- its leaves are small, its dicts empty -/
def okD : PyData → Bool
  | .none => true
  | .bool _ => true
  | .int i => decide (i.natAbs < 10 ^ 40)
  | .str z => decide (z.length ≤ 9) && z.cps.toList.all fun c => decide (c < 16 ^ 8)
  | .list xs => oksD xs
  | .tuple xs => oksD xs
  | .dict kvs => kvs.isEmpty
def oksD : List PyData → Bool
  | [] => true
  | x :: xs => okD x && oksD xs
end
theorem wD_pos (d : PyData) : 1 ≤ wD d := by cases d <;> simp only [wD] <;> omega
theorem wDs_append (xs ys : List PyData) : wDs (xs ++ ys) = wDs xs + wDs ys := by
  induction xs with
  | nil => simp [wDs]
  | cons x xs ih => simp only [List.cons_append, wDs, ih]; omega
theorem oksD_append (xs ys : List PyData) : oksD (xs ++ ys) = (oksD xs && oksD ys) := by
  induction xs with
  | nil => simp [oksD]
  | cons x xs ih => simp only [List.cons_append, oksD, ih, Bool.and_assoc]
theorem oksD_all (xs : List PyData) : oksD xs = xs.all okD := by
  induction xs with
  | nil => rfl
  | cons x xs ih => simp only [oksD, List.all_cons, ih]
theorem oksD_get {xs : List PyData} (h : oksD xs = true) {i : Nat} {d : PyData} (e : xs[i]? = some d) : okD d = true := by
  rw [oksD_all, List.all_eq_true] at h
  exact h d (List.mem_of_getElem? e)
theorem wD_le {xs : List PyData} {i : Nat} {d : PyData} (e : xs[i]? = some d) : wD d ≤ wDs xs := by
  induction xs generalizing i with
  | nil => simp at e
  | cons x xs ih =>
    simp only [wDs]
    cases i with
    | zero => simp at e; subst e; omega
    | succ i => have := ih (i := i) (by simpa using e); omega
theorem len_wDs (xs : List PyData) : xs.length ≤ wDs xs := by
  induction xs with
  | nil => simp [wDs]
  | cons x xs ih => simp only [List.length_cons, wDs]; have := wD_pos x; omega
theorem depthAll_append (xs ys : List PyData) : PyData.depthAll (xs ++ ys) = max (PyData.depthAll xs) (PyData.depthAll ys) := by
  induction xs with
  | nil => simp [PyData.depthAll]
  | cons x xs ih => simp only [List.cons_append, PyData.depthAll, ih]; omega
theorem depth_le {xs : List PyData} {i : Nat} {d : PyData} (e : xs[i]? = some d) : d.depth ≤ PyData.depthAll xs := by
  induction xs generalizing i with
  | nil => simp at e
  | cons x xs ih =>
    simp only [PyData.depthAll]
    cases i with
    | zero => simp at e; subst e; omega
    | succ i => have := ih (i := i) (by simpa using e); omega
mutual
theorem okD_showable : ∀ d : PyData, okD d = true → d.showable = true
  | .none, _ => by simp only [PyData.showable]
  | .bool _, _ => by simp only [PyData.showable]
  | .str _, _ => by simp only [PyData.showable]
  | .int i, h => by
    simp only [okD, decide_eq_true_eq] at h
    simp only [PyData.showable, decide_eq_true_eq]
    exact PySem.Spec.log2_small (Nat.lt_of_lt_of_le h (by decide))
  | .list xs, h => by
    simp only [okD] at h
    simp only [PyData.showable]
    exact oksD_showable xs h
  | .tuple xs, h => by
    simp only [okD] at h
    simp only [PyData.showable]
    exact oksD_showable xs h
  | .dict kvs, h => by
    simp only [okD, List.isEmpty_iff] at h
    subst h
    simp only [PyData.showable, PyData.showableKv]
theorem oksD_showable : ∀ xs : List PyData, oksD xs = true → PyData.showableAll xs = true
  | [], _ => by simp only [PyData.showableAll]
  | x :: xs, h => by
    simp only [oksD, Bool.and_eq_true] at h
    simp only [PyData.showableAll, Bool.and_eq_true]
    exact ⟨okD_showable x h.1, oksD_showable xs h.2⟩
end
theorem int_shown_le {i : Int} (h : i.natAbs < 10 ^ 40) : (PyData.shown (.int i)).length ≤ 50 := by
  have e := int_text_length_le10 (k := 40) (by decide) h
  show (Str.ofString (toString i)).length ≤ 50
  rw [PySem.ofString_length]
  exact Nat.le_trans e (by decide)
mutual
theorem okD_short : ∀ d : PyData, okD d = true → d.leavesShort 50 = true
  | .none, _ => by simp only [PyData.leavesShort]
  | .bool _, _ => by simp only [PyData.leavesShort]
  | .str z, h => by
    simp only [okD, Bool.and_eq_true] at h
    simp only [PyData.leavesShort]
    exact h.2
  | .int i, h => by
    simp only [okD, decide_eq_true_eq] at h
    simp only [PyData.leavesShort, decide_eq_true_eq]
    exact int_shown_le h
  | .list xs, h => by
    simp only [okD] at h
    simp only [PyData.leavesShort]
    exact oksD_short xs h
  | .tuple xs, h => by
    simp only [okD] at h
    simp only [PyData.leavesShort]
    exact oksD_short xs h
  | .dict kvs, h => by
    simp only [okD, List.isEmpty_iff] at h
    subst h
    simp only [PyData.leavesShort, PyData.leavesShortKv]
theorem oksD_short : ∀ xs : List PyData, oksD xs = true → PyData.leavesShortAll 50 xs = true
  | [], _ => by simp only [PyData.leavesShortAll]
  | x :: xs, h => by
    simp only [oksD, Bool.and_eq_true] at h
    simp only [PyData.leavesShortAll, Bool.and_eq_true]
    exact ⟨okD_short x h.1, oksD_short xs h.2⟩
end
mutual
theorem weight_le : ∀ d : PyData, okD d = true → d.weight + 1 ≤ 140 * wD d
  | .none, _ => by simp only [PyData.weight, wD]; omega
  | .bool _, _ => by simp only [PyData.weight, wD]; omega
  | .str z, h => by
    simp only [okD, Bool.and_eq_true, decide_eq_true_eq] at h
    have h1 : z.cps.size ≤ 9 := h.1
    simp only [PyData.weight, wD]; omega
  | .int i, h => by
    simp only [okD, decide_eq_true_eq] at h
    simp only [PyData.weight, wD]
    split
    · omega
    · rename_i h0
      have h1 : i.natAbs ≠ 0 := by
        intro z
        apply h0
        simpa using z
      have h2 : i.natAbs.log2 < 133 := (Nat.log2_lt h1).mpr (Nat.lt_of_lt_of_le h (by decide))
      omega
  | .list xs, h => by
    simp only [okD] at h
    have := weights_le xs h
    simp only [PyData.weight, wD]; omega
  | .tuple xs, h => by
    simp only [okD] at h
    have := weights_le xs h
    simp only [PyData.weight, wD]; omega
  | .dict kvs, h => by
    simp only [okD, List.isEmpty_iff] at h
    subst h
    simp only [PyData.weight, PyData.weightKv, wD]; omega
theorem weights_le : ∀ xs : List PyData, oksD xs = true → PyData.weightAll xs ≤ 140 * wDs xs
  | [], _ => by simp only [PyData.weightAll]; omega
  | x :: xs, h => by
    simp only [oksD, Bool.and_eq_true] at h
    have h1 := weight_le x h.1
    have h2 := weights_le xs h.2
    simp only [PyData.weightAll, wDs]; omega
end
theorem shown_fits {d : PyData} (h : okD d = true) (hw : wD d ≤ 2000) : d.shown.length ≤ sizeLine := by
  have h1 := PyData.shown_le 50 (by decide) d (okD_short d h)
  have h2 := weight_le d h
  have h3 : d.weight ≤ 140 * 2000 := by omega
  exact Nat.le_trans h1 (Nat.le_trans (Nat.add_le_add_right (Nat.mul_le_mul_left _ h3) _) (by decide))
theorem okD_elems {d : PyData} (h : okD d = true) : oksD (elemsD d) = true := by
  cases d <;> first | rfl | (simp only [okD] at h; exact h)
theorem wD_elems (d : PyData) : wDs (elemsD d) ≤ wD d := by
  cases d <;> simp only [elemsD, wD, wDs] <;> omega
theorem depth_elems {d : PyData} (k : dSeq d = true) : d.depth = PyData.depthAll (elemsD d) + 1 := by
  cases d <;> first | (simp only [PyData.depth, elemsD]; done) | cases k
end MC

set_option Elab.async false
set_option linter.all false
set_option maxRecDepth 100000
set_option maxHeartbeats 4000000
namespace MC
open PySem PySem.Spec L2
open PyProof.Rows hiding St
theorem low_tab : ∀ c < 128, (Unicode.isAlpha c && (Unicode.lowerOf c == [c])) = isSign c := by decide +kernel
theorem low_one : ∀ c < 128, (Unicode.lowerOf c).length = 1 := by decide +kernel
theorem lowerAt_ascii {s : Array Nat} {i c : Nat} (h : s[i]? = some c) (hc : c < 128) : Unicode.lowerAt s i = Unicode.lowerOf c := by
  unfold Unicode.lowerAt
  rw [h]
  have : (c == 0x3A3) = false := by simp; omega
  simp [this]
theorem lower_list (x : Str) (h : Txt.isascii x = true) : (Txt.lower x).cps.toList = x.cps.toList.flatMap Unicode.lowerOf := by
  have hh : ∀ (i : Nat) (c : Nat), x.cps[i]? = some c → c < 128 := by
    intro i c e
    unfold Txt.isascii at h
    rw [Array.all_eq_true'] at h
    have := h c (Array.mem_of_getElem? e)
    simpa using this
  show (placed x fun i _ => Unicode.lowerAt x.cps i).toList = _
  unfold placed
  rw [Array.toList_flatten, Array.toList_mapIdx, List.flatMap_def]
  congr 1
  apply List.ext_getElem
  · simp
  · intro n h1 h2
    simp at h1 h2 ⊢
    exact lowerAt_ascii (by simp [h1]) (hh n _ (by simp [h1]))
theorem flat_eq (l : List Nat) (h : ∀ c ∈ l, (Unicode.lowerOf c).length = 1) : l.flatMap Unicode.lowerOf = l ↔ ∀ c ∈ l, Unicode.lowerOf c = [c] := by
  induction l with
  | nil => simp
  | cons c l ih =>
    have h1 := h c (by simp)
    obtain ⟨d, hd⟩ := List.length_eq_one_iff.mp h1
    rw [List.flatMap_cons, hd]
    have ih := ih fun c hc => h c (by simp [hc])
    simp [ih, hd]
theorem small_look (x : Str) : (decide (x = Str.empty) || (Txt.isascii x && (Txt.isalpha x && decide (x = Txt.lower x)))) = x.cps.toList.all isSign := by
  have ext : ∀ a b : Str, a.cps.toList = b.cps.toList → a = b := by
    rintro ⟨a⟩ ⟨b⟩ h
    simp only [Str.mk.injEq]
    exact Array.toList_inj.mp h
  by_cases h0 : x = Str.empty
  · subst h0
    simp [Str.empty]
  have hpos : 0 < x.length := by
    rcases Nat.eq_zero_or_pos x.length with h | h
    · refine absurd (ext _ _ ?_) h0
      have : x.cps.size = 0 := h
      simp [Str.empty]
      exact Array.size_eq_zero_iff.mp this
    · exact h
  rw [decide_eq_false h0, Bool.false_or]
  by_cases ha : Txt.isascii x = true
  · have hh : ∀ c ∈ x.cps.toList, c < 128 := by
      intro c hc
      unfold Txt.isascii at ha
      rw [Array.all_eq_true'] at ha
      simpa using ha c (by simpa using hc)
    have hl : decide (x = Txt.lower x) = x.cps.toList.all fun c => Unicode.lowerOf c == [c] := by
      have f := flat_eq x.cps.toList fun c hc => low_one c (hh c hc)
      rw [← lower_list x ha] at f
      rw [Bool.eq_iff_iff, decide_eq_true_eq, List.all_eq_true]
      constructor
      · intro e c hc
        have := f.mp (congrArg (fun z : Str => z.cps.toList) e.symm) c hc
        simpa using this
      · intro e
        exact ext _ _ (f.mpr fun c hc => by simpa using e c hc).symm
    have hal : Txt.isalpha x = x.cps.toList.all Unicode.isAlpha := by
      unfold Txt.isalpha
      rw [decide_eq_true hpos, Bool.true_and, ← Array.all_toList]
    rw [ha, hl, hal, Bool.true_and]
    generalize x.cps.toList = l at hh
    induction l with
    | nil => rfl
    | cons c l ih =>
      have h1 := low_tab c (hh c (by simp))
      have h2 := ih fun c hc => hh c (by simp [hc])
      simp only [List.all_cons, ← h1, ← h2]
      cases Unicode.isAlpha c <;> cases Unicode.lowerOf c == [c] <;> simp
  · have : Txt.isascii x = false := by simpa using ha
    rw [this, Bool.false_and, eq_comm, List.all_eq_false]
    unfold Txt.isascii at this
    rw [← Array.all_toList, List.all_eq_false] at this
    obtain ⟨c, hc, e⟩ := this
    refine ⟨c, hc, ?_⟩
    simp at e
    simp [isSign]; omega

/-- the reading of a dict comprehension over any iterator -/
theorem dc_it {J : It} {n : Nat} {G : Hp → Prop} {Y : Nat → Hp → V → Hp → Prop} (w : Walk J n G Y) {g : TG} {tt : TT} {tk tv : TE} {vs : List Nat} {σ : St} {H1 : Hp} {D : Addr} {Qd : Hp → Prop} (Pv : Nat → Hp → Prop) (h0 : Pv 0 (upd H1 D (.dK []))) (hG : ∀ i H, i ≤ n → Pv i H → G H)
    (hs : ∀ i x H H', i < n → Pv i H → Y i H x H' → g x (wipe σ vs) H' fun σ2 H2 => wipe σ2 vs = wipe σ vs ∧ tt σ2 H2 fun b H3 =>
      if b = true then tk σ2 H3 fun y H4 => tv σ2 H4 fun z H5 => ∃ kvs k, y = kV k ∧ H5 D = some (.dK kvs) ∧ kvs.length < sizeLine ∧ Pv (i + 1) (upd H5 D (.dK (putK kvs k z))) else Pv (i + 1) H3) (hd : ∀ H, Pv n H → Qd H) :
    ∃ W : Nat → Nat → Hp → Prop, (∃ m, W 0 m (upd H1 D (.dK []))) ∧ ∀ i m H, W i m H →
      (J.stop i H ∧ Qd H) ∨ (J.go i H ∧ ∃ Nx : Hp → Prop, (∀ H', Nx H' → ∃ m', m' < m ∧ W (i + 1) m' H') ∧ ∀ x H', J.yld i H x H' → g x (wipe σ vs) H' fun σ2 H2 => wipe σ2 vs = wipe σ vs ∧ tt σ2 H2 fun b H3 =>
        if b = true then tk σ2 H3 fun y H4 => tv σ2 H4 fun z H5 => ∃ kvs k, y = kV k ∧ H5 D = some (.dK kvs) ∧ kvs.length < sizeLine ∧ Nx (upd H5 D (.dK (putK kvs k z))) else Nx H3) := by
  refine ⟨fun i m H => m = n - i ∧ i ≤ n ∧ Pv i H, ⟨n, by simp, Nat.zero_le _, h0⟩, ?_⟩
  rintro i m H ⟨rfl, hi, p⟩
  have q := hG i H hi p
  by_cases hlt : i < n
  · refine .inr ⟨w.goes i H hlt q, Pv (i + 1), fun H' p' => ⟨n - (i + 1), by omega, rfl, hlt, p'⟩, fun x H' y => hs i x H H' hlt p (w.yields i H x H' hlt q y)⟩
  · have e : i = n := by omega
    subst e
    exact .inl ⟨w.stops H q, hd H p⟩
/-- .. over what is a list or a tuple -/
theorem dc_seqD {K : PySem.W.Frag} {a : Addr} {xs : List V} {g : TG} {tt : TT} {tk tv : TE} {vs : List Nat} {σ : St} {H : Hp} {Qd : Addr → Hp → Prop} (h : SqX H a xs) (Pv : Addr → Nat → Hp → Prop) (h0 : ∀ D, H D = none → Pv D 0 (upd H D (.dK [])))
    (hl : ∀ D i H', H D = none → i ≤ xs.length → Pv D i H' → H' a = H a)
    (hs : ∀ D i x H', H D = none → xs[i]? = some x → Pv D i H' → g x (wipe σ vs) H' fun σ2 H2 => wipe σ2 vs = wipe σ vs ∧ tt σ2 H2 fun b H3 =>
      if b = true then tk σ2 H3 fun y H4 => tv σ2 H4 fun z H5 => ∃ kvs k, y = kV k ∧ H5 D = some (.dK kvs) ∧ kvs.length < sizeLine ∧ Pv D (i + 1) (upd H5 D (.dK (putK kvs k z))) else Pv D (i + 1) H3) (hd : ∀ D H', H D = none → Pv D xs.length H' → Qd D H') :
    ∃ b, V.ref a = .ref b ∧ (((∃ ys, H b = some (.lst ys)) ∧ ∀ D, H D = none → ∃ W : Nat → Nat → Hp → Prop, (∃ m, W 0 m (upd H D (.dK []))) ∧ ∀ i m H, W i m H →
        ((Itl K b).stop i H ∧ Qd D H) ∨ ((Itl K b).go i H ∧ ∃ Nx : Hp → Prop, (∀ H', Nx H' → ∃ m', m' < m ∧ W (i + 1) m' H') ∧ ∀ x H', (Itl K b).yld i H x H' → g x (wipe σ vs) H' fun σ2 H2 => wipe σ2 vs = wipe σ vs ∧ tt σ2 H2 fun b H3 =>
          if b = true then tk σ2 H3 fun y H4 => tv σ2 H4 fun z H5 => ∃ kvs k, y = kV k ∧ H5 D = some (.dK kvs) ∧ kvs.length < sizeLine ∧ Nx (upd H5 D (.dK (putK kvs k z))) else Nx H3)) ∨
      ((∃ ys, H b = some (.tup ys)) ∧ ∀ D, H D = none → ∃ W : Nat → Nat → Hp → Prop, (∃ m, W 0 m (upd H D (.dK []))) ∧ ∀ i m H, W i m H →
        ((Itt K b).stop i H ∧ Qd D H) ∨ ((Itt K b).go i H ∧ ∃ Nx : Hp → Prop, (∀ H', Nx H' → ∃ m', m' < m ∧ W (i + 1) m' H') ∧ ∀ x H', (Itt K b).yld i H x H' → g x (wipe σ vs) H' fun σ2 H2 => wipe σ2 vs = wipe σ vs ∧ tt σ2 H2 fun b H3 =>
          if b = true then tk σ2 H3 fun y H4 => tv σ2 H4 fun z H5 => ∃ kvs k, y = kV k ∧ H5 D = some (.dK kvs) ∧ kvs.length < sizeLine ∧ Nx (upd H5 D (.dK (putK kvs k z))) else Nx H3))) := by
  refine ⟨a, rfl, ?_⟩
  rcases h with h | h
  · refine .inl ⟨⟨xs, h⟩, fun D hD => dc_it (walk_list (K := K) (a := a) (xs := xs)) (Pv D) (h0 D hD) (fun i H' hi p => SqL.of ((hl D i H' hD hi p).trans h)) ?_ fun H' p => hd D H' hD p⟩
    rintro i x H' _ _ p ⟨rfl, e⟩
    exact hs D i x _ hD e p
  · refine .inr ⟨⟨xs, h⟩, fun D hD => dc_it (walk_tup (K := K) (a := a) (xs := xs)) (Pv D) (h0 D hD) (fun i H' hi p => SqT.of ((hl D i H' hD hi p).trans h)) ?_ fun H' p => hd D H' hD p⟩
    rintro i x H' _ _ p ⟨rfl, e⟩
    exact hs D i x _ hD e p

/-- the reading of a comprehension over it -/
theorem lc_seqD {K : PySem.W.Frag} {a : Addr} {xs : List V} {g : TG} {tt : TT} {te : TE} {vs : List Nat} {σ : St} {H : Hp} {Qd : Addr → Hp → Prop} (h : SqX H a xs) (Pv : Addr → Nat → Hp → Prop) (h0 : ∀ D, H D = none → Pv D 0 (upd H D (.lst [])))
    (hl : ∀ D i H', H D = none → i ≤ xs.length → Pv D i H' → H' a = H a)
    (hs : ∀ D i x H', H D = none → xs[i]? = some x → Pv D i H' → g x (wipe σ vs) H' fun σ2 H2 => wipe σ2 vs = wipe σ vs ∧ tt σ2 H2 fun b H3 =>
      if b = true then te σ2 H3 fun y H4 => ∃ acc, H4 D = some (.lst acc) ∧ acc.length < sizeLine ∧ Pv D (i + 1) (upd H4 D (.lst (acc ++ [y]))) else Pv D (i + 1) H3) (hd : ∀ D H', H D = none → Pv D xs.length H' → Qd D H') :
    ∃ b, V.ref a = .ref b ∧ (((∃ ys, H b = some (.lst ys)) ∧ ∀ D, H D = none → ∃ W : Nat → Nat → Hp → Prop, (∃ m, W 0 m (upd H D (.lst []))) ∧ ∀ i m H, W i m H →
        ((Itl K b).stop i H ∧ Qd D H) ∨ ((Itl K b).go i H ∧ ∃ Nx : Hp → Prop, (∀ H', Nx H' → ∃ m', m' < m ∧ W (i + 1) m' H') ∧ ∀ x H', (Itl K b).yld i H x H' → g x (wipe σ vs) H' fun σ2 H2 => wipe σ2 vs = wipe σ vs ∧ tt σ2 H2 fun b H3 =>
          if b = true then te σ2 H3 fun y H4 => ∃ acc, H4 D = some (.lst acc) ∧ acc.length < sizeLine ∧ Nx (upd H4 D (.lst (acc ++ [y]))) else Nx H3)) ∨
      ((∃ ys, H b = some (.tup ys)) ∧ ∀ D, H D = none → ∃ W : Nat → Nat → Hp → Prop, (∃ m, W 0 m (upd H D (.lst []))) ∧ ∀ i m H, W i m H →
        ((Itt K b).stop i H ∧ Qd D H) ∨ ((Itt K b).go i H ∧ ∃ Nx : Hp → Prop, (∀ H', Nx H' → ∃ m', m' < m ∧ W (i + 1) m' H') ∧ ∀ x H', (Itt K b).yld i H x H' → g x (wipe σ vs) H' fun σ2 H2 => wipe σ2 vs = wipe σ vs ∧ tt σ2 H2 fun b H3 =>
          if b = true then te σ2 H3 fun y H4 => ∃ acc, H4 D = some (.lst acc) ∧ acc.length < sizeLine ∧ Nx (upd H4 D (.lst (acc ++ [y]))) else Nx H3))) := by
  refine ⟨a, rfl, ?_⟩
  rcases h with h | h
  · exact .inl ⟨⟨xs, h⟩, fun D hD => lc_list (K := K) (a := a) (xs := xs) (Pv D) (h0 D hD) (fun i H' hi p => SqL.of ((hl D i H' hD hi p).trans h)) (fun i x H' e p => hs D i x H' hD e p) fun H' p => hd D H' hD p⟩
  · exact .inr ⟨⟨xs, h⟩, fun D hD => lc_tup (K := K) (a := a) (xs := xs) (Pv D) (h0 D hD) (fun i H' hi p => SqT.of ((hl D i H' hD hi p).trans h)) (fun i x H' e p => hs D i x H' hD e p) fun H' p => hd D H' hD p⟩
/-! ### dicts whose keys are texts, as sets -/
def setK (zs : List Str) : List (Key × V) := zs.map fun z => (Sum.inr z, V.bl true)
theorem setK_put (zs : List Str) (z : Str) : putK (setK zs) (Sum.inr z) (.bl true) = setK (if z ∈ zs then zs else zs ++ [z]) := by
  unfold putK setK
  by_cases h : z ∈ zs
  · have : (List.map (fun z => ((Sum.inr z : Key), V.bl true)) zs).any (fun kv => decide (kv.1 = Sum.inr z)) = true := by
      rw [List.any_eq_true]
      exact ⟨(Sum.inr z, .bl true), by simp [h], by simp⟩
    rw [if_pos this, if_pos h, List.map_map]
    refine List.map_congr_left fun y hy => ?_
    by_cases e : y = z
    · subst e; simp
    · simp
  · have : (List.map (fun z => ((Sum.inr z : Key), V.bl true)) zs).any (fun kv => decide (kv.1 = Sum.inr z)) = false := by
      rw [List.any_eq_false]
      rintro ⟨k, v⟩ hk
      simp only [List.mem_map, Prod.mk.injEq] at hk
      obtain ⟨y, hy, rfl, rfl⟩ := hk
      simp only [decide_eq_true_eq, Sum.inr.injEq]
      rintro rfl
      exact h hy
    rw [if_neg (by simp [this]), if_neg h]
    simp
theorem joined_all (zs : List Str) (p : Nat → Bool) : (Str.join Str.empty zs).cps.toList.all p = zs.all fun z => z.cps.toList.all p := by
  have h := TL.tl_join Str.empty zs
  have e : ∀ l : List (List Nat), (TL.joinL [] l).all p = l.all fun c => c.all p := by
    intro l
    induction l with
    | nil => rfl
    | cons c l ih =>
      cases l with
      | nil => simp [TL.joinL]
      | cons d l => simp only [TL.joinL, List.nil_append, List.all_append, List.all_cons] at ih ⊢; rw [ih]
  have h2 : (Str.join Str.empty zs).cps.toList = TL.joinL [] (zs.map TL.tl) := h
  rw [h2, e, List.all_map]
  rfl
theorem joined_len (zs : List Str) : (Str.join Str.empty zs).length = (zs.map (·.length)).sum := by
  have h := TL.tl_join Str.empty zs
  have e : ∀ l : List (List Nat), (TL.joinL [] l).length = (l.map (·.length)).sum := by
    intro l
    induction l with
    | nil => rfl
    | cons c l ih =>
      cases l with
      | nil => simp [TL.joinL]
      | cons d l => simp only [TL.joinL, List.nil_append, List.length_append, List.map_cons, List.sum_cons] at ih ⊢; rw [ih]
  have h2 : (Str.join Str.empty zs).cps.toList = TL.joinL [] (zs.map TL.tl) := h
  have h3 : (Str.join Str.empty zs).length = (Str.join Str.empty zs).cps.toList.length := by simp [Str.length]
  rw [h3, h2, e, List.map_map]
  congr 1
theorem k_tup {X : Cx} {K : PySem.W.Frag} (hK : X.K = K) {es : List Expr} {k : Nat} {t : TGs} {n : Nat} {pos : Pos} (hc : X.calm = true) (h : PGs X es t)
    (hn : (assignEach es X.env).length = n := by rfl) (hst : (assignEach es X.env).findIdx? (·.1) = none := by rfl) : PG X (.Tuple es k pos) (gTup K n t) := by subst hK; exact pg_tup hc h hn hst
def nStr (d : PyData) : Bool := !dStr d
theorem wDs_filter (p : PyData → Bool) (l : List PyData) : wDs (l.filter p) ≤ wDs l := by
  induction l with
  | nil => exact Nat.le_refl _
  | cons d l ih =>
    rw [List.filter_cons]
    split <;> simp only [wDs] <;> omega
theorem parts_strs {es : List PyData} {zs : List Str} (hm : ∀ z, z ∈ zs ↔ PyData.str z ∈ es) : partsD es = (partsD (es.filter nStr) && zs.all isThingS) := by
  rw [partsD_eq, partsD_eq, Bool.eq_iff_iff, Bool.and_eq_true, List.all_eq_true, List.all_eq_true, List.all_eq_true]
  constructor
  · intro h
    exact ⟨fun d hd => h d (List.mem_filter.mp hd).1, fun z hz => h (.str z) ((hm z).mp hz)⟩
  · rintro ⟨h1, h2⟩ d hd
    by_cases s : dStr d = true
    · cases d with
      | str z => exact h2 z ((hm z).mpr hd)
      | _ => cases s
    · exact h1 d (List.mem_filter.mpr ⟨hd, by simpa [nStr] using s⟩)
theorem part_nstr {d : PyData} (s : dStr d = false) (h : againD d = false) : partD d = false := by
  rw [partD_eq, h]
  cases d <;> first | rfl | cases s
end MC

set_option Elab.async false
set_option linter.all false
set_option maxRecDepth 100000
set_option maxHeartbeats 4000000
/-! MR: enumerate of a tuple, a list by steps. -/
namespace MC
open PySem AutoSeq1
theorem enumT_new (l : Addr) (items : Array Value) (n : Nat) (dc : Option Addr) (ss : Array (Option Value)) : Meets (Builtin.«enumerate.__new__» ⟨[.type "enumerate", .ref l], []⟩) (fun _ R s =>
    s.heap.get? l = some { cls := .type "tuple", dict := dc, data := .seq items n, slots := ss } ∧
    R (.ok (.ret (.ref (s.heap.objs.size + 1)))) { s with heap := (s.heap.push { cls := .type "tuple_iterator", data := .fields #[.ref l, .int 0 0] }).push { cls := .type "enumerate", data := .fields #[.none, .bool false, .ref s.heap.objs.size, rawInt 0, .none, .none] } }) :=
  .of_wp fun prog w A R s h => by
    obtain ⟨hp, g, d, tk, os⟩ := s
    obtain ⟨hl, h⟩ := h
    have sub := sub_enumerate
    have hT : Heap.IsTuple (Shared.heap ⟨hp, g, d, tk, os⟩) l items := ⟨_, hl, rfl, n, rfl⟩
    have sz : (hp.push { cls := .type "tuple_iterator", data := .fields #[.ref l, .int 0 0] }).objs.size = hp.objs.size + 1 := Heap.size_push ..
    have h2 := h
    rw [← sz] at h2
    wp_walk using wpAny_loadPart' hl
    refine wpAny_stack_any fun st => wpAny_pure ?_
    split
    · rename_i c _ _ _ _ _
      cases (c == Value.type "enumerate") <;> (wp_walk using wpAny_loadPart' hl, wpAny_pyIter_tuple hT) <;> exact ⟨_, rfl, h2⟩
    · wp_walk using wpAny_loadPart' hl, wpAny_pyIter_tuple hT
      exact ⟨_, rfl, h2⟩
theorem call_enumT {prog : Program} {w : World} {A : Around} {E : Value → Shared → Prop} {s : Shared} {l : Addr} {items : Array Value} {Q : Value → Shared → Prop} (hL : s.heap.IsTuple l items)
    (h : ∀ h', IsEnum h' (s.heap.objs.size + 1) s.heap.objs.size 0 .none → h'.IsTupleIter s.heap.objs.size l 0 → (∀ b o, s.heap.get? b = some o → h'.get? b = some o) →
      Q (.ref (s.heap.objs.size + 1)) { s with heap := h' }) : wpAny (model prog w) A (call (.type "enumerate") [.ref l]) Q E s := by
  obtain ⟨⟨c, dc, dt, ss⟩, hl, hc, n, hd⟩ := hL
  cases (show c = .type "tuple" from hc)
  cases (show dt = .seq items n from hd)
  refine callType_new F.called_enumerate (by decide) (F.typeCall_enumerate_1 _) (F.newCall_enumerate_1 _) (fun ob => F.args_object_init_2 ob _) F.entry_enumerate_new (enumT_new l items n dc ss) ⟨hl, ?_⟩
  have sz : (s.heap.push { cls := .type "tuple_iterator", data := .fields #[.ref l, .int 0 0] }).objs.size = s.heap.objs.size + 1 := Heap.size_push ..
  have top := Heap.get?_push_size (s.heap.push { cls := .type "tuple_iterator", data := .fields #[.ref l, .int 0 0] })
    (o := { cls := .type "enumerate", data := .fields #[.none, .bool false, .ref s.heap.objs.size, rawInt 0, .none, .none] }) rfl
  rw [sz] at top
  exact ⟨⟨_, top, rfl⟩, h _ top ⟨_, Heap.get?_push_of_some _ (Heap.get?_push_size _ rfl), rfl, rfl⟩ fun b o y => Heap.get?_push_of_some _ (Heap.get?_push_of_some _ y)⟩
end MC
namespace MC
open PySem PySem.Spec L2
open PyProof.Rows hiding St
/-- enumerate of the tuple at a -/
def Iet (K : PySem.W.Frag) (a : Addr) : It :=
  ⟨fun i H => ∃ (ts : List V) (v : V), SqT K H a ts ∧ ts[i]? = some v,
   fun i H u H' => ∃ p v, u = .ref p ∧ H p = none ∧ H' = upd H p (.tup [.int (i : Nat), v]) ∧ ∀ ts, SqT K H a ts → ts[i]? = some v,
   fun i H => ∃ ts : List V, SqT K H a ts ∧ i = ts.length⟩
theorem turn_iet {P : Program} {w : World} {K : PySem.W.Frag} {elts : List Expr} {kk : Nat} {tpos : Pos} {a e it : Addr} (hae : a ≠ it) (hea : e ≠ a) :
    Turn P w K (.Tuple elts kk tpos) (Iet K a) [e, it] e (fun i h => (∃ old, IsEnum h e it ((i : Nat) : Int) old) ∧ h.IsTupleIter it a i ∧ e ≠ it) where
  mem := by simp
  obj := fun i h st b hb => by
    obtain ⟨⟨old, he⟩, ⟨o, ho, hc, hd⟩, _⟩ := st
    simp only [List.mem_cons, List.not_mem_nil, or_false] at hb
    rcases hb with rfl | rfl
    · exact ⟨_, he, fun v q => nomatch q⟩
    · exact ⟨o, ho, fun v q => by rw [hd] at q; cases q⟩
  keep := fun i h h' st k => by
    obtain ⟨⟨old, he⟩, hi, hne⟩ := st
    exact ⟨⟨old, k e (by simp) _ he⟩, hi.at fun o q => k it (by simp) o q, hne⟩
  item := by
    intro X hP hw hK hc i pins s σ H E I hf st hg
    subst hP hw hK
    obtain ⟨⟨old, he⟩, hit, hne⟩ := st
    obtain ⟨ts, v, hq, hv⟩ := hg
    obtain ⟨its, rv, p, hz⟩ := I.tuple hq
    obtain ⟨u, hu, ru⟩ := rv.get hv
    have hel : e < s.heap.objs.size := Heap.lt_size he
    have hil : it < s.heap.objs.size := by obtain ⟨_, q, _⟩ := hit; exact Heap.lt_size q
    have pt : s.heap.IsTuple a its.toArray := p
    refine wpAny_pyNext_enum_itemD (Draws.tuple (A := X.A.in1) (show X.A.in1.handled = none from I.ok.hd hc) it a hae its.toArray) (i := i) he ⟨hit, pt⟩ (by have := (List.getElem?_eq_some_iff.mp hu).1; simpa using this) hne (by simp; exact ⟨hne, hea⟩)
      fun x h' tk hx ho' st' hT hsz hk => ?_
    have ex : x = u := by
      rw [show its.toArray[i]? = some u by simpa using hu] at hx
      exact (Option.some.inj hx).symm
    subst ex
    refine ⟨_, rfl, wpAny_letOwnedTupleGo_enum (s := { s with heap := h', toks := tk + 1 }) ho' fun h'' he' sb => ?_⟩
    have hT2 : h''.get? s.heap.objs.size = some { cls := .type "tuple", data := .seq #[.int i tk, x] } := (sb.2 _ (Nat.ne_of_gt hel)).trans hT
    have nw : ObjOk X.prog X.w (upd H s.heap.objs.size (.tup [.int (i : Nat), v])) h'' s.heap.objs.size (.tup [.int (i : Nat), v]) :=
      ⟨by show 2 ≤ sizeLine; decide, [.int i tk, x], .cons ⟨_, rfl⟩ (.cons ru .nil), ⟨_, hT2, rfl, _, rfl⟩⟩
    have I1 : Inv X pins σ (upd H s.heap.objs.size (.tup [.int (i : Nat), v])) { s with heap := h'', toks := tk + 1 } :=
      I.turnedNew (ch := [e, it]) (fun b ob hb q => (sb.2 b (fun z => hb (by simp [z]))).trans (hk b ob (fun z => hb (by simp [z])) (fun z => hb (by simp [z])) q)) hf (Nat.le_refl _) nw
    refine ⟨.ref s.heap.objs.size, _, I1, rfl, ⟨_, v, rfl, I.hok.fresh (Nat.le_refl _), rfl, fun ys hy => by rw [I.tuple_inj hy hq]; exact hv⟩, ⟨⟨x, ?_⟩, st'.1.at fun o q => (sb.2 it (Ne.symm hne)).trans q, hne⟩, fun b hb => ?_⟩
    · rw [show ((i + 1 : Nat) : Int) = (i : Int) + 1 by omega]; exact he'
    · have hb' : b < s.heap.objs.size := by
        simp only [List.mem_cons, List.not_mem_nil, or_false] at hb
        rcases hb with rfl | rfl
        · exact hel
        · exact hil
      rw [upd_ne (Nat.ne_of_lt hb')]
      exact (hf b hb).1
  done := by
    intro X hP hw hK hc i pins s σ H E I hf st hg
    subst hP hw hK
    obtain ⟨⟨old, he⟩, hit, hne⟩ := st
    obtain ⟨ts, hq, hx⟩ := hg
    obtain ⟨its, rv, p, hz⟩ := I.tuple hq
    obtain ⟨f0, f1, f2, f3, f4, f5⟩ := hf it (by simp)
    have hl := rv.length
    have pt : s.heap.IsTuple a its.toArray := p
    have en : i = its.toArray.size := by simp; omega
    subst en
    refine wpAny_pyNext_enum_endD (Draws.tuple (A := X.A.in1) (show X.A.in1.handled = none from I.ok.hd hc) it a hae its.toArray) he ?_ fun h' eb => ⟨rfl, I.turned (t' := s.toks) (fun b o hb q => eb b o hb q) f0 f1 f3 f4 f5⟩
    exact ⟨hit, pt⟩
  self := fun A i s Q E st h => by
    obtain ⟨⟨_, he⟩, _⟩ := st
    exact wpAny_pyIter_enum he h
/-- enumerate of what is a list or a tuple -/
def iEnX (K : PySem.W.Frag) (ta : TA) : TI := fun σ H R => ta σ H fun vs H1 => ∃ a, vs = [.ref a] ∧ (((∃ xs, H1 a = some (.lst xs)) ∧ R (Ite K a) H1) ∨ ((∃ xs, H1 a = some (.tup xs)) ∧ R (Iet K a) H1))
theorem pi_enX {X : Cx} {e : Expr} {ta : TA} {p pos tpos : Pos} {elts : List Expr} {kk : Nat} (hg : Gl X "enumerate") (hm : X.mg "enumerate" = none) (ha : PA X [e] ta) (hs : starEach [e] X.env = [(false, eval e X.env)] := by rfl) :
    PI X (.Tuple elts kk tpos) (.Call (.Name "enumerate" p) [e] [] pos) (iEnX X.K ta) := by
  refine ⟨fun pins s σ H R I h => ?_⟩
  refine Call_ (ld_blt I hg hm boot_enumerate (PyProof.Rows.callWith_type1 (thn (ha.run pos pins s σ H _ I h) fun us s1 z => ?_) hs rfl))
  obtain ⟨vs, H1, I1, r1, a, rfl, q⟩ := z
  cases r1 with
  | cons r rr =>
    cases rr
    cases r
    have low : ∀ b ∈ [s1.heap.objs.size + 1, s1.heap.objs.size], FpOk X pins H1 b := fun b hb => by
      have le : s1.heap.objs.size ≤ b := by
        simp only [List.mem_cons, List.not_mem_nil, or_false] at hb
        rcases hb with rfl | rfl <;> omega
      exact I1.fpOk le (I1.hok.fresh le)
    rcases q with ⟨⟨xs, hx⟩, q⟩ | ⟨⟨xs, hx⟩, q⟩
    · obtain ⟨its, rv, p', hz⟩ := I1.list (SqL.of hx)
      refine call_enumerate_list p'.isList fun h' he hit hsz hk => wpAny_pyIter_enum he ?_
      have I2 : Inv X pins σ H1 { s1 with heap := h' } := I1.kept (t' := s1.toks) hk
      exact ⟨_, _, _, _, H1, rfl, I2, turn_enum a _ _, ⟨⟨.none, he⟩, hit, Nat.succ_ne_self _⟩, low, q⟩
    · obtain ⟨its, rv, p', hz⟩ := I1.tuple (SqT.of hx)
      have pt : s1.heap.IsTuple a its.toArray := p'
      have al : a < s1.heap.objs.size := by obtain ⟨_, q, _⟩ := pt; exact Heap.lt_size q
      refine call_enumT pt fun h' he hit hk => wpAny_pyIter_enum he ?_
      have I2 : Inv X pins σ H1 { s1 with heap := h' } := I1.kept (t' := s1.toks) hk
      exact ⟨_, _, _, _, H1, rfl, I2, turn_iet (Nat.ne_of_lt al) (Ne.symm (Nat.ne_of_lt (Nat.lt_succ_of_lt al))), ⟨⟨.none, he⟩, hit, Nat.succ_ne_self _⟩, low, q⟩
theorem for_enX {K : PySem.W.Frag} {a : Addr} {xs : List V} {g : TG} {tb : TS} {D : Ends} {σ : St} {H : Hp} (h : SqX H a xs) (Pv : Nat → St → Hp → Prop) (h0 : Pv 0 σ H) (hl : ∀ i σ' H', i ≤ xs.length → Pv i σ' H' → H' a = H a)
    (hs : ∀ (i : Nat) x p σ H', xs[i]? = some x → Pv i σ H' → H' p = none → g (.ref p) σ (upd H' p (.tup [.int (i : Nat), x])) fun σ2 H2 => tb { D with nx := Pv (i + 1), ct := Pv (i + 1), bk := D.nx } σ2 H2) (hd : ∀ σ H, Pv xs.length σ H → D.nx σ H) :
    ∃ b, [V.ref a] = [.ref b] ∧ (((∃ ys, H b = some (.lst ys)) ∧ ∃ W : Nat → Nat → St → Hp → Prop, (∃ m, W 0 m σ H) ∧ ∀ i m σ H, W i m σ H →
        ((Ite K b).stop i H ∧ D.nx σ H) ∨ ((Ite K b).go i H ∧ ∃ N : St → Hp → Prop, (∀ σ' H', N σ' H' → ∃ m', m' < m ∧ W (i + 1) m' σ' H') ∧ ∀ x H', (Ite K b).yld i H x H' → g x σ H' fun σ2 H2 => tb { D with nx := N, ct := N, bk := D.nx } σ2 H2)) ∨
      ((∃ ys, H b = some (.tup ys)) ∧ ∃ W : Nat → Nat → St → Hp → Prop, (∃ m, W 0 m σ H) ∧ ∀ i m σ H, W i m σ H →
        ((Iet K b).stop i H ∧ D.nx σ H) ∨ ((Iet K b).go i H ∧ ∃ N : St → Hp → Prop, (∀ σ' H', N σ' H' → ∃ m', m' < m ∧ W (i + 1) m' σ' H') ∧ ∀ x H', (Iet K b).yld i H x H' → g x σ H' fun σ2 H2 => tb { D with nx := N, ct := N, bk := D.nx } σ2 H2))) := by
  refine ⟨a, rfl, ?_⟩
  rcases h with h | h
  · refine .inl ⟨⟨xs, h⟩, fun i m σ' H' => m = xs.length - i ∧ i ≤ xs.length ∧ Pv i σ' H', ⟨_, rfl, Nat.zero_le _, h0⟩, ?_⟩
    rintro i m σ' H' ⟨rfl, hi, pv⟩
    have at' : SqL K H' a xs := SqL.of ((hl i σ' H' hi pv).trans h)
    by_cases lt : i < xs.length
    · refine .inr ⟨⟨xs, xs[i], at', List.getElem?_eq_getElem lt⟩, Pv (i + 1), fun σ2 H2 z => ⟨_, Nat.sub_lt_sub_left lt (Nat.lt_succ_self i), rfl, lt, z⟩, ?_⟩
      rintro v H2 ⟨p, x, rfl, hp, rfl, hx⟩
      exact hs i x p σ' H' (hx xs at') pv hp
    · exact .inl ⟨⟨xs, at', by omega⟩, hd σ' H' (by rw [show xs.length = i by omega]; exact pv)⟩
  · refine .inr ⟨⟨xs, h⟩, fun i m σ' H' => m = xs.length - i ∧ i ≤ xs.length ∧ Pv i σ' H', ⟨_, rfl, Nat.zero_le _, h0⟩, ?_⟩
    rintro i m σ' H' ⟨rfl, hi, pv⟩
    have at' : SqT K H' a xs := SqT.of ((hl i σ' H' hi pv).trans h)
    by_cases lt : i < xs.length
    · refine .inr ⟨⟨xs, xs[i], at', List.getElem?_eq_getElem lt⟩, Pv (i + 1), fun σ2 H2 z => ⟨_, Nat.sub_lt_sub_left lt (Nat.lt_succ_self i), rfl, lt, z⟩, ?_⟩
      rintro v H2 ⟨p, x, rfl, hp, rfl, hx⟩
      exact hs i x p σ' H' (hx xs at') pv hp
    · exact .inl ⟨⟨xs, at', by omega⟩, hd σ' H' (by rw [show xs.length = i by omega]; exact pv)⟩
theorem k_enX {X : Cx} {K : PySem.W.Frag} (hK : X.K = K) {e : Expr} {ta : TA} {p pos tpos : Pos} {elts : List Expr} {kk : Nat} (hg : Gl X "enumerate") (hm : X.mg "enumerate" = none) (ha : PA X [e] ta) (hs : starEach [e] X.env = [(false, eval e X.env)] := by rfl) :
    PI X (.Tuple elts kk tpos) (.Call (.Name "enumerate" p) [e] [] pos) (iEnX K ta) := by subst hK; exact pi_enX hg hm ha hs

/-! ### xs[::c] -/
def stepV (xs : List V) (c : Int) : List V := (sliceRange 0 xs.length c).filterMap (xs[·]?)
def tStep (K : PySem.W.Frag) (te tc : TE) : TE := fun σ H Q => te σ H fun x H1 => tPart tc σ H1 fun o H2 => ∃ a xs c, x = .ref a ∧ o = some c ∧ 0 < c ∧ SqL K H2 a xs ∧ ∀ p, H2 p = none → Q (.ref p) (upd H2 p (.lst (stepV xs c)))
theorem vals_pick {xs : List V} {us : List Value} (r : Vals xs us) (js : List Nat) : Vals (js.filterMap (xs[·]?)) (js.filterMap (us[·]?)) := by
  induction js with
  | nil => exact .nil
  | cons j js ih =>
    cases e : xs[j]? with
    | none =>
      have l := r.length
      have e2 : us[j]? = none := by rw [List.getElem?_eq_none_iff] at e ⊢; omega
      rw [List.filterMap_cons_none e, List.filterMap_cons_none e2]
      exact ih
    | some x =>
      obtain ⟨u, e2, ru⟩ := r.get e
      rw [List.filterMap_cons_some e, List.filterMap_cons_some e2]
      exact .cons ru ih
theorem step_bounds (c : Int) (h : 0 < c) (n : Nat) : sliceBounds none none (some c) n = (0, (n : Int), c) := by
  simp [sliceBounds, h]
theorem step_pick (us : List Value) (c : Int) (h : 0 < c) : (slicePick us.toArray none none (some c)) = ((sliceRange 0 us.length c).filterMap (us[·]?)).toArray := by
  unfold slicePick
  rw [List.size_toArray, step_bounds c h]
  simp
theorem pe_step {X : Cx} {K : PySem.W.Frag} (hK : X.K = K) {e ec : Expr} {te tc : TE} {p2 pos : Pos} (he : PE X e te) (hc : PE X ec tc)
    (ho : ∀ a b, subscripted (.Slice none none (some ec) p2) false (.ref a) (.ref b) = operate [.ref a, .ref b] (getItem (.ref a) (.ref b)) := by intro a b; with_unfolding_all rfl)
    (hg : ∀ a r, letTemporaryGo e (.ref a) r = pure () := by intro a r; with_unfolding_all rfl) :
    PE X (.Subscript e (.Slice none none (some ec) p2) pos) (tStep K te tc) := by
  subst hK
  refine ⟨fun pins s σ H Q I h => ?_⟩
  have hst : PO X (some ec) (tPart tc) := po_some hc
  refine Subscript_ (thn (he.run pins s σ H _ I h) fun v s1 z => ?_)
  obtain ⟨x, H1, I1, r1, q1⟩ := z
  refine wpAny_Slice (thn (po_none.run pins s1 σ H1 (fun o H' => o = none ∧ H' = H1) I1 ⟨rfl, rfl⟩) fun vl s2 z => ?_)
  obtain ⟨_, _, I2, pl, rfl, rfl⟩ := z
  refine thn (po_none.run pins s2 σ _ (fun o H' => o = none ∧ H' = _) I2 ⟨rfl, rfl⟩) fun vu s3 z => ?_
  obtain ⟨_, _, I3, pu, rfl, rfl⟩ := z
  refine thn (hst.run pins s3 σ _ (fun o H' => ∃ a xs c, x = .ref a ∧ o = some c ∧ 0 < c ∧ SqL X.K H' a xs ∧ ∀ p, H' p = none → Q (.ref p) (upd H' p (.lst (stepV xs c)))) I3 q1) fun vs s4 z => ?_
  obtain ⟨_, H4, I4, ps, a, xs, c, rfl, rfl, c0, hx, q⟩ := z
  cases r1
  have I5 := I4.kept (h' := s4.heap.push { cls := .type "slice", data := .fields #[vl, vu, vs] }) (t' := s4.toks) fun b ob q => Heap.get?_push_of_some _ q
  obtain ⟨its, r, ht, hz⟩ := I5.list hx
  have hl := r.length
  have new := vals_pick r (sliceRange 0 its.length c)
  rw [← hl] at new
  have il : (its.toArray).size ≤ sizeLine := by rw [List.size_toArray]; omega
  have ll : (stepV xs c).length ≤ sizeLine := by
    refine Nat.le_trans (List.length_filterMap_le _ _) (Nat.le_trans (sliceRange_length_le 0 xs.length c xs.length (fun _ => ⟨Int.le_refl 0, Int.le_refl _⟩) fun z => absurd c0 z) hz)
  refine tail_any (ops := [.ref a, .ref s4.heap.objs.size]) ht.isList.typeIs (PySem.slot_list_getitem.lookup) ?_ (ho _ _)
  refine wpAny_getItem_list_slice ht.isList (Heap.IsSliceOf.new _ vl vu vs) pl pu ps (fun z => by injection z with z; omega) ?_ il
  rw [step_pick its c c0, ← hl]
  exact ⟨.ref _, _, I5.laid (o := .lst (stepV xs c)) (t' := s4.toks) (fun b ob q => Heap.get?_push_of_some _ q) (Nat.le_refl _) ⟨ll, _, 0, new, Heap.get?_push_size _ rfl⟩, rfl, q _ (I5.hok.fresh (Nat.le_refl _))⟩
end MC

set_option Elab.async false
set_option linter.all false
set_option maxRecDepth 100000
set_option maxHeartbeats 4000000
set_option exponentiation.threshold 20000
/-! ME: how many asks, which stands where. -/
namespace MC
open PySem PySem.Spec L2
mutual
def manyR : PyData → Int
  | .list xs => manyPs xs
  | .tuple xs => manyPs xs
  | _ => 0
def manyP : PyData → Int
  | .str _ => 1
  | .tuple [r, .int t] => manyR r * t
  | _ => 0
def manyPs : List PyData → Int
  | [] => 0
  | x :: xs => manyP x + manyPs xs
end
mutual
def atR : PyData → Int → Str
  | .list xs, p => atPs xs p
  | .tuple xs, p => atPs xs p
  | _, _ => ⟨#[]⟩
def atP : PyData → Int → Str
  | .str z, _ => z
  | .tuple [r, .int _], p => atR r (p % manyR r)
  | _, _ => ⟨#[]⟩
def atPs : List PyData → Int → Str
  | [], _ => ⟨#[]⟩
  | x :: xs, p => if p < manyP x then atP x p else atPs xs (p - manyP x)
end
theorem manyR_elems {d : PyData} (k : dSeq d = true) : manyR d = manyPs (elemsD d) := by
  cases d <;> first | rfl | cases k
theorem atR_elems {d : PyData} (k : dSeq d = true) (p : Int) : atR d p = atPs (elemsD d) p := by
  cases d <;> first | rfl | cases k
theorem manyPs_append (xs ys : List PyData) : manyPs (xs ++ ys) = manyPs xs + manyPs ys := by
  induction xs with
  | nil => simp [manyPs]
  | cons x xs ih => simp only [List.cons_append, manyPs, ih, Int.add_assoc]
theorem rowD_is {d : PyData} (h : rowD d = true) : dSeq d = true := by
  cases d <;> first | rfl | simp [rowD] at h
theorem partsD_get {xs : List PyData} (h : partsD xs = true) {i : Nat} {d : PyData} (e : xs[i]? = some d) : partD d = true := by
  rw [partsD_eq, List.all_eq_true] at h
  exact h d (List.mem_of_getElem? e)
theorem partD_cases {d : PyData} (h : partD d = true) : (∃ z, d = .str z ∧ isThingS z = true) ∨ ∃ r t, d = .tuple [r, .int t] ∧ 1 ≤ t ∧ t ≤ 10 ^ 30 ∧ dNil r = false ∧ rowD r = true := by
  unfold partD at h
  split at h
  · exact .inl ⟨_, rfl, h⟩
  · rename_i r t
    simp only [timesOk, Bool.and_eq_true, decide_eq_true_eq, Bool.not_eq_true'] at h
    exact .inr ⟨r, t, rfl, h.1.1.1, h.1.1.2, h.1.2, h.2⟩
  · cases h
def Bd (n k : Nat) : Int := ((n * 2 ^ (100 * k) : Nat) : Int)
theorem Bd_mono {n n' k k' : Nat} (h : n ≤ n') (hk : k ≤ k') : Bd n k ≤ Bd n' k' :=
  Int.ofNat_le.mpr (Nat.mul_le_mul h (Nat.pow_le_pow_right (by decide) (Nat.mul_le_mul_left _ hk)))
theorem Bd_add (n m k : Nat) : Bd n k + Bd m k = Bd (n + m) k := by
  unfold Bd
  rw [← Int.natCast_add, ← Nat.add_mul]
theorem Bd_times {n k : Nat} {a t : Int} (ha : a ≤ Bd n k) (a0 : 0 ≤ a) (t1 : 1 ≤ t) (t2 : t ≤ 10 ^ 30) : a * t ≤ Bd n (k + 1) := by
  have h1 : t ≤ ((2 ^ 100 : Nat) : Int) := Int.le_trans t2 (by decide)
  have h2 : a * t ≤ Bd n k * ((2 ^ 100 : Nat) : Int) := Int.mul_le_mul ha h1 (by omega) (Int.le_trans a0 ha)
  refine Int.le_trans h2 (Int.le_of_eq ?_)
  unfold Bd
  rw [← Int.natCast_mul, Nat.mul_assoc, ← Nat.pow_add, Nat.mul_add]
mutual
/-- asks of a part are one at least, and not too many -/
theorem manyR_bound : ∀ d : PyData, rowD d = true → 0 ≤ manyR d ∧ (dNil d = false → 1 ≤ manyR d) ∧ manyR d ≤ Bd (wD d) d.depth
  | .list xs, h => by
    obtain ⟨h1, h2, h3⟩ := manyPs_bound xs h
    refine ⟨h1, fun e => ?_, Int.le_trans h3 (Bd_mono (by simp only [wD]; omega) (by simp only [PyData.depth]; omega))⟩
    cases xs with
    | nil => simp [dNil] at e
    | cons x xs => exact h2 (List.cons_ne_nil _ _)
  | .tuple xs, h => by
    obtain ⟨h1, h2, h3⟩ := manyPs_bound xs h
    refine ⟨h1, fun e => ?_, Int.le_trans h3 (Bd_mono (by simp only [wD]; omega) (by simp only [PyData.depth]; omega))⟩
    cases xs with
    | nil => simp [dNil] at e
    | cons x xs => exact h2 (List.cons_ne_nil _ _)
  | .none, h => by simp [rowD] at h
  | .bool _, h => by simp [rowD] at h
  | .int _, h => by simp [rowD] at h
  | .str _, h => by simp [rowD] at h
  | .dict _, h => by simp [rowD] at h
termination_by d => 2 * wD d
decreasing_by all_goals (simp only [wD]; omega)
theorem manyP_bound : ∀ d : PyData, partD d = true → 1 ≤ manyP d ∧ manyP d ≤ Bd (wD d) d.depth
  | .str _, h => ⟨Int.le_refl _, by
    show (1 : Int) ≤ _
    have := Bd_mono (n := 1) (n' := 1) (k := 0) (k' := 0) (Nat.le_refl _) (Nat.le_refl _)
    simp only [wD, PyData.depth, Bd]
    decide⟩
  | .tuple [r, .int t], h => by
    simp only [partD, timesOk, Bool.and_eq_true, decide_eq_true_eq, Bool.not_eq_true'] at h
    obtain ⟨⟨⟨t1, t2⟩, hn⟩, hr⟩ := h
    obtain ⟨h1, h2, h3⟩ := manyR_bound r hr
    have h4 := h2 hn
    refine ⟨?_, ?_⟩
    · show 1 ≤ manyR r * t
      have : (1 : Int) * 1 ≤ manyR r * t := Int.mul_le_mul h4 t1 (by decide) h1
      omega
    · refine Int.le_trans (Bd_times h3 h1 t1 t2) (Bd_mono (by simp only [wD, wDs]; omega) (by simp only [PyData.depth, PyData.depthAll]; omega))
  | .tuple [], h => by cases (show false = true from h)
  | .tuple [_], h => by cases (show false = true from h)
  | .tuple [_, .none], h => by cases (show false = true from h)
  | .tuple [_, .bool _], h => by cases (show false = true from h)
  | .tuple [_, .str _], h => by cases (show false = true from h)
  | .tuple [_, .list _], h => by cases (show false = true from h)
  | .tuple [_, .tuple _], h => by cases (show false = true from h)
  | .tuple [_, .dict _], h => by cases (show false = true from h)
  | .tuple (_ :: _ :: _ :: _), h => by rcases partD_cases h with ⟨z, e, _⟩ | ⟨r, t, e, _⟩ <;> cases e
  | .none, h => by cases (show false = true from h)
  | .bool _, h => by cases (show false = true from h)
  | .int _, h => by cases (show false = true from h)
  | .list _, h => by cases (show false = true from h)
  | .dict _, h => by cases (show false = true from h)
termination_by d => 2 * wD d
decreasing_by all_goals (simp only [wD, wDs]; omega)
theorem manyPs_bound : ∀ xs : List PyData, partsD xs = true → 0 ≤ manyPs xs ∧ (xs ≠ [] → 1 ≤ manyPs xs) ∧ manyPs xs ≤ Bd (wDs xs) (PyData.depthAll xs)
  | [], _ => ⟨Int.le_refl _, fun e => absurd rfl e, by simp only [manyPs, wDs, PyData.depthAll, Bd]; decide⟩
  | x :: xs, h => by
    simp only [partsD, Bool.and_eq_true] at h
    obtain ⟨h1, h2⟩ := manyP_bound x h.1
    obtain ⟨h3, _, h4⟩ := manyPs_bound xs h.2
    refine ⟨by simp only [manyPs]; omega, fun _ => by simp only [manyPs]; omega, ?_⟩
    have a1 := Int.le_trans h2 (Bd_mono (n' := wD x) (k' := PyData.depthAll (x :: xs)) (Nat.le_refl _) (by simp only [PyData.depthAll]; omega))
    have a2 := Int.le_trans h4 (Bd_mono (n' := wDs xs) (k' := PyData.depthAll (x :: xs)) (Nat.le_refl _) (by simp only [PyData.depthAll]; omega))
    have a3 := Bd_add (wD x) (wDs xs) (PyData.depthAll (x :: xs))
    simp only [manyPs, wDs]
    omega
termination_by xs => 2 * wDs xs + 1
decreasing_by all_goals (have := wD_pos x; simp only [wDs]; omega)
end
/-- bits of a count -/
theorem many_bits {d : PyData} (h : rowD d = true) (hw : wD d ≤ 2000) (hd : d.depth ≤ 60) : (manyR d).natAbs < 2 ^ 6100 := by
  obtain ⟨h1, _, h2⟩ := manyR_bound d h
  have h3 := Int.le_trans h2 (Bd_mono hw hd)
  have h4 : (manyR d).natAbs ≤ 2000 * 2 ^ (100 * 60) := by
    unfold Bd at h3
    omega
  refine Nat.lt_of_le_of_lt h4 ?_
  have e : (2 : Nat) ^ 6100 = 2 ^ 100 * 2 ^ (100 * 60) := by rw [← Nat.pow_add]
  rw [e]
  exact Nat.mul_lt_mul_of_pos_right (by decide) (Nat.pow_pos (by decide))
mutual
def outR : PyData → List Str
  | .list xs => outPs xs
  | .tuple xs => outPs xs
  | _ => []
def outP : PyData → List Str
  | .str z => [z]
  | .tuple [r, .int t] => (List.replicate t.toNat (outR r)).flatten
  | _ => []
def outPs : List PyData → List Str
  | [] => []
  | x :: xs => outP x ++ outPs xs
end
theorem outR_elems {d : PyData} (k : dSeq d = true) : outR d = outPs (elemsD d) := by
  cases d <;> first | rfl | cases k
theorem outPs_append (xs ys : List PyData) : outPs (xs ++ ys) = outPs xs ++ outPs ys := by
  induction xs with
  | nil => rfl
  | cons x xs ih => simp only [List.cons_append, outPs, ih, List.append_assoc]
theorem rep_len {α : Type} (n : Nat) (l : List α) : (List.replicate n l).flatten.length = n * l.length := by
  induction n with
  | zero => simp
  | succ n ih => rw [List.replicate_succ, List.flatten_cons, List.length_append, ih, Nat.succ_mul]; omega
theorem rep_get {α : Type} (l : List α) (n k : Nat) (h : k < n * l.length) : (List.replicate n l).flatten[k]? = l[k % l.length]? := by
  induction n generalizing k with
  | zero => omega
  | succ n ih =>
    rw [List.replicate_succ, List.flatten_cons]
    have l0 : 0 < l.length := by
      cases l with
      | nil => simp at h
      | cons _ _ => simp
    by_cases lt : k < l.length
    · rw [List.getElem?_append_left lt, Nat.mod_eq_of_lt lt]
    · rw [List.getElem?_append_right (by omega), ih (k - l.length) (by rw [Nat.succ_mul] at h; omega)]
      rw [Nat.mod_eq_sub_mod (by omega : k ≥ l.length)]
mutual
theorem outR_get : ∀ d : PyData, rowD d = true → ((outR d).length : Int) = manyR d ∧ ∀ k : Nat, (k : Int) < manyR d → (outR d)[k]? = some (atR d k)
  | .list xs, h => outPs_get xs h
  | .tuple xs, h => outPs_get xs h
  | .none, h => by simp [rowD] at h
  | .bool _, h => by simp [rowD] at h
  | .int _, h => by simp [rowD] at h
  | .str _, h => by simp [rowD] at h
  | .dict _, h => by simp [rowD] at h
termination_by d => 2 * wD d
decreasing_by all_goals (simp only [wD]; omega)
theorem outP_get : ∀ d : PyData, partD d = true → ((outP d).length : Int) = manyP d ∧ ∀ k : Nat, (k : Int) < manyP d → (outP d)[k]? = some (atP d k)
  | .str z, h => ⟨rfl, fun k hk => by
    have : k = 0 := by simp only [manyP] at hk; omega
    subst this; rfl⟩
  | .tuple [r, .int t], h => by
    simp only [partD, timesOk, Bool.and_eq_true, decide_eq_true_eq, Bool.not_eq_true'] at h
    obtain ⟨⟨⟨t1, t2⟩, hn⟩, hr⟩ := h
    obtain ⟨h1, h2⟩ := outR_get r hr
    have m1 := (manyR_bound r hr).2.1 hn
    have tt : ((t.toNat : Nat) : Int) = t := by omega
    have len : (((List.replicate t.toNat (outR r)).flatten.length : Nat) : Int) = manyR r * t := by
      rw [rep_len, Int.natCast_mul, h1, tt, Int.mul_comm]
    refine ⟨len, fun k hk => ?_⟩
    have hk' : (k : Int) < manyR r * t := hk
    rw [← len] at hk'
    have hk2 : k < (List.replicate t.toNat (outR r)).flatten.length := by omega
    rw [rep_len] at hk2
    show (List.replicate t.toNat (outR r)).flatten[k]? = some (atR r (k % manyR r))
    rw [rep_get _ _ _ hk2]
    have km : ((k % (outR r).length : Nat) : Int) = (k : Int) % manyR r := by rw [Int.natCast_emod, h1]
    rw [h2 _ (by rw [km]; exact Int.emod_lt_of_pos _ (by omega)), km]
  | .tuple [], h => by cases (show false = true from h)
  | .tuple [_], h => by cases (show false = true from h)
  | .tuple [_, .none], h => by cases (show false = true from h)
  | .tuple [_, .bool _], h => by cases (show false = true from h)
  | .tuple [_, .str _], h => by cases (show false = true from h)
  | .tuple [_, .list _], h => by cases (show false = true from h)
  | .tuple [_, .tuple _], h => by cases (show false = true from h)
  | .tuple [_, .dict _], h => by cases (show false = true from h)
  | .tuple (_ :: _ :: _ :: _), h => by rcases partD_cases h with ⟨z, e, _⟩ | ⟨r, t, e, _⟩ <;> cases e
  | .none, h => by cases (show false = true from h)
  | .bool _, h => by cases (show false = true from h)
  | .int _, h => by cases (show false = true from h)
  | .list _, h => by cases (show false = true from h)
  | .dict _, h => by cases (show false = true from h)
termination_by d => 2 * wD d
decreasing_by all_goals (simp only [wD, wDs]; omega)
theorem outPs_get : ∀ xs : List PyData, partsD xs = true → ((outPs xs).length : Int) = manyPs xs ∧ ∀ k : Nat, (k : Int) < manyPs xs → (outPs xs)[k]? = some (atPs xs k)
  | [], _ => ⟨rfl, fun k hk => by simp only [manyPs] at hk; omega⟩
  | x :: xs, h => by
    simp only [partsD, Bool.and_eq_true] at h
    obtain ⟨h1, h2⟩ := outP_get x h.1
    obtain ⟨h3, h4⟩ := outPs_get xs h.2
    refine ⟨by simp only [outPs, manyPs, List.length_append]; omega, fun k hk => ?_⟩
    simp only [manyPs] at hk
    simp only [outPs, atPs]
    by_cases lt : (k : Int) < manyP x
    · rw [if_pos lt, List.getElem?_append_left (by omega), h2 k lt]
    · rw [if_neg lt, List.getElem?_append_right (by omega)]
      have e : ((k - (outP x).length : Nat) : Int) = (k : Int) - manyP x := by omega
      rw [h4 _ (by rw [e]; omega), e]
termination_by xs => 2 * wDs xs + 1
decreasing_by all_goals (have := wD_pos x; simp only [wDs]; omega)
end
theorem parts_split {xs : List PyData} (h : partsD xs = true) (i : Nat) : partsD (xs.take i) = true ∧ partsD (xs.drop i) = true := by
  rw [← List.take_append_drop i xs, partsD_eq, List.all_append, Bool.and_eq_true, ← partsD_eq, ← partsD_eq] at h
  exact h
theorem many_take {xs : List PyData} (h : partsD xs = true) (i : Nat) : 0 ≤ manyPs (xs.take i) ∧ manyPs (xs.take i) ≤ manyPs xs := by
  obtain ⟨h1, h2⟩ := parts_split h i
  have e := manyPs_append (xs.take i) (xs.drop i)
  rw [List.take_append_drop] at e
  have a := (manyPs_bound _ h1).1
  have b := (manyPs_bound _ h2).1
  omega
theorem many_one {xs : List PyData} (h : partsD xs = true) {i : Nat} {d : PyData} (e : xs[i]? = some d) : manyP d ≤ manyPs xs := by
  have h1 := many_take h i
  have h2 := many_take h (i + 1)
  have tk : xs.take (i + 1) = xs.take i ++ [d] := by rw [List.take_succ, e]; rfl
  rw [tk, manyPs_append] at h2
  simp only [manyPs] at h2
  omega
theorem many_upto {xs : List PyData} (h : partsD xs = true) {i : Nat} {d : PyData} (e : xs[i]? = some d) : manyPs (xs.take i) + manyP d ≤ manyPs xs := by
  have h2 := many_take h (i + 1)
  have tk : xs.take (i + 1) = xs.take i ++ [d] := by rw [List.take_succ, e]; rfl
  rw [tk, manyPs_append] at h2
  simp only [manyPs] at h2
  omega
theorem drop_at {α : Type} {xs : List α} {i : Nat} {d : α} (e : xs[i]? = some d) : xs.drop i = d :: xs.drop (i + 1) := by
  obtain ⟨il, e⟩ := List.getElem?_eq_some_iff.mp e
  rw [← e]; exact List.drop_eq_getElem_cons il
end MC

set_option Elab.async false
set_option linter.all false
set_option maxRecDepth 100000
set_option maxHeartbeats 4000000
/-! MF: a list of texts by steps, told again. -/
namespace MC
open PySem PySem.Spec L2
/-! a list of texts by steps, told again -/
theorem count_up {n : Nat} {c : Int} (hc : 1 ≤ c) : Builtin.Range.rangeSize 0 n c = ((((n : Int) + c - 1) / c).toNat : Nat) := by
  have h := PyProof.Rows.rangeSize_pos (len := (n : Int)) hc (by omega)
  rw [h]
  have : 0 ≤ ((n : Int) + c - 1) / c := Int.ediv_nonneg (by omega) (by omega)
  omega
theorem up_lt {n k : Nat} {c : Int} (hc : 1 ≤ c) (h : k < (((n : Int) + c - 1) / c).toNat) : (k : Int) * c < n := by
  have h1 : (k : Int) + 1 ≤ ((n : Int) + c - 1) / c := by omega
  have h2 : ((k : Int) + 1) * c ≤ (n : Int) + c - 1 := by
    have := Int.mul_le_mul_of_nonneg_right h1 (show 0 ≤ c by omega)
    have h3 := Int.ediv_mul_le ((n : Int) + c - 1) (show c ≠ 0 by omega)
    omega
  rw [Int.add_mul] at h2
  omega
theorem range_up {n : Nat} {c : Int} (hn : n < 10000) (hc : 1 ≤ c) (hc2 : c < 10000) : RgC 0 n c (((n : Int) + c - 1) / c).toNat := by
  have h := count_up (n := n) hc
  refine ⟨by omega, by omega, ?_, h⟩
  have hb : (((n : Int) + c - 1) / c).toNat ≤ 20000 := by
    have : ((n : Int) + c - 1) / c ≤ (n : Int) + c - 1 := Int.ediv_le_self _ (by omega)
    omega
  unfold Builtin.Range.small
  rw [h]
  have c0 : c > 0 := by omega
  simp only [Builtin.Range.rangeFitsLong, Bool.and_eq_true, Bool.or_eq_true, decide_eq_true_eq, beq_iff_eq, c0, if_true]
  omega
theorem fm_map {α β : Type} {f : α → Option β} {g : α → β} : ∀ {l : List α}, (∀ x ∈ l, f x = some (g x)) → l.filterMap f = l.map g
  | [], _ => rfl
  | x :: l, h => by
    rw [List.filterMap_cons_some (h x (by simp)), List.map_cons, fm_map fun y hy => h y (by simp [hy])]
theorem step_out {d : PyData} (hr : rowD d = true) {c : Int} (hc : 1 ≤ c) : stepV ((outR d).map V.str) c = (List.range (((((outR d).length : Nat) : Int) + c - 1) / c).toNat).map fun k => V.str (atR d ((k : Nat) * c)) := by
  obtain ⟨h1, h2⟩ := outR_get d hr
  unfold stepV sliceRange
  rw [List.length_map]
  have e : (if c > 0 then (if (0 : Int) < (((outR d).length : Nat) : Int) then ((((outR d).length : Nat) : Int) - 0 + c - 1) / c else 0) else (if (0 : Int) > (((outR d).length : Nat) : Int) then (0 - (((outR d).length : Nat) : Int) - c - 1) / (-c) else 0)) = ((((outR d).length : Nat) : Int) + c - 1) / c := by
    rw [if_pos (by omega)]
    by_cases z : (0 : Int) < (((outR d).length : Nat) : Int)
    · rw [if_pos z, Int.sub_zero]
    · rw [if_neg z]
      have : (((outR d).length : Nat) : Int) = 0 := by omega
      rw [this]
      exact (Int.ediv_eq_zero_of_lt (by omega) (by omega)).symm
  rw [e, List.filterMap_map]
  refine fm_map fun k hk => ?_
  have kl := up_lt hc (List.mem_range.mp hk)
  have k0 : 0 ≤ (k : Int) * c := Int.mul_nonneg (by omega) (by omega)
  show ((outR d).map V.str)[(0 + c * (k : Int)).toNat]? = _
  have e2 : (0 + c * (k : Int)).toNat = ((k : Int) * c).toNat := by rw [Int.mul_comm]; congr 1; omega
  rw [e2, List.getElem?_map, h2 _ (by omega), show ((((k : Int) * c).toNat : Nat) : Int) = (k : Int) * c by omega]
  rfl
mutual
theorem outR_things : ∀ d : PyData, rowD d = true → (outR d).all isThingS = true
  | .list xs, h => outPs_things xs h
  | .tuple xs, h => outPs_things xs h
  | .none, h => by simp [rowD] at h
  | .bool _, h => by simp [rowD] at h
  | .int _, h => by simp [rowD] at h
  | .str _, h => by simp [rowD] at h
  | .dict _, h => by simp [rowD] at h
termination_by d => 2 * wD d
decreasing_by all_goals (simp only [wD]; omega)
theorem outP_things : ∀ d : PyData, partD d = true → (outP d).all isThingS = true
  | .str z, h => by
    have h' : isThingS z = true := h
    simp [outP, h']
  | .tuple [r, .int t], h => by
    simp only [partD, timesOk, Bool.and_eq_true, decide_eq_true_eq, Bool.not_eq_true'] at h
    have hr := outR_things r h.2
    rw [List.all_eq_true] at hr ⊢
    intro z hz
    obtain ⟨l, hl, hz2⟩ := List.mem_flatten.mp (show z ∈ (List.replicate t.toNat (outR r)).flatten from hz)
    rw [(List.mem_replicate.mp hl).2] at hz2
    exact hr z hz2
  | .tuple [], h => by cases (show false = true from h)
  | .tuple [_], h => by cases (show false = true from h)
  | .tuple [_, .none], h => by cases (show false = true from h)
  | .tuple [_, .bool _], h => by cases (show false = true from h)
  | .tuple [_, .str _], h => by cases (show false = true from h)
  | .tuple [_, .list _], h => by cases (show false = true from h)
  | .tuple [_, .tuple _], h => by cases (show false = true from h)
  | .tuple [_, .dict _], h => by cases (show false = true from h)
  | .tuple (_ :: _ :: _ :: _), h => by rcases partD_cases h with ⟨z, e, _⟩ | ⟨r, t, e, _⟩ <;> cases e
  | .none, h => by cases (show false = true from h)
  | .bool _, h => by cases (show false = true from h)
  | .int _, h => by cases (show false = true from h)
  | .list _, h => by cases (show false = true from h)
  | .dict _, h => by cases (show false = true from h)
termination_by d => 2 * wD d
decreasing_by all_goals (simp only [wD, wDs]; omega)
theorem outPs_things : ∀ xs : List PyData, partsD xs = true → (outPs xs).all isThingS = true
  | [], _ => rfl
  | x :: xs, h => by
    simp only [partsD, Bool.and_eq_true] at h
    simp only [outPs, List.all_append, outP_things x h.1, outPs_things xs h.2, Bool.and_self]
termination_by xs => 2 * wDs xs + 1
decreasing_by all_goals (have := wD_pos x; simp only [wDs]; omega)
end
theorem atPs_after {xs : List PyData} (h : partsD xs = true) (ys : List PyData) {p : Int} (hp : manyPs xs ≤ p) : atPs (xs ++ ys) p = atPs ys (p - manyPs xs) := by
  induction xs generalizing p with
  | nil => simp [manyPs]
  | cons x xs ih =>
    simp only [partsD, Bool.and_eq_true] at h
    have h1 := (manyP_bound x h.1).1
    have h2 := (manyPs_bound xs h.2).1
    simp only [manyPs] at hp ⊢
    simp only [List.cons_append, atPs]
    rw [if_neg (by omega), ih h.2 (by omega)]
    congr 1
    omega
theorem dp_strs (K : PySem.W.Frag) (H : Hp) : ∀ zs : List Str, DpAll K H (zs.map V.str) (zs.map PyData.str)
  | [] => .nil
  | z :: zs => .cons (.str z) (dp_strs K H zs)
theorem eqv_strs : ∀ zs : List Str, PyData.eqvAll (zs.map PyData.str) (zs.map PyData.str) = true
  | [] => by simp only [List.map_nil, PyData.eqvAll]
  | z :: zs => by simp only [List.map_cons, PyData.eqvAll, PyData.eqv, eqv_strs zs, beq_self_eq_true, Bool.and_self]
theorem lay_strs : ∀ zs : List Str, zs.all isThingS = true → PyData.canLayAll0 (zs.map PyData.str) = true ∧ PyData.depthAll (zs.map PyData.str) = 0
  | [], _ => ⟨by simp only [List.map_nil, PyData.canLayAll0], by simp only [List.map_nil, PyData.depthAll]⟩
  | z :: zs, h => by
    rw [List.all_cons, Bool.and_eq_true] at h
    obtain ⟨h1, h2⟩ := lay_strs zs h.2
    refine ⟨?_, by simp only [List.map_cons, PyData.depthAll, PyData.depth, h2]; omega⟩
    simp only [List.map_cons, PyData.canLayAll0, PyData.canLay0, h1, Bool.and_true]
    have ht := h.1
    unfold isThingS at ht
    simp only [Bool.and_eq_true, List.all_eq_true] at ht
    show PySem.PyData.strOk z = true
    unfold PySem.PyData.strOk
    rw [← Array.all_toList, List.all_eq_true]
    intro c hc
    have := ht.2 c hc
    unfold isSign at this
    simp only [Bool.and_eq_true, decide_eq_true_eq] at this
    exact decide_eq_true (Nat.lt_of_le_of_lt this.2 (by decide))
theorem shaped_strs {zs : List Str} (h : zs.all isThingS = true) : SeqAt.shaped (.list (zs.map PyData.str)) = true := by
  obtain ⟨h1, h2⟩ := lay_strs zs h
  unfold SeqAt.shaped
  rw [Bool.and_eq_true]
  refine ⟨by simp only [PyData.canLay0]; exact h1, decide_eq_true (by simp only [PyData.depth]; omega)⟩
/-- what stands at places is a thing -/
theorem at_thing {d : PyData} (h : rowD d = true) {p : Int} (h0 : 0 ≤ p) (h1 : p < manyR d) : isThingS (atR d p) = true := by
  have g := (outR_get d h).2 p.toNat (by omega)
  rw [show ((p.toNat : Nat) : Int) = p by omega] at g
  exact List.all_eq_true.mp (outR_things d h) _ (List.mem_of_getElem? g)
end MC

set_option Elab.async false
set_option linter.all false
set_option maxRecDepth 100000
set_option maxHeartbeats 4000000
/-! MG: how often ahead, the place of the so-manieth: on rows laid out. -/
namespace MC
open PySem PySem.Spec L2
/-- how often z stands ahead of place p of l -/
def aheadL (l : List Str) (z : Str) (p : Nat) : Nat := (l.take p).count z
/-- p is the place of the n-th z -/
def IsNth (l : List Str) (z : Str) (n p : Nat) : Prop := l[p]? = some z ∧ aheadL l z p = n
theorem aheadL_le (l : List Str) (z : Str) (p : Nat) : aheadL l z p ≤ l.count z := List.Sublist.count_le z (List.take_sublist p l)
theorem aheadL_all {l : List Str} {z : Str} {p : Nat} (h : l.length ≤ p) : aheadL l z p = l.count z := by
  unfold aheadL; rw [List.take_of_length_le h]
theorem aheadL_append (a b : List Str) (z : Str) (p : Nat) : aheadL (a ++ b) z p = aheadL a z p + aheadL b z (p - a.length) := by
  unfold aheadL; rw [List.take_append, List.count_append]
theorem aheadL_succ {l : List Str} {p : Nat} {x : Str} (h : l[p]? = some x) (z : Str) : aheadL l z (p + 1) = aheadL l z p + (if x = z then 1 else 0) := by
  unfold aheadL
  rw [show l.take (p + 1) = l.take p ++ [x] by rw [List.take_succ, h]; rfl, List.count_append, List.count_singleton]
  by_cases e : x = z
  · simp [e]
  · simp [e]
theorem aheadL_mono (l : List Str) (z : Str) {p q : Nat} (h : p ≤ q) : aheadL l z p ≤ aheadL l z q := by
  unfold aheadL
  exact List.Sublist.count_le z ((List.take_prefix_take_left h).sublist)
/-- there is but one -/
theorem isNth_inj {l : List Str} {z : Str} {n p q : Nat} (h : IsNth l z n p) (k : IsNth l z n q) : p = q := by
  have main : ∀ {p q : Nat}, IsNth l z n p → IsNth l z n q → ¬ p < q := fun {p q} h k lt => by
    have a := aheadL_succ h.1 z
    have b := aheadL_mono l z (show p + 1 ≤ q from lt)
    rw [if_pos rfl, h.2] at a
    rw [k.2] at b
    omega
  have h1 := main h k
  have h2 := main k h
  omega
theorem isNth_lt {l : List Str} {z : Str} {n p : Nat} (h : IsNth l z n p) : p < l.length := (List.getElem?_eq_some_iff.mp h.1).1
theorem rep_take {α : Type} (l : List α) (h : 0 < l.length) (t p : Nat) (hp : p ≤ t * l.length) : (List.replicate t l).flatten.take p = (List.replicate (p / l.length) l).flatten ++ l.take (p % l.length) := by
  induction t generalizing p with
  | zero =>
    have : p = 0 := by omega
    subst this
    simp
  | succ t ih =>
    rw [List.replicate_succ, List.flatten_cons, List.take_append]
    by_cases lt : p < l.length
    · rw [Nat.div_eq_of_lt lt, Nat.mod_eq_of_lt lt, show p - l.length = 0 by omega]
      simp
    · have ge : l.length ≤ p := by omega
      rw [List.take_of_length_le ge, ih (p - l.length) (by rw [Nat.succ_mul] at hp; omega)]
      have e1 : p / l.length = (p - l.length) / l.length + 1 := by rw [Nat.div_eq_sub_div h ge]
      have e2 : p % l.length = (p - l.length) % l.length := by rw [Nat.mod_eq_sub_mod ge]
      rw [e1, e2, List.replicate_succ, List.flatten_cons, List.append_assoc]
theorem rep_count (l : List Str) (z : Str) (t : Nat) : (List.replicate t l).flatten.count z = t * l.count z := by
  induction t with
  | zero => simp
  | succ t ih => rw [List.replicate_succ, List.flatten_cons, List.count_append, ih, Nat.succ_mul]; omega
/-- ahead of a place within what is said over -/
theorem aheadL_rep {l : List Str} {z : Str} (h : 0 < l.length) {t p : Nat} (hp : p ≤ t * l.length) : aheadL (List.replicate t l).flatten z p = p / l.length * l.count z + aheadL l z (p % l.length) := by
  unfold aheadL
  rw [rep_take l h t p hp, List.count_append, rep_count]
/-- the n-th within what is said over -/
theorem isNth_rep {l : List Str} {z : Str} {t k n p : Nat} (hk : k < t) (h : IsNth l z n p) : IsNth (List.replicate t l).flatten z (k * l.count z + n) (k * l.length + p) := by
  have pl := isNth_lt h
  have l0 : 0 < l.length := by omega
  have lt : k * l.length + p < t * l.length := by
    have : (k + 1) * l.length ≤ t * l.length := Nat.mul_le_mul_right _ hk
    rw [Nat.succ_mul] at this
    omega
  have e1 : (k * l.length + p) % l.length = p := by rw [Nat.add_comm, Nat.add_mul_mod_self_right, Nat.mod_eq_of_lt pl]
  have e2 : (k * l.length + p) / l.length = k := by rw [Nat.add_comm, Nat.add_mul_div_right _ _ l0, Nat.div_eq_of_lt pl]; omega
  refine ⟨?_, ?_⟩
  · rw [rep_get _ _ _ lt, e1]; exact h.1
  · rw [aheadL_rep l0 (Nat.le_of_lt lt), e1, e2, h.2]
theorem isNth_after {a b : List Str} {z : Str} {n p : Nat} (h : IsNth b z n p) : IsNth (a ++ b) z (a.count z + n) (a.length + p) := by
  refine ⟨?_, ?_⟩
  · rw [List.getElem?_append_right (by omega), show a.length + p - a.length = p by omega]; exact h.1
  · rw [aheadL_append, aheadL_all (by omega), show a.length + p - a.length = p by omega, h.2]
theorem isNth_before {a b : List Str} {z : Str} {n p : Nat} (h : IsNth a z n p) : IsNth (a ++ b) z n p := by
  have pl := isNth_lt h
  refine ⟨?_, ?_⟩
  · rw [List.getElem?_append_left pl]; exact h.1
  · rw [aheadL_append, h.2, show p - a.length = 0 by omega]; simp [aheadL]
end MC

set_option Elab.async false
set_option linter.all false
set_option maxRecDepth 100000
set_option maxHeartbeats 4000000
namespace K03
open PySem PySem.Spec L2 MC
open PyProof.Rows hiding St
def top (i : Nat) : Stmt := PySem.Challenge.pw_missclock_k03_so_often_ahead.main.body.getD i (.Pass ⟨0, 0, 0, 0⟩)
abbrev s_is_whole : Stmt := top 2
theorem sc_is_whole : FnScope ["value"] ["value"] (defScope s_is_whole) := ⟨rfl, rfl, rfl, by decide +kernel, rfl, by decide +kernel, by decide +kernel⟩
abbrev s_copied : Stmt := top 3
theorem sc_copied : FnScope ["value", "deep", "item", "key"] ["value", "deep"] (defScope s_copied) := ⟨rfl, rfl, rfl, by decide +kernel, rfl, by decide +kernel, by decide +kernel⟩
abbrev s_is_thing : Stmt := top 13
theorem sc_is_thing : FnScope ["thing"] ["thing"] (defScope s_is_thing) := ⟨rfl, rfl, rfl, by decide +kernel, rfl, by decide +kernel, by decide +kernel⟩
abbrev s_are_things : Stmt := top 14
theorem sc_are_things : FnScope ["values", "texts", "text"] ["values"] (defScope s_are_things) := ⟨rfl, rfl, rfl, by decide +kernel, rfl, by decide +kernel, by decide +kernel⟩
abbrev s_are_small : Stmt := top 15
theorem sc_are_small : FnScope ["signs"] ["signs"] (defScope s_are_small) := ⟨rfl, rfl, rfl, by decide +kernel, rfl, by decide +kernel, by decide +kernel⟩
abbrev s_is_row : Stmt := top 16
theorem sc_is_row : FnScope ["thing", "waiting", "row", "deep", "agains", "part"] ["thing"] (defScope s_is_row) := ⟨rfl, rfl, rfl, by decide +kernel, rfl, by decide +kernel, by decide +kernel⟩
abbrev s_looks_again : Stmt := top 17
theorem sc_looks_again : FnScope ["part", "row", "times"] ["part"] (defScope s_looks_again) := ⟨rfl, rfl, rfl, by decide +kernel, rfl, by decide +kernel, by decide +kernel⟩
abbrev s_ask_at : Stmt := top 18
theorem sc_ask_at : FnScope ["row", "place"] ["row", "place"] (defScope s_ask_at) := ⟨rfl, rfl, rfl, by decide +kernel, rfl, by decide +kernel, by decide +kernel⟩
abbrev s_asked_ahead : Stmt := top 19
theorem sc_asked_ahead : FnScope ["row", "thing", "place"] ["row", "thing", "place"] (defScope s_asked_ahead) := ⟨rfl, rfl, rfl, by decide +kernel, rfl, by decide +kernel, by decide +kernel⟩
abbrev s_so_manieth : Stmt := top 20
theorem sc_so_manieth : FnScope ["row", "thing", "number"] ["row", "thing", "number"] (defScope s_so_manieth) := ⟨rfl, rfl, rfl, by decide +kernel, rfl, by decide +kernel, by decide +kernel⟩
abbrev s_asked_before : Stmt := top 21
theorem sc_asked_before : FnScope ["row", "place", "thing", "ahead"] ["row", "place"] (defScope s_asked_before) := ⟨rfl, rfl, rfl, by decide +kernel, rfl, by decide +kernel, by decide +kernel⟩
abbrev s_check_row : Stmt := top 22
theorem sc_check_row : FnScope ["row"] ["row"] (defScope s_check_row) := ⟨rfl, rfl, rfl, by decide +kernel, rfl, by decide +kernel, by decide +kernel⟩
abbrev s_check_thing : Stmt := top 23
theorem sc_check_thing : FnScope ["thing"] ["thing"] (defScope s_check_thing) := ⟨rfl, rfl, rfl, by decide +kernel, rfl, by decide +kernel, by decide +kernel⟩
abbrev s_check_place : Stmt := top 24
theorem sc_check_place : FnScope ["place", "many"] ["place", "many"] (defScope s_check_place) := ⟨rfl, rfl, rfl, by decide +kernel, rfl, by decide +kernel, by decide +kernel⟩
abbrev s_count_asks : Stmt := top 25
theorem sc_count_asks : FnScope ["row", "agains", "part", "inner", "times"] ["row"] (defScope s_count_asks) := ⟨rfl, rfl, rfl, by decide +kernel, rfl, by decide +kernel, by decide +kernel⟩
abbrev s_part_asks : Stmt := top 26
theorem sc_part_asks : FnScope ["part", "inner", "times"] ["part"] (defScope s_part_asks) := ⟨rfl, rfl, rfl, by decide +kernel, rfl, by decide +kernel, by decide +kernel⟩
abbrev s_thing_at : Stmt := top 27
theorem sc_thing_at : FnScope ["row", "place", "at", "rest", "part", "inner"] ["row", "place"] (defScope s_thing_at) := ⟨rfl, rfl, rfl, by decide +kernel, rfl, by decide +kernel, by decide +kernel⟩
abbrev s_part_with : Stmt := top 28
theorem sc_part_with : FnScope ["row", "place", "at", "part", "many"] ["row", "place"] (defScope s_part_with) := ⟨rfl, rfl, rfl, by decide +kernel, rfl, by decide +kernel, by decide +kernel⟩
abbrev s_often_in : Stmt := top 29
theorem sc_often_in : FnScope ["row", "thing", "part"] ["row", "thing"] (defScope s_often_in) := ⟨rfl, rfl, rfl, by decide +kernel, rfl, by decide +kernel, by decide +kernel⟩
abbrev s_part_often : Stmt := top 30
theorem sc_part_often : FnScope ["part", "thing", "inner", "times"] ["part", "thing"] (defScope s_part_often) := ⟨rfl, rfl, rfl, by decide +kernel, rfl, by decide +kernel, by decide +kernel⟩
abbrev s_often_ahead : Stmt := top 31
theorem sc_often_ahead : FnScope ["row", "thing", "place", "at", "rest", "many", "inner", "turns", "within"] ["row", "thing", "place"] (defScope s_often_ahead) := ⟨rfl, rfl, rfl, by decide +kernel, rfl, by decide +kernel, by decide +kernel⟩
abbrev s_place_of : Stmt := top 32
theorem sc_place_of : FnScope ["row", "thing", "number", "at", "ahead", "inner", "turns", "rest"] ["row", "thing", "number"] (defScope s_place_of) := ⟨rfl, rfl, rfl, by decide +kernel, rfl, by decide +kernel, by decide +kernel⟩
abbrev s_l_dice : Stmt := top 34
theorem sc_l_dice : FnScope ["_law_script", "_law_great", "_law_mixed", "_law_cell"] ["_law_script"] (defScope s_l_dice) := ⟨rfl, rfl, rfl, by decide +kernel, rfl, by decide +kernel, by decide +kernel⟩
abbrev s_l_roll : Stmt := top 35
theorem sc_l_roll : FnScope ["_law_dice_here", "_law_many_here", "_law_found", "_law_pips"] ["_law_dice_here", "_law_many_here"] (defScope s_l_roll) := ⟨rfl, rfl, rfl, by decide +kernel, rfl, by decide +kernel, by decide +kernel⟩
abbrev s_l_names : Stmt := top 36
theorem sc_l_names : FnScope ["_law_dice_here", "_law_many_here", "_law_letters", "_law_left", "_law_sign", "_law_k"] ["_law_dice_here", "_law_many_here"] (defScope s_l_names) := ⟨rfl, rfl, rfl, by decide +kernel, rfl, by decide +kernel, by decide +kernel⟩
abbrev s_l_row : Stmt := top 37
theorem sc_l_row : FnScope ["_law_dice_here", "_law_names_here", "_law_plan", "_law_layers", "_law_found", "_law_k", "_law_name", "_law_again", "_law_inner", "_law_times"] ["_law_dice_here", "_law_names_here", "_law_plan", "_law_layers"] (defScope s_l_row) := ⟨rfl, rfl, rfl, by decide +kernel, rfl, by decide +kernel, by decide +kernel⟩
abbrev s_l_dressed : Stmt := top 38
theorem sc_l_dressed : FnScope ["_law_dice_here", "_law_line", "_law_found", "_law_part"] ["_law_dice_here", "_law_line"] (defScope s_l_dressed) := ⟨rfl, rfl, rfl, by decide +kernel, rfl, by decide +kernel, by decide +kernel⟩
abbrev s_l_many : Stmt := top 39
theorem sc_l_many : FnScope ["_law_line", "_law_found", "_law_part"] ["_law_line"] (defScope s_l_many) := ⟨rfl, rfl, rfl, by decide +kernel, rfl, by decide +kernel, by decide +kernel⟩
abbrev s_l_out : Stmt := top 40
theorem sc_l_out : FnScope ["_law_line", "_law_found", "_law_part"] ["_law_line"] (defScope s_l_out) := ⟨rfl, rfl, rfl, by decide +kernel, rfl, by decide +kernel, by decide +kernel⟩
abbrev s_l_same : Stmt := top 41
theorem sc_l_same : FnScope ["_law_found", "_law_due", "_law_one", "_law_other"] ["_law_found", "_law_due"] (defScope s_l_same) := ⟨rfl, rfl, rfl, by decide +kernel, rfl, by decide +kernel, by decide +kernel⟩
abbrev s_l_counted : Stmt := top 42
theorem sc_l_counted : FnScope ["_law_line", "_law_name", "_law_found", "_law_part"] ["_law_line", "_law_name"] (defScope s_l_counted) := ⟨rfl, rfl, rfl, by decide +kernel, rfl, by decide +kernel, by decide +kernel⟩
abbrev s_l_ahead : Stmt := top 43
theorem sc_l_ahead : FnScope ["_law_line", "_law_name", "_law_place", "_law_found", "_law_part", "_law_size", "_law_once"] ["_law_line", "_law_name", "_law_place"] (defScope s_l_ahead) := ⟨rfl, rfl, rfl, by decide +kernel, rfl, by decide +kernel, by decide +kernel⟩
abbrev s_l_thing_right : Stmt := top 44
theorem sc_l_thing_right : FnScope ["_law_dice_here", "_law_handed", "_law_line", "_law_name", "_law_many_here", "_law_place", "_law_own", "_law_number", "_law_ahead_here", "_law_far"] ["_law_dice_here", "_law_handed", "_law_line", "_law_name"] (defScope s_l_thing_right) := ⟨rfl, rfl, rfl, by decide +kernel, rfl, by decide +kernel, by decide +kernel⟩
abbrev s_l_near_right : Stmt := top 45
theorem sc_l_near_right : FnScope ["_law_handed", "_law_asks", "_law_known", "_law_place", "_law_name"] ["_law_handed", "_law_asks"] (defScope s_l_near_right) := ⟨rfl, rfl, rfl, by decide +kernel, rfl, by decide +kernel, by decide +kernel⟩
abbrev s_law : Stmt := top 46
theorem sc_law : FnScope ["_law_script", "_law_dice_here", "_law_turn", "_law_names_here", "_law_far", "_law_line", "_law_handed", "_law_kept", "_law_name"] ["_law_script"] (defScope s_law) := ⟨rfl, rfl, rfl, by decide +kernel, rfl, by decide +kernel, by decide +kernel⟩
/-- a def of the text, as it is called -/
structure Own (K : PySem.W.Frag) (mg : Str → Option Value) (x : Str) (st : Stmt) (f : Addr) (fd : FuncData) (ps : List Str) : Prop where
  F : Fun K x x st f fd
  m : mg x = some (.ref f)
  b : Binds K fd ps []
structure Txt (K : PySem.W.Frag) (mg : Str → Option Value) : Prop where
  n_isinstance : mg "isinstance" = none
  n_int : mg "int" = none
  n_bool : mg "bool" = none
  n_str : mg "str" = none
  n_list : mg "list" = none
  n_tuple : mg "tuple" = none
  n_len : mg "len" = none
  n_all : mg "all" = none
  n_range : mg "range" = none
  n_min : mg "min" = none
  n_repr : mg "repr" = none
  n_enumerate : mg "enumerate" = none
  n_sum : mg "sum" = none
  n_zip : mg "zip" = none
  n_divmod : mg "divmod" = none
  n_max : mg "max" = none
  c_LONGEST_THING : ∃ t, mg "LONGEST_THING" = some (.int 8 t)
  c_MOST_TIMES : ∃ t, mg "MOST_TIMES" = some (.int 1000000000000000000000000000000 t)
  c_DEEPEST_ROW : ∃ t, mg "DEEPEST_ROW" = some (.int 2000000 t)
  sys : ∃ o, K.lookup sysModules = some o

/-! ### promises -/
theorem weak {P : Program} {w : World} {K : PySem.W.Frag} {mg : Str → Option Value} {base : Heap} {k : Nat} {f : Addr} {fd : FuncData} {ps : List Str} {sp sp' : Sp} (F : FnOk P w K mg base CX0 k f fd ps sp) (h : ∀ vs H Q E, sp' vs H Q E → sp vs H Q E) : FnOk P w K mg base CX0 k f fd ps sp' :=
  ⟨fun vs H Q E z => F.len vs H Q E (h vs H Q E z), fun A outer s H args us vs Q E a b c d z => F.run A outer s H args us vs Q E a b c d (h vs H Q E z)⟩
def spD0 (g : PyData → Bool) : Sp := fun vs H Q _ => ∃ x d, vs = [x] ∧ DD H x d ∧ ∀ H', Same H H' → Q (.bl (g d)) H'
theorem spD0_len {g : PyData → Bool} : ∀ vs H Q E, spD0 g vs H Q E → vs.length = 1 := fun vs H Q E h => by
  obtain ⟨x, d, rfl, _⟩ := h
  rfl
/-- all that was tracked stays, the answer is the data's -/
def spD (g : PyData → Bool) : Sp := fun vs H Q _ => ∃ x d, vs = [x] ∧ DD H x d ∧ okD d = true ∧ d.depth ≤ 60 ∧ wD d ≤ 2000 ∧ ∀ H', Same H H' → Q (.bl (g d)) H'
theorem spD_len {g : PyData → Bool} : ∀ vs H Q E, spD g vs H Q E → vs.length = 1 := fun vs H Q E h => by
  obtain ⟨x, d, rfl, _⟩ := h
  rfl
section
variable {P : Program} {w : World} {K : PySem.W.Frag} {mg : Str → Option Value} {base : Heap}
variable {f_is_whole f_is_thing f_is_row f_looks_again f_are_small f_are_things : Addr} {fd_is_whole fd_is_thing fd_is_row fd_looks_again fd_are_small fd_are_things : FuncData}

theorem ok_is_whole0 (T : Txt K mg) (O_is_whole : Own K mg "is_whole" s_is_whole f_is_whole fd_is_whole ["value"]) : FnOk P w K mg base CX0 1 f_is_whole fd_is_whole ["value"] (spD0 wholeD) := by
  refine O_is_whole.F.ok sc_is_whole spD0_len (fun cdv A outer s H vs Q E hr h => ?_)
  obtain ⟨x, d, rfl, hd, q⟩ := h
  refine ⟨_, (pss_one (ps_ret (pe_and (pe_callB (k_isi (K := K) rfl) (by rfl) T.n_isinstance (by decide +kernel) (pa_cons (pv 0) (pa_cons (pe_bltn (v := .ty "int") (by rfl) T.n_int (by decide +kernel) rfl) pa_nil))) (pe_one (pe_not (pe_callB (k_isi (K := K) rfl) (by rfl) T.n_isinstance (by decide +kernel) (pa_cons (pv 0) (pa_cons (pe_bltn (v := .ty "bool") (by rfl) T.n_bool (by decide +kernel) rfl) pa_nil)))))))), ?_⟩
  refine ⟨_, rfl, _, _, _, _, _, rfl, .ty _, ty_of hd, kI_int, _, rfl, ?_⟩
  refine ite2 (fun c => ?_) (fun c => ?_)
  · refine ⟨_, rfl, _, _, _, _, _, rfl, .ty _, ty_of hd, kI_bool, _, rfl, ?_⟩
    have e : (!dBool d) = wholeD d := by cases d <;> simp [dInt, dBool, wholeD] at c ⊢
    rw [e]
    exact q H (Same.refl H)
  · have e : wholeD d = false := by cases d <;> simp [dInt, wholeD] at c ⊢
    have q := q H (Same.refl H)
    rw [e] at q
    exact q

theorem ok_is_whole (T : Txt K mg) (O_is_whole : Own K mg "is_whole" s_is_whole f_is_whole fd_is_whole ["value"]) : FnOk P w K mg base CX0 1 f_is_whole fd_is_whole ["value"] (spD wholeD) :=
  weak (ok_is_whole0 T O_is_whole) fun vs H Q E h => by
    obtain ⟨x, d, rfl, hd, hok, hdp, hwd, q⟩ := h
    exact ⟨x, d, rfl, hd, q⟩
theorem ok_looks_again (T : Txt K mg) (G_is_whole : FnOk P w K mg base CX0 1 f_is_whole fd_is_whole ["value"] (spD wholeD)) (O_is_whole : Own K mg "is_whole" s_is_whole f_is_whole fd_is_whole ["value"]) (O_looks_again : Own K mg "_looks_again" s_looks_again f_looks_again fd_looks_again ["part"]) : FnOk P w K mg base CX0 2 f_looks_again fd_looks_again ["part"] (spD againD) := by
  refine O_looks_again.F.ok sc_looks_again spD_len (fun cdv A outer s H vs Q E hr h => ?_)
  obtain ⟨x, d, rfl, hd, hok, hdp, hwd, q⟩ := h
  obtain ⟨tmt, c_MOST_TIMES⟩ := T.c_MOST_TIMES
  refine ⟨_, (pss_cons (ps_if (PW.pt (pw_or (pt_not (pt_val (pe_callB (k_isi (K := K) rfl) (by rfl) T.n_isinstance (by decide +kernel) (pa_cons (pv 0) (pa_cons (pe_bltn (v := .ty "tuple") (by rfl) T.n_tuple (by decide +kernel) rfl) pa_nil))))) (pw_or1 (pt_cmpR op_ne (pe_callB (k_len_seq (K := K) rfl) (by rfl) T.n_len (by decide +kernel) (pa_cons (pv 0) pa_nil)) pe_int (nomark _)))))
    (pss_one (ps_ret pe_bl))
    pss_nil)
    (pss_cons (ps_asg (pv 0) (pg_tup rfl (pgs_cons (pg_name (i := 1) sc_looks_again.nd rfl (Or.inl rfl)) (pgs_cons (pg_name (i := 2) sc_looks_again.nd rfl (Or.inl rfl)) pgs_nil))))
    (pss_cons (ps_if (PW.pt (pw_or (pt_not (pt_val (pe_callB (k_isiT (K := K) rfl) (by rfl) T.n_isinstance (by decide +kernel) (pa_cons (pv 1) (pa_cons (pe_tup (pa_cons (pe_bltn (v := .ty "list") (by rfl) T.n_list (by decide +kernel) rfl) (pa_cons (pe_bltn (v := .ty "tuple") (by rfl) T.n_tuple (by decide +kernel) rfl) pa_nil))) pa_nil))))) (pw_or1 (pt_cmpR op_eq (pe_callB (k_len_seq (K := K) rfl) (by rfl) T.n_len (by decide +kernel) (pa_cons (pv 1) pa_nil)) pe_int (nomark _)))))
    (pss_one (ps_ret pe_bl))
    pss_nil)
    (pss_one (ps_ret (pe_and (pe_call G_is_whole (hr.mono (by omega)) rfl O_is_whole.m O_is_whole.F.kp O_is_whole.b .nil pass0 (pa_cons (pv 2) pa_nil)) (pe_one (pe_chain op_le op_le pe_int (pv 2) (pe_glob (v := .int 1000000000000000000000000000000) rfl c_MOST_TIMES ⟨_, rfl⟩))))))))), ?_⟩
  have no : dTup d = false → againD d = false := fun e => by cases d <;> first | rfl | cases e
  refine ⟨_, rfl, _, _, _, _, _, rfl, .ty _, ty_of hd, kI_tuple, _, rfl, ?_⟩
  refine ite2 (fun c => ?_) (fun c => ?_)
  · have q := q H (Same.refl H)
    rw [no (by simpa using c)] at q
    exact iteT q
  have ct : dTup d = true := by simpa using c
  cases hd with
  | @tup a xs ds ha hs =>
    refine ⟨_, rfl, _, _, rfl, .inr (SqT.of ha), rfl, _, rfl, ?_⟩
    refine ite2 (fun c2 => ?_) (fun c2 => ?_)
    · have q := q H (Same.refl H)
      have e : againD (.tuple ds) = false := by
        unfold againD
        split
        · rename_i r t e
          injection e with e
          rw [e] at hs
          have l := hs.length
          simp [l] at c2
        · rfl
      rw [e] at q
      exact q
    have l2 : xs.length = 2 := by
      simp only [Bool.not_eq_true', decide_eq_false_iff_not, Decidable.not_not, V.int.injEq] at c2
      omega
    match xs, ds, hs, l2 with
    | [v1, v2], [d1, d2], .cons h1 (.cons h2 .nil), _ =>
      refine ⟨_, rfl, a, _, rfl, SqT.of ha, rfl, _, _, rfl, _, _, rfl, rfl, ?_⟩
      have hok2 : okD d1 = true ∧ okD d2 = true := by simpa [okD, oksD] using hok
      have hdp2 : d2.depth ≤ 60 := by simp only [PyData.depth, PyData.depthAll] at hdp; omega
      refine ⟨_, rfl, by decide, fun p hp => ?_⟩
      have s1 : Same H (upd H p (.tup [.ty "list", .ty "tuple"])) := fun b o e => by rw [upd_ne (ne_of_none e hp)]; exact e
      refine ⟨_, _, _, _, _, _, rfl, upd_same, cl_seq, ty_of (h1.mono s1), kit_seq, _, rfl, ?_⟩
      refine ite2 (fun c3 => ?_) (fun c3 => ?_)
      · have e : againD (.tuple [d1, d2]) = false := by
          have z : dSeq d1 = false := by simpa using c3
          cases d2 <;> first | rfl | simp [againD, z]
        have q := q _ s1
        rw [e] at q
        exact iteT q
      have k1 : dSeq d1 = true := by simpa using c3
      obtain ⟨a1, xs1, rfl, hx, hs1⟩ := h1.seq k1
      refine ⟨_, rfl, _, _, rfl, (hx.mono s1).lt, rfl, _, rfl, ?_⟩
      refine ite2 (fun c4 => ?_) (fun c4 => ?_)
      · have z : xs1 = [] := by
          simp only [decide_eq_true_eq, V.int.injEq] at c4
          exact List.length_eq_zero_iff.mp (by omega)
        have e : againD (.tuple [d1, d2]) = false := by
          have z3 : elemsD d1 = [] := List.length_eq_zero_iff.mp (by rw [← hs1.length, z]; rfl)
          have z2 : dNil d1 = true := by rw [dNil_elems k1, z3]; rfl
          cases d2 <;> first | rfl | simp [againD, z2]
        have q := q _ s1
        rw [e] at q
        exact q
      have k2 : dNil d1 = false := by
        rw [dNil_elems k1]
        cases e : elemsD d1 with
        | nil =>
          have l := hs1.length
          rw [e] at l
          simp [l] at c4
        | cons _ _ => rfl
      refine ⟨_, rfl, v2, d2, rfl, h2.mono s1, hok2.2, hdp2, by simp only [wD, wDs] at hwd; omega, fun H2 s2 => ⟨_, rfl, ?_⟩⟩
      have q := q H2 (s1.trans s2)
      refine ite2 (fun c5 => ?_) (fun c5 => ?_)
      · cases h2 with
        | int t =>
          refine ⟨_, rfl, _, _, rfl, rfl, _, rfl, ?_⟩
          refine ite2 (fun c6 => ?_) (fun c6 => ?_)
          · refine ⟨_, _, rfl, rfl, ?_⟩
            have e : againD (.tuple [d1, .int t]) = decide (t ≤ 1000000000000000000000000000000) := by
              have c6 : (1 : Int) ≤ t := by simpa using c6
              simp [againD, k1, k2, timesOk, c6]
            rw [e] at q
            exact q
          · have e : againD (.tuple [d1, .int t]) = false := by
              have c6 : ¬ (1 : Int) ≤ t := by simpa using c6
              simp [againD, k1, k2, timesOk, c6]
            rw [e] at q
            exact q
        | _ => cases c5
      · have e : againD (.tuple [d1, d2]) = false := by
          cases d2 <;> first | rfl | simp [wholeD] at c5
        rw [e] at q
        exact q
  | _ => cases ct
end
end K03

set_option Elab.async false
set_option linter.all false
set_option maxRecDepth 100000
set_option maxHeartbeats 4000000
namespace MC
open PySem PySem.Spec L2
theorem same_new {H : Hp} {p : Addr} (h : H p = none) (o : HO) : Same H (upd H p o) := fun b u e => by rw [upd_ne (ne_of_none e h)]; exact e
theorem same_mut {H H' : Hp} {p : Addr} (e : Same H H') (h : H p = none) (o : HO) : Same H (upd H' p o) := fun b u q => by rw [upd_ne (ne_of_none q h)]; exact e b u q
theorem take_more {α : Type} {l : List α} {i : Nat} {x : α} (h : l[i]? = some x) : l.take (i + 1) = l.take i ++ [x] := by
  rw [List.take_succ, h]; rfl
theorem lt1 (a b : Nat) : decide ([a] < [b]) = decide (a < b) := by
  have : ([a] < [b]) ↔ a < b := by
    constructor
    · intro h
      cases h with
      | rel h => exact h
      | cons h => cases h
    · intro h; exact .rel h
  simp [this]
end MC
namespace K03
open PySem PySem.Spec L2 MC
open PyProof.Rows hiding St
def spSm : Sp := fun vs H Q _ => ∃ z : Str, vs = [.str z] ∧ z.length ≤ 5592405 ∧ Q (.bl (z.cps.toList.all isSign)) H
/-- a dict of texts: each of them a thing -/
def spTh : Sp := fun vs H Q _ => ∃ (D : Addr) (zs : List Str), vs = [.ref D] ∧ H D = some (.dK (setK zs)) ∧ zs.length ≤ 2000 ∧ (∀ z ∈ zs, z.length ≤ 9) ∧ ∀ H', Same H H' → Q (.bl (zs.all isThingS)) H'
def midZ (z : Str) : Bool := decide (1 ≤ z.length) && decide (z.length ≤ 8)
theorem mid_all (zs : List Str) : zs.all isThingS = (decide ((zs.filter midZ).length = zs.length) && (zs.filter midZ).all fun z => z.cps.toList.all isSign) := by
  induction zs with
  | nil => rfl
  | cons z zs ih =>
    have e : isThingS z = (midZ z && z.cps.toList.all isSign) := by unfold isThingS midZ; rfl
    have h := List.length_filter_le midZ zs
    rw [List.all_cons, ih, e, List.filter_cons]
    cases midZ z with
    | true =>
      simp only [if_true, List.length_cons, List.all_cons, Bool.true_and, Nat.add_right_cancel_iff]
      cases z.cps.toList.all isSign <;> simp
    | false =>
      simp only [Bool.false_and, Bool.false_eq_true, if_false, List.length_cons]
      rw [decide_eq_false (by omega), Bool.false_and]
section
variable {P : Program} {w : World} {K : PySem.W.Frag} {mg : Str → Option Value} {base : Heap}
variable {f_is_whole f_is_thing f_is_row f_looks_again f_are_small f_are_things : Addr} {fd_is_whole fd_is_thing fd_is_row fd_looks_again fd_are_small fd_are_things : FuncData}
theorem ok_are_small (T : Txt K mg) (O_are_small : Own K mg "are_small" s_are_small f_are_small fd_are_small ["signs"]) : FnOk P w K mg base CX0 1 f_are_small fd_are_small ["signs"] spSm := by
  refine O_are_small.F.ok sc_are_small (fun vs H Q E h => by obtain ⟨z, rfl, _⟩ := h; rfl) (fun cdv A outer s H vs Q E hr h => ?_)
  obtain ⟨z, rfl, hz, q⟩ := h
  refine ⟨_, (pss_one (ps_ret (pe_or (pe_cmpR op_eq (pv 0) pe_str (nomark _)) (pe_one (pe_and (pe_m0 PySem.F.slot_str_isascii PySem.F.type_str_isascii mt_isascii (pv 0)) (pe_and (pe_m0 PySem.F.slot_str_isalpha PySem.F.type_str_isalpha mt_isalpha (pv 0)) (pe_one (pe_cmpR op_eq (pv 0) (pe_lower (pv 0)) (nomark _))))))))), ?_⟩
  rw [← small_look] at q
  have e0 : decide (V.str z = V.str (Str.ofString "")) = decide (z = Str.empty) := by
    have : Str.ofString "" = Str.empty := by decide +kernel
    rw [this]
    simp
  refine ⟨_, rfl, rfl, _, rfl, ?_⟩
  rw [e0]
  refine ite2 (fun c => ?_) (fun c => ?_)
  · rw [c, Bool.true_or] at q
    exact q
  have c : decide (z = Str.empty) = false := by simpa using c
  rw [c, Bool.false_or] at q
  refine ⟨_, rfl, ⟨_, rfl⟩, z, rfl, rfl, trivial, _, rfl, ?_⟩
  refine ite2 (fun c1 => ?_) (fun c1 => ?_)
  · rw [c1, Bool.true_and] at q
    refine ⟨_, rfl, ⟨_, rfl⟩, z, rfl, rfl, trivial, _, rfl, ?_⟩
    refine ite2 (fun c2 => ?_) (fun c2 => ?_)
    · rw [c2, Bool.true_and] at q
      have e1 : decide (V.str z = V.str (Txt.lower z)) = decide (z = Txt.lower z) := by simp
      refine ⟨_, rfl, _, rfl, ⟨_, rfl⟩, z, rfl, rfl, hz, rfl, ?_⟩
      rw [e1]
      exact q
    · have c2 : Txt.isalpha z = false := by simpa using c2
      rw [c2, Bool.false_and] at q
      exact q
  · have c1 : Txt.isascii z = false := by simpa using c1
    rw [c1, Bool.false_and] at q
    exact q
theorem ok_are_things (T : Txt K mg) (G_are_small : FnOk P w K mg base CX0 1 f_are_small fd_are_small ["signs"] spSm) (O_are_small : Own K mg "are_small" s_are_small f_are_small fd_are_small ["signs"]) (O_are_things : Own K mg "are_things" s_are_things f_are_things fd_are_things ["values"]) : FnOk P w K mg base CX0 2 f_are_things fd_are_things ["values"] spTh := by
  refine O_are_things.F.ok sc_are_things (fun vs H Q E h => by obtain ⟨D, zs, rfl, _⟩ := h; rfl) (fun cdv A outer s H vs Q E hr h => ?_)
  obtain ⟨D, zs, rfl, hD, hn, hz, q⟩ := h
  obtain ⟨tmt, c_LONGEST_THING⟩ := T.c_LONGEST_THING
  refine ⟨_, (pss_cons (ps_lock (ps_setLc (i := 1) (own := [("text", 2)]) rfl sc_are_things.nd rfl rfl (sw_true rfl rfl rfl (by decide +kernel)) (pi_keys (pv 0)) (blkOk_by (own := [("text", 2)]) (N := ["values", "texts", "text"]) (sc := defScope s_are_things) (by decide +kernel)) (fun _ _ _ _ _ => (pg_name (i := 2) sc_are_things.nd rfl (Or.inl rfl))) (fun _ _ _ _ _ => pts_one (PW.pt (pw_and (pt_val (pe_callB (k_isi (K := K) rfl) (by rfl) T.n_isinstance (by decide +kernel) (pa_cons (pv 2) (pa_cons (pe_bltn (v := .ty "str") (by rfl) T.n_str (by decide +kernel) rfl) pa_nil)))) (pw_and1 (pt_chain op_le op_le pe_int (pe_callB (k_len_str (K := K) rfl) (by rfl) T.n_len (by decide +kernel) (pa_cons (pv 2) pa_nil)) (pe_glob (v := .int 8) rfl c_LONGEST_THING ⟨_, rfl⟩)))))) (fun _ _ _ _ _ => (pv 2))))
    (pss_one (ps_ret (pe_and (pe_cmpR op_eq (pe_callB (k_len_seq (K := K) rfl) (by rfl) T.n_len (by decide +kernel) (pa_cons (pv 1) pa_nil)) (pe_callB call_lenD (by rfl) T.n_len (by decide +kernel) (pa_cons (pv 0) pa_nil)) (nomark _)) (pe_one (pe_call G_are_small (hr.mono (by omega)) rfl O_are_small.m O_are_small.F.kp O_are_small.b .nil pass0 (pa_cons (pe_join pe_str (pv 1)) pa_nil))))))), ?_⟩
  refine ⟨D, _, hD, trivial, fun od => ?_⟩
  refine ⟨_, rfl, D, od, rfl, .inl ⟨_, upd_same, fun L hL => lc_it (walk_keys (o := od)) (fun i H' => H' D = some (.frz od (.dK (setK zs))) ∧ (∀ b o, b ≠ D → H b = some o → H' b = some o) ∧ H' L = some (.lst (((zs.take i).filter midZ).map V.str))) ?_ (fun i H' _ p => p.1) ?_ ?_⟩⟩
  · have LD : L ≠ D := fun z => by rw [z, upd_same] at hL; cases hL
    refine ⟨by rw [upd_ne LD.symm, upd_same], fun b o hb e => ?_, by rw [upd_same]; rfl⟩
    rw [upd_ne (ne_of_none (by rw [upd_ne hb]; exact e) hL), upd_ne hb]
    exact e
  · rintro i x _ H1 hi ⟨h1, h2, h3⟩ ⟨rfl, k, v, hk, rfl⟩
    have hkz : ∃ z, zs[i]? = some z ∧ k = Sum.inr z := by
      unfold setK at hk
      rw [List.getElem?_map] at hk
      cases e : zs[i]? with
      | none => rw [e] at hk; cases hk
      | some z => rw [e] at hk; cases hk; exact ⟨z, rfl, rfl⟩
    obtain ⟨z, ez, rfl⟩ := hkz
    have hz9 := hz z (List.mem_of_getElem? ez)
    have hz2 : z.length ≤ sizeLine := Nat.le_trans hz9 (by decide)
    have LD : L ≠ D := fun z => by rw [z, h1] at h3; cases h3
    have tk : zs.take (i + 1) = zs.take i ++ [z] := take_more ez
    have len : ((zs.take i).filter midZ).length ≤ 2000 := by
      have h1 := List.length_filter_le midZ (zs.take i)
      rw [List.length_take] at h1
      omega
    have yes : midZ z = true → ∃ acc, H1 L = some (HO.lst acc) ∧ acc.length < sizeLine ∧ upd H1 L (HO.lst (acc ++ [V.str z])) D = some (HO.frz od (HO.dK (setK zs))) ∧
        (∀ (b : Addr) (o : HO), b ≠ D → H b = some o → upd H1 L (HO.lst (acc ++ [V.str z])) b = some o) ∧ upd H1 L (HO.lst (acc ++ [V.str z])) L = some (HO.lst (List.map V.str (List.filter midZ (List.take (i + 1) zs)))) := fun m => by
      refine ⟨_, h3, by rw [List.length_map]; exact Nat.lt_of_le_of_lt len (by decide), by rw [upd_ne LD.symm]; exact h1, fun b o hb e => ?_, ?_⟩
      · have LH : b ≠ L := fun q => by rw [q] at e hb; rw [upd_ne hb, e] at hL; cases hL
        rw [upd_ne LH]; exact h2 b o hb e
      · rw [upd_same, tk, List.filter_append, List.map_append]
        simp [m]
    have no : midZ z = false → H1 D = some (HO.frz od (HO.dK (setK zs))) ∧ (∀ (b : Addr) (o : HO), b ≠ D → H b = some o → H1 b = some o) ∧ H1 L = some (HO.lst (List.map V.str (List.filter midZ (List.take (i + 1) zs)))) := fun m => by
      refine ⟨h1, h2, ?_⟩
      rw [tk, List.filter_append]
      simpa [m] using h3
    refine ⟨rfl, _, rfl, _, _, _, _, _, rfl, .ty _, .base (.str z), kit_ty (by decide +kernel), _, rfl, iteT ?_⟩
    refine ⟨_, rfl, z, rfl, hz2, _, _, rfl, rfl, _, rfl, ?_⟩
    refine ite2 (fun c1 => ?_) (fun c1 => ?_)
    · refine ⟨_, _, rfl, rfl, _, rfl, ?_⟩
      refine ite2 (fun c2 => ?_) (fun c2 => ?_)
      · exact ⟨_, rfl, yes (by unfold midZ; simp at c1 c2 ⊢; omega)⟩
      · exact no (by unfold midZ; simp at c1 c2 ⊢; omega)
    · exact ⟨_, rfl, iteF (no (by unfold midZ; simp at c1 ⊢; omega))⟩
  · rintro H1 ⟨h1, h2, h3⟩
    have full : zs.take (setK zs).length = zs := List.take_of_length_le (by simp [setK])
    rw [full] at h3
    have LD : L ≠ D := fun z => by rw [z, h1] at h3; cases h3
    have sm : Same H (upd H1 D (.dK (setK zs))) := fun b o e => by
      by_cases hb : b = D
      · subst hb; rw [upd_same]; rw [hD] at e; exact e
      · rw [upd_ne hb]; exact h2 b o hb e
    have hL2 : upd H1 D (.dK (setK zs)) L = some (.lst ((zs.filter midZ).map V.str)) := by rw [upd_ne LD]; exact h3
    refine ⟨h1, ?_⟩
    have q := q _ sm
    rw [mid_all] at q
    have ll : ((zs.filter midZ).map V.str).length = (zs.filter midZ).length := by simp
    have lk : (setK zs).length = zs.length := by simp [setK]
    have e1 : decide (V.int ((zs.filter midZ).map V.str).length = V.int (setK zs).length) = decide ((zs.filter midZ).length = zs.length) := by
      rw [ll, lk, Bool.eq_iff_iff, decide_eq_true_eq, decide_eq_true_eq, V.int.injEq, Int.natCast_inj]
    refine ⟨_, rfl, L, _, rfl, .inl (SqL.of hL2), _, rfl, D, _, rfl, upd_same, rfl, _, rfl, ?_⟩
    rw [e1]
    refine ite2 (fun c => ?_) (fun c => ?_)
    · rw [c, Bool.true_and] at q
      have sum8 : ∀ l : List Str, (∀ z ∈ l, z.length ≤ 9) → (l.map (·.length)).sum ≤ 9 * l.length := by
        intro l
        induction l with
        | nil => intro _; simp
        | cons z l ih =>
          intro h
          have h1 := h z (by simp)
          have h2 := ih fun y hy => h y (by simp [hy])
          simp only [List.map_cons, List.sum_cons, List.length_cons]
          omega
      have s9 := sum8 (zs.filter midZ) fun z hz' => hz z (List.mem_filter.mp hz').1
      have lf := List.length_filter_le midZ zs
      refine ⟨⟨_, rfl⟩, _, rfl, Str.ofString "", L, zs.filter midZ, rfl, rfl, .inl (SqL.of hL2), ?_, ?_⟩
      · have : (Str.ofString "").length = 0 := by decide +kernel
        rw [this]; omega
      · have ee : Str.ofString "" = Str.empty := by decide +kernel
        rw [TL.join_eq, ee]
        refine ⟨_, rfl, ?_, ?_⟩
        · rw [joined_len]; omega
        · rw [joined_all]
          exact q
    · have c : decide ((zs.filter midZ).length = zs.length) = false := by simpa using c
      rw [c, Bool.false_and] at q
      exact q
theorem ok_is_thing (T : Txt K mg) (G_are_small : FnOk P w K mg base CX0 1 f_are_small fd_are_small ["signs"] spSm) (O_are_small : Own K mg "are_small" s_are_small f_are_small fd_are_small ["signs"]) (O_is_thing : Own K mg "is_thing" s_is_thing f_is_thing fd_is_thing ["thing"]) : FnOk P w K mg base CX0 2 f_is_thing fd_is_thing ["thing"] (spD thingD) := by
  refine O_is_thing.F.ok sc_is_thing spD_len (fun cdv A outer s H vs Q E hr h => ?_)
  obtain ⟨x, d, rfl, hd, hok, hdp, hwd, q⟩ := h
  obtain ⟨tmt, c_LONGEST_THING⟩ := T.c_LONGEST_THING
  refine ⟨_, (pss_one (ps_ret (pe_and (pe_callB (k_isi (K := K) rfl) (by rfl) T.n_isinstance (by decide +kernel) (pa_cons (pv 0) (pa_cons (pe_bltn (v := .ty "str") (by rfl) T.n_str (by decide +kernel) rfl) pa_nil))) (pe_and (pe_chain op_le op_le pe_int (pe_callB (k_len_str (K := K) rfl) (by rfl) T.n_len (by decide +kernel) (pa_cons (pv 0) pa_nil)) (pe_glob (v := .int 8) rfl c_LONGEST_THING ⟨_, rfl⟩)) (pe_one (pe_call G_are_small (hr.mono (by omega)) rfl O_are_small.m O_are_small.F.kp O_are_small.b .nil pass0 (pa_cons (pv 0) pa_nil))))))), ?_⟩
  refine ⟨_, rfl, _, _, _, _, _, rfl, .ty _, ty_of hd, kI_str, _, rfl, ?_⟩
  have q := q H (Same.refl H)
  refine ite2 (fun c => ?_) (fun c => ?_)
  · cases hd with
    | str z =>
      have hz : z.length ≤ 9 := by simp only [okD, Bool.and_eq_true, decide_eq_true_eq] at hok; exact hok.1
      have hz2 : z.length ≤ sizeLine := Nat.le_trans hz (by decide)
      refine ⟨_, rfl, z, rfl, hz2, _, _, rfl, rfl, _, rfl, ?_⟩
      have e2 : thingD (.str z) = (decide (1 ≤ z.length) && decide (z.length ≤ 8) && z.cps.toList.all isSign) := rfl
      rw [e2] at q
      refine ite2 (fun c1 => ?_) (fun c1 => ?_)
      · refine ⟨_, _, rfl, rfl, _, rfl, ?_⟩
        refine ite2 (fun c2 => ?_) (fun c2 => ?_)
        · have h1 : 1 ≤ z.length := by simp at c1; omega
          have h2 : z.length ≤ 8 := by simp at c2; omega
          rw [decide_eq_true h1, decide_eq_true h2, Bool.true_and, Bool.true_and] at q
          exact ⟨_, rfl, z, rfl, by omega, q⟩
        · have h2 : ¬ z.length ≤ 8 := by simp at c2; omega
          rw [decide_eq_false h2, Bool.and_false, Bool.false_and] at q
          exact q
      · have h1 : ¬ 1 ≤ z.length := by simp at c1; omega
        rw [decide_eq_false h1, Bool.false_and, Bool.false_and] at q
        exact ⟨_, rfl, iteF q⟩
    | _ => cases c
  · have e : thingD d = false := by cases d <;> first | rfl | simp [dStr] at c
    rw [e] at q
    exact q
end
end K03

set_option Elab.async false
set_option linter.all false
set_option maxRecDepth 100000
set_option maxHeartbeats 4000000
namespace K03
open PySem PySem.Spec L2 MC
open PyProof.Rows hiding St
/-- what waits: a tuple of a row (over H0) and how deep it lies -/
def Ent (H0 H : Hp) (v : V) (d : PyData) : Prop := ∃ t x k, v = .ref t ∧ H t = some (.tup [x, .int k]) ∧ DD H0 x d ∧ dSeq d = true ∧ okD d = true ∧ 0 ≤ k ∧ d.depth + k.toNat ≤ 60
theorem Ent.mono {H0 H H' : Hp} {v : V} {d : PyData} (h : Ent H0 H v d) (e : ∀ t xs, H t = some (.tup xs) → H' t = some (.tup xs)) : Ent H0 H' v d := by
  obtain ⟨t, x, k, h1, h2, r⟩ := h
  exact ⟨t, x, k, h1, e _ _ h2, r⟩
def wsum (es : List (V × PyData)) : Nat := wDs (es.map (·.2))
theorem wsum_append (a b : List (V × PyData)) : wsum (a ++ b) = wsum a + wsum b := by unfold wsum; rw [List.map_append, wDs_append]
theorem keep_upd {H : Hp} {w : Addr} {xs : List V} (h : H w = some (.lst xs)) (ys : List V) : ∀ t zs, H t = some (.tup zs) → upd H w (.lst ys) t = some (.tup zs) := fun t zs e => by
  rw [upd_ne (ne_of e h (fun z => nomatch z))]; exact e
theorem last_split {α : Type} {l : List α} (h : l ≠ []) : ∃ a b, l = a ++ [b] := ⟨_, _, (List.dropLast_concat_getLast h).symm⟩
section
variable {P : Program} {w : World} {K : PySem.W.Frag} {mg : Str → Option Value} {base : Heap}
variable {f_is_whole f_is_thing f_is_row f_looks_again f_are_small f_are_things : Addr} {fd_is_whole fd_is_thing fd_is_row fd_looks_again fd_are_small fd_are_things : FuncData}
theorem ok_is_row (T : Txt K mg) (G_are_things : FnOk P w K mg base CX0 2 f_are_things fd_are_things ["values"] spTh) (G_looks_again : FnOk P w K mg base CX0 2 f_looks_again fd_looks_again ["part"] (spD againD))
    (O_are_things : Own K mg "are_things" s_are_things f_are_things fd_are_things ["values"]) (O_looks_again : Own K mg "_looks_again" s_looks_again f_looks_again fd_looks_again ["part"]) (O_is_row : Own K mg "is_row" s_is_row f_is_row fd_is_row ["thing"]) : FnOk P w K mg base CX0 3 f_is_row fd_is_row ["thing"] (spD rowD) := by
  refine O_is_row.F.ok sc_is_row spD_len (fun cdv A outer s H vs Q E hr h => ?_)
  obtain ⟨x, d, rfl, hd, hok, hdp, hwd, q⟩ := h
  obtain ⟨tmt, c_DEEPEST_ROW⟩ := T.c_DEEPEST_ROW
  refine ⟨_, (pss_cons (ps_if (pt_not (pt_val (pe_callB (k_isiT (K := K) rfl) (by rfl) T.n_isinstance (by decide +kernel) (pa_cons (pv 0) (pa_cons (pe_tup (pa_cons (pe_bltn (v := .ty "list") (by rfl) T.n_list (by decide +kernel) rfl) (pa_cons (pe_bltn (v := .ty "tuple") (by rfl) T.n_tuple (by decide +kernel) rfl) pa_nil))) pa_nil)))))
    (pss_one (ps_ret pe_bl))
    pss_nil)
    (pss_cons (ps_set (i := 1) sc_is_row.nd rfl (Or.inl rfl) (pe_lst (pa_cons (pe_tup (pa_cons (pv 0) (pa_cons pe_int pa_nil))) pa_nil)))
    (pss_cons (ps_while PassesOwn.never (pt_truth (pv 1) (by intro _; rfl))
    (pss_cons (ps_asg (k_bm0 (K := K) rfl (pe_bm0 PySem.F.plainAttrs_list PySem.F.slot_list_pop PySem.F.type_list_pop mt_pop (pv 1))) (pg_tup rfl (pgs_cons (pg_name (i := 2) sc_is_row.nd rfl (Or.inl rfl)) (pgs_cons (pg_name (i := 3) sc_is_row.nd rfl (Or.inl rfl)) pgs_nil))))
    (pss_cons (ps_if (pt_cmpR op_gt (pv 3) (pe_glob (v := .int 2000000) rfl c_DEEPEST_ROW ⟨_, rfl⟩) (nomark _))
    (pss_one (ps_ret pe_bl))
    pss_nil)
    (pss_cons (ps_setLc (i := 4) (own := [("part", 5)]) rfl sc_is_row.nd rfl rfl (sw_true rfl rfl rfl (by decide +kernel)) (k_seq (K := K) rfl (pv 2)) (blkOk_by (own := [("part", 5)]) (N := ["thing", "waiting", "row", "deep", "agains", "part"]) (sc := defScope s_is_row) (by decide +kernel)) (fun _ _ _ _ _ => (pg_name (i := 5) sc_is_row.nd rfl (Or.inl rfl))) (fun _ _ _ _ _ => pts_one (pt_not (pt_val (pe_callB (k_isi (K := K) rfl) (by rfl) T.n_isinstance (by decide +kernel) (pa_cons (pv 5) (pa_cons (pe_bltn (v := .ty "str") (by rfl) T.n_str (by decide +kernel) rfl) pa_nil)))))) (fun _ _ _ _ _ => (pv 5)))
    (pss_cons (ps_for PassesOwn.never rfl (k_list (K := K) rfl (pv 4)) (pg_name (i := 5) sc_is_row.nd rfl (Or.inl rfl))
    (pss_cons (ps_if (pt_not (pt_val (pe_call G_looks_again (hr.mono (by omega)) rfl O_looks_again.m O_looks_again.F.kp O_looks_again.b .nil pass0 (pa_cons (pv 5) pa_nil))))
    (pss_one (ps_ret pe_bl))
    pss_nil)
    (pss_one (ps_expr (k_bm (K := K) rfl (pe_bm PySem.F.plainAttrs_list PySem.F.slot_list_append PySem.F.type_list_append mt_append (pv 1) (pa_cons (pe_tup (pa_cons (pe_ix (k_ix_tup (K := K) rfl) (pv 5) pe_int (fun _ _ => rfl)) (pa_cons (pe_op op_add (pv 3) pe_int) pa_nil))) pa_nil)))))))
    (pss_one (ps_if (PW.pt (pw_and (pt_cmpR op_lt (pe_callB (k_len_seq (K := K) rfl) (by rfl) T.n_len (by decide +kernel) (pa_cons (pv 4) pa_nil)) (pe_callB (k_len_seq (K := K) rfl) (by rfl) T.n_len (by decide +kernel) (pa_cons (pv 2) pa_nil)) (nomark _)) (pw_and1 (pt_not (pt_val (pe_call G_are_things (hr.mono (by omega)) rfl O_are_things.m O_are_things.F.kp O_are_things.b .nil pass0 (pa_cons (pe_dc (own := [("part", 5)]) rfl sc_is_row.nd (k_seq (K := K) rfl (pv 2)) (blkOk_by (own := [("part", 5)]) (N := ["thing", "waiting", "row", "deep", "agains", "part"]) (sc := defScope s_is_row) (by decide +kernel)) (fun _ _ _ _ _ => (pg_name (i := 5) sc_is_row.nd rfl (Or.inl rfl))) (fun _ _ _ _ _ => pts_one (pt_val (pe_callB (k_isi (K := K) rfl) (by rfl) T.n_isinstance (by decide +kernel) (pa_cons (pv 5) (pa_cons (pe_bltn (v := .ty "str") (by rfl) T.n_str (by decide +kernel) rfl) pa_nil))))) (fun _ _ _ _ _ => (pv 5)) (fun _ _ _ _ _ => pe_bl)) pa_nil)))))))
    (pss_one (ps_ret pe_bl))
    pss_nil)))))))
    (pss_one (ps_ret pe_bl))))), ?_⟩
  refine ⟨_, rfl, by decide, fun p hp => ?_⟩
  have s0 := same_new hp (.tup [.ty "list", .ty "tuple"])
  refine ⟨_, _, _, _, _, _, rfl, upd_same, cl_seq, ty_of (hd.mono s0), kit_seq, _, rfl, ?_⟩
  refine ite2 (fun c => ?_) (fun c => ?_)
  · have q := q _ s0
    rw [rowD_seq (by simpa using c)] at q
    exact q
  have k0 : dSeq d = true := by simpa using c
  -- waiting = [(thing, 0)]
  refine ⟨_, rfl, (by show 2 ≤ sizeLine; decide), fun t0 ht0 => ⟨(by show 1 ≤ sizeLine; decide), fun w0 hw0 => ?_⟩⟩
  have hw : H w0 = none := (s0.trans (same_new ht0 _)).free hw0
  have s1 : Same H (upd (upd (upd H p (.tup [.ty "list", .ty "tuple"])) t0 (.tup [x, .int 0])) w0 (.lst [.ref t0])) := (s0.trans (same_new ht0 _)).trans (same_new hw0 _)
  refine ⟨fun m σ H' => ∃ (es : List (V × PyData)) (a b c e : Option V), m = wsum es ∧ σ = [some x, some (.ref w0), a, b, c, e] ∧ Same H H' ∧ H' w0 = some (.lst (es.map (·.1))) ∧
      (∀ e ∈ es, Ent H H' e.1 e.2) ∧ rowD d = (es.all fun e => rowD e.2) ∧ wsum es ≤ wD d, ⟨_, [(.ref t0, d)], _, _, _, _, rfl, rfl, s1, upd_same, ?_, ?_, ?_⟩, ?_⟩
  · intro e he
    rw [List.mem_singleton.mp he]
    refine ⟨t0, x, 0, rfl, ?_, hd, k0, hok, Int.le_refl 0, by simpa using hdp⟩
    rw [upd_ne (ne_of_none upd_same hw0), upd_same]
  · simp
  · simp [wsum, wDs]
  rintro m σ H1 ⟨es, a, b, c, e, rfl, rfl, s2, hl, hes, hrow, hwe⟩
  refine ⟨_, rfl, _, .inl ⟨_, SqL.of hl, rfl⟩, ?_⟩
  refine ite2 (fun c1 => ?yes) (fun c1 => ?no)
  case no =>
    have z : es = [] := by
      cases es with
      | nil => rfl
      | cons _ _ => simp at c1
    subst z
    have q := q H1 s2
    rw [hrow] at q
    exact q
  have ne : es ≠ [] := by rintro rfl; simp at c1
  obtain ⟨es1, ⟨v, r⟩, rfl⟩ := last_split ne
  obtain ⟨t, y, k, rfl, ht, hy, ky, oky, k0', dky⟩ : Ent H H1 v r := hes (v, r) (by simp)
  have hes1 : ∀ e ∈ es1, Ent H H1 e.1 e.2 := fun e he => hes e (by simp [he])
  obtain ⟨ar, xs, rfl, hx, hxs⟩ := hy.seq ky
  have ety : (List.map (·.1) (es1 ++ [(V.ref t, r)])) = es1.map (·.1) ++ [V.ref t] := by simp
  rw [ety] at hl
  refine ⟨fun σ' H' => ∃ m', m' < wsum (es1 ++ [(V.ref t, r)]) ∧ _, fun _ _ z => z, ?_⟩
  have nw : ∀ zs, Same H (upd H1 w0 (.lst zs)) := fun zs => same_mut s2 hw _
  have hl2 := keep_upd hl (es1.map (·.1) ++ [V.ref t]).dropLast
  refine ⟨_, rfl, .inl ⟨rfl, _, SqL.of hl⟩, w0, _, .ref t, rfl, rfl, hl, by simp, t, _, rfl, SqT.of (hl2 _ _ ht), rfl, _, _, rfl, _, _, rfl, rfl, ?_⟩
  refine ⟨_, rfl, _, _, rfl, rfl, _, rfl, ?_⟩
  refine ite2 (fun c2 => ?_) (fun c2 => ?_)
  · exfalso
    have : (2000000 : Int) < k := by simpa using c2
    omega
  have sP := nw (es1.map (·.1) ++ [V.ref t]).dropLast
  have hlP : upd H1 w0 (.lst (es1.map (·.1) ++ [V.ref t]).dropLast) w0 = some (.lst (es1.map (·.1))) := by rw [upd_same]; simp
  have heP : ∀ e ∈ es1, Ent H (upd H1 w0 (.lst (es1.map (·.1) ++ [V.ref t]).dropLast)) e.1 e.2 := fun e he => (hes1 e he).mono hl2
  generalize upd H1 w0 (.lst (es1.map (·.1) ++ [V.ref t]).dropLast) = HP at sP hlP heP ⊢
  have wr : wsum [(V.ref t, r)] = wD r := by simp [wsum, wDs]
  have we : wDs (elemsD r) ≤ wD r := wD_elems r
  have we2 : wDs (elemsD r) < wD r := by cases r <;> first | (simp only [elemsD, wD]; omega) | cases ky
  have w20 : wsum es1 + wDs (elemsD r) ≤ 2000 := by
    rw [wsum_append] at hwe
    omega
  have lenx : xs.length ≤ 2000 := by
    have h1 := hxs.length
    have h2 := len_wDs (elemsD r)
    omega
  have hps := okD_elems oky
  have full : (elemsD r).take xs.length = elemsD r := List.take_of_length_le (by rw [hxs.length]; exact Nat.le_refl _)
  -- agains = [part for part in row if not isinstance(part, str)]
  refine ⟨_, rfl, lc_seqD (K := K) (xs := xs) (hx.mono sP) (fun A i H' => Same HP H' ∧ ∃ acc, H' A = some (.lst acc) ∧ DDs H acc (((elemsD r).take i).filter nStr)) (fun A hA => ⟨same_new hA _, [], upd_same, .nil⟩) ?_ ?_ ?_⟩
  · rintro A i H' hA _ ⟨s3, _⟩
    rcases hx.mono sP with h | h
    · exact (s3 _ _ h).trans h.symm
    · exact (s3 _ _ h).trans h.symm
  · rintro A i xv H' hA e ⟨s3, acc, hA', hacc⟩
    obtain ⟨dv, hdv, hdd⟩ := hxs.get e
    have tk : (elemsD r).take (i + 1) = (elemsD r).take i ++ [dv] := take_more hdv
    refine ⟨rfl, _, rfl, _, _, _, _, _, rfl, .ty _, ty_of (hdd.mono (sP.trans s3)), kI_str, _, rfl, ?_⟩
    have al : acc.length < sizeLine := by
      rw [hacc.length]
      have h1 := List.length_filter_le nStr ((elemsD r).take i)
      rw [List.length_take, ← hxs.length] at h1
      exact Nat.lt_of_le_of_lt (show _ ≤ 2000 by omega) (by decide)
    refine ite2 (fun c3 => ?_) (fun c3 => ?_)
    · refine ⟨_, rfl, acc, hA', al, same_mut s3 hA _, _, upd_same, ?_⟩
      rw [tk, List.filter_append]
      have : nStr dv = true := c3
      simp only [List.filter_cons, this, if_true, List.filter_nil]
      exact hacc.append (.cons hdd .nil)
    · refine ⟨s3, acc, hA', ?_⟩
      rw [tk, List.filter_append]
      have : nStr dv = false := by simpa [nStr] using c3
      simp only [List.filter_cons, this, Bool.false_eq_true, if_false, List.filter_nil, List.append_nil]
      exact hacc
  rintro A H2 hA ⟨s3, ag, hA2, hag⟩
  rw [full] at hag
  have hAH : H A = none := sP.free hA
  have Aw : A ≠ w0 := fun z => by rw [z, hlP] at hA; cases hA
  have sH2 := sP.trans s3
  have lag : ag.length ≤ xs.length := by
    rw [hag.length, hxs.length]
    exact List.length_filter_le _ _
  -- for part in agains
  refine ⟨_, rfl, A, rfl, ⟨_, SqL.of hA2⟩, for_list (K := K) (a := A) (xs := ag) (fun i σ' H' => ∃ (ps : List (V × PyData)) (c : Option V), σ' = [some x, some (.ref w0), some (.ref ar), some (.int k), some (.ref A), c] ∧ Same H H' ∧ H' A = some (.lst ag) ∧
      H' w0 = some (.lst ((es1 ++ ps).map (·.1))) ∧ (∀ e ∈ es1 ++ ps, Ent H H' e.1 e.2) ∧ wsum ps ≤ wDs (((elemsD r).filter nStr).take i) ∧ partsD (((elemsD r).filter nStr).take i) = ps.all fun e => rowD e.2)
      ⟨[], _, rfl, sH2, hA2, by rw [List.append_nil]; exact s3 _ _ hlP, fun e he => (heP e (by simpa using he)).mono fun t zs z => s3 _ _ z, Nat.zero_le _, by simp [partsD]⟩ ?_ ?_ ?_⟩
  · rintro i σ' H' hi ⟨ps, c, rfl, s4, hA4, _⟩
    exact SqL.of hA4
  · rintro i xv σ' H2 hi ⟨ps, c, rfl, s4, hA4, hl4, he4, hw4, hp4⟩
    obtain ⟨dv, hdv, hdd⟩ := hag.get hi
    have mem := List.mem_of_getElem? hdv
    rw [List.mem_filter] at mem
    obtain ⟨memE, nst⟩ := mem
    have nst : dStr dv = false := by simpa [nStr] using nst
    obtain ⟨j, hj⟩ := List.getElem?_of_mem memE
    have okv := oksD_get hps hj
    have wv : wD dv ≤ 2000 := by
      have h1 := wD_le hj
      omega
    have dpv : dv.depth < r.depth := by rw [depth_elems ky]; exact Nat.lt_succ_of_le (depth_le hj)
    refine ⟨_, rfl, xv, dv, rfl, hdd.mono s4, okv, by omega, wv, fun H3 s5 => ⟨_, rfl, ?_⟩⟩
    have hl5 := s5 _ _ hl4
    have hA5 := s5 _ _ hA4
    have he5 : ∀ e ∈ es1 ++ ps, Ent H H3 e.1 e.2 := fun e he => (he4 e he).mono fun t zs z => s5 _ _ z
    have tk : ((elemsD r).filter nStr).take (i + 1) = ((elemsD r).filter nStr).take i ++ [dv] := take_more hdv
    refine ite2 (fun c3 => ?_) (fun c3 => ?_)
    · have q := q H3 (s4.trans s5)
      have z : rowD d = false := by
        rw [hrow, List.all_append]
        have : (elemsD r).all partD = false := by
          rw [List.all_eq_false]
          exact ⟨dv, memE, by rw [part_nstr nst (by simpa using c3)]; simp⟩
        simp [rowD_elems ky, partsD_eq, this]
      rw [z] at q
      exact q
    · -- its row waits
      have c3 : againD dv = true := by simpa using c3
      match dv, hdd, c3 with
      | .tuple [rr, .int tt], @DD.tup _ _ [v1, v2] _ ha2 (.cons h1 (.cons h2 .nil)), c3 =>
        have ha3 := (s4.trans s5) _ _ ha2
        have okr : okD rr = true := by simp only [okD, oksD, Bool.and_eq_true] at okv; exact okv.1
        have kr : dSeq rr = true := by simp only [againD, Bool.and_eq_true] at c3; exact c3.1.1
        have dpr : rr.depth < (PyData.tuple [rr, .int tt]).depth := by simp only [PyData.depth, PyData.depthAll]; omega
        refine ⟨_, rfl, .inl ⟨rfl, _, SqL.of hl5⟩, _, rfl, _, _, _, _, rfl, rfl, SqT.of ha3, atI_nat (j := 0) rfl, _, rfl, _, _, rfl, rfl, (by show 2 ≤ sizeLine; decide), fun t2 ht2 => ?_⟩
        have hw2 : upd H3 t2 (.tup [v1, .int (k + 1)]) w0 = some (.lst ((es1 ++ ps).map (·.1))) := by rw [upd_ne (ne_of_none hl5 ht2)]; exact hl5
        refine ⟨w0, _, _, rfl, rfl, hw2, ?_, ?_⟩
        · rw [List.length_map]
          have h1 : (es1 ++ ps).length ≤ wsum (es1 ++ ps) := by
            have := len_wDs ((es1 ++ ps).map (·.2))
            rw [List.length_map] at this
            exact this
          have h2 : wDs (((elemsD r).filter nStr).take i) ≤ wDs ((elemsD r).filter nStr) := by
            have e := wDs_append (((elemsD r).filter nStr).take i) (((elemsD r).filter nStr).drop i)
            rw [List.take_append_drop] at e
            omega
          have h3 := wDs_filter nStr (elemsD r)
          rw [wsum_append] at h1
          exact Nat.lt_of_le_of_lt (show _ ≤ 2000 by omega) (by decide)
        refine ⟨ps ++ [(.ref t2, rr)], _, rfl, ?_, ?_, ?_, ?_, ?_, ?_⟩
        · exact same_mut (s4.trans (s5.trans (same_new ht2 _))) hw _
        · rw [upd_ne Aw, upd_ne (ne_of_none hA5 ht2)]; exact hA5
        · rw [upd_same]; simp
        · intro e he
          have he : e ∈ es1 ++ ps ∨ e = (.ref t2, rr) := by simpa [or_assoc] using he
          rcases he with he | rfl
          · exact (he5 e he).mono fun t zs z => keep_upd hw2 _ _ _ (by rw [upd_ne (ne_of_none z ht2)]; exact z)
          · refine ⟨t2, _, k + 1, rfl, keep_upd hw2 _ _ _ upd_same, h1, kr, okr, by omega, (show rr.depth + (k + 1).toNat ≤ 60 by omega)⟩
        · rw [wsum_append, tk, wDs_append]
          have : wsum [(V.ref t2, rr)] ≤ wDs [PyData.tuple [rr, .int tt]] := by simp only [wsum, List.map, wDs, wD]; omega
          omega
        · rw [tk, partsD_eq, List.all_append, ← partsD_eq, hp4, List.all_append]
          have : partD (.tuple [rr, .int tt]) = rowD rr := by rw [partD_eq, if_pos c3]; rfl
          simp [this]
  · rintro σ' H4 ⟨ps, c, rfl, s4, hA4, hl4, he4, hw4, hp4⟩
    have fullF : ((elemsD r).filter nStr).take ag.length = (elemsD r).filter nStr := List.take_of_length_le (by rw [hag.length]; exact Nat.le_refl _)
    rw [fullF] at hw4 hp4
    have wf := wDs_filter nStr (elemsD r)
    -- the turn's end: right so far
    have fin : ∀ H', Same H H' → H' w0 = some (.lst ((es1 ++ ps).map (·.1))) → (∀ e ∈ es1 ++ ps, Ent H H' e.1 e.2) → partsD (elemsD r) = (ps.all fun e => rowD e.2) → ∃ m', m' < wsum (es1 ++ [(V.ref t, r)]) ∧
        ∃ (es : List (V × PyData)) (a' b' c' e' : Option V), m' = wsum es ∧ [some x, some (.ref w0), some (.ref ar), some (.int k), some (.ref A), c] = [some x, some (V.ref w0), a', b', c', e'] ∧ Same H H' ∧ H' w0 = some (.lst (es.map (·.1))) ∧
      (∀ e ∈ es, Ent H H' e.1 e.2) ∧ rowD d = (es.all fun e => rowD e.2) ∧ wsum es ≤ wD d := by
      intro H' s5 hl5 he5 e5
      refine ⟨wsum (es1 ++ ps), ?_, es1 ++ ps, _, _, _, _, rfl, rfl, s5, hl5, he5, ?_, ?_⟩
      · rw [wsum_append, wsum_append]
        omega
      · rw [hrow, List.all_append, List.all_append, ← e5]
        simp [rowD_elems ky]
      · rw [wsum_append] at hwe ⊢
        omega
    refine ⟨_, rfl, _, _, rfl, .inl (SqL.of hA4), _, rfl, _, _, rfl, (hx.mono s4).lt, _, _, rfl, rfl, _, rfl, ?_⟩
    refine ite2 (fun c5 => ?_) (fun c5 => ?_)
    · -- texts, too
      refine ⟨_, rfl, dc_seqD (K := K) (xs := xs) (hx.mono s4) (fun D i H' => Same H4 H' ∧ ∃ zs, H' D = some (.dK (setK zs)) ∧ zs.length ≤ i ∧ ∀ z, z ∈ zs ↔ PyData.str z ∈ (elemsD r).take i) (fun D hD => ⟨same_new hD _, [], upd_same, Nat.le_refl _, by simp⟩) ?_ ?_ ?_⟩
      · rintro D i H' hD _ ⟨s5, _⟩
        rcases hx.mono s4 with h | h
        · exact (s5 _ _ h).trans h.symm
        · exact (s5 _ _ h).trans h.symm
      · rintro D i xv H' hD e ⟨s5, zs, hD', hl', hm'⟩
        obtain ⟨dv, hdv, hdd⟩ := hxs.get e
        have tk : (elemsD r).take (i + 1) = (elemsD r).take i ++ [dv] := take_more hdv
        have ilt : i < xs.length := (List.getElem?_eq_some_iff.mp e).1
        refine ⟨rfl, _, rfl, _, _, _, _, _, rfl, .ty _, ty_of (hdd.mono (s4.trans s5)), kI_str, _, rfl, ?_⟩
        refine ite2 (fun c6 => ?_) (fun c6 => ?_)
        · cases hdd with
          | str z =>
            refine ⟨_, rfl, setK zs, Sum.inr z, rfl, hD', ?_, same_mut s5 hD _, _, upd_same.trans (by rw [setK_put]), ?_, fun y => ?_⟩
            · have : (setK zs).length = zs.length := by simp [setK]
              rw [this]
              exact Nat.lt_of_le_of_lt (show _ ≤ 2000 by omega) (by decide)
            · split
              · omega
              · simp; omega
            · rw [tk]
              by_cases hz : z ∈ zs
              · rw [if_pos hz, hm', List.mem_append]
                constructor
                · exact .inl
                · rintro (h | h)
                  · exact h
                  · simp at h
                    subst h
                    exact (hm' _).mp hz
              · rw [if_neg hz, List.mem_append, List.mem_append, hm']
                simp
          | _ => cases c6
        · refine ⟨s5, zs, hD', by omega, fun y => ?_⟩
          rw [hm', tk, List.mem_append]
          constructor
          · exact .inl
          · rintro (h | h)
            · exact h
            · simp at h
              subst h
              exact absurd rfl c6
      · rintro D H5 hD ⟨s5, zs, hD', hl', hm'⟩
        rw [full] at hm'
        refine ⟨D, zs, rfl, hD', by omega, fun z hz => ?_, fun H6 s6 => ⟨_, rfl, ?_⟩⟩
        · have mem := (hm' z).mp hz
          obtain ⟨j, hj⟩ := List.getElem?_of_mem mem
          have := oksD_get hps hj
          simp only [okD, Bool.and_eq_true, decide_eq_true_eq] at this
          exact this.1
        have ps2 := parts_strs hm'
        have s46 := s5.trans s6
        refine ite2 (fun c7 => ?_) (fun c7 => ?_)
        · have q := q H6 (s4.trans s46)
          have z : rowD d = false := by
            rw [hrow, List.all_append]
            have : zs.all isThingS = false := by simpa using c7
            simp [rowD_elems ky, ps2, this]
          rw [z] at q
          exact q
        · have : zs.all isThingS = true := by simpa using c7
          rw [this, Bool.and_true, hp4] at ps2
          exact fin H6 (s4.trans s46) (s46 _ _ hl4) (fun e he => (he4 e he).mono fun t zs z => s46 _ _ z) ps2
    · -- agains alone
      refine iteF (fin H4 s4 hl4 he4 ?_)
      rw [← hp4]
      congr 1
      have c5 : ¬ ag.length < xs.length := by simpa using c5
      rw [hag.length, hxs.length] at c5
      exact (List.length_filter_eq_length_iff.mp (Nat.le_antisymm (List.length_filter_le _ _) (by omega)) |> List.filter_eq_self.mpr).symm
end
end K03

set_option Elab.async false
set_option linter.all false
set_option maxRecDepth 100000
set_option maxHeartbeats 4000000
namespace MC
open PySem PySem.Spec L2
/-- all that is tracked stays but the two of the dice -/
def Chg (d d0 : Addr) (H H' : Hp) : Prop := ∀ b o, b ≠ d → b ≠ d0 → H b = some o → H' b = some o
theorem Chg.refl (d d0 : Addr) (H : Hp) : Chg d d0 H H := fun _ _ _ _ h => h
theorem Chg.trans {d d0 : Addr} {H H1 H2 : Hp} (a : Chg d d0 H H1) (b : Chg d d0 H1 H2) : Chg d d0 H H2 := fun x o h1 h2 h => b x o h1 h2 (a x o h1 h2 h)
theorem Chg.same {d d0 : Addr} {H H1 H2 : Hp} (a : Chg d d0 H H1) (b : Same H1 H2) : Chg d d0 H H2 := fun x o h1 h2 h => b x o (a x o h1 h2 h)
theorem Chg.of {d d0 : Addr} {H H2 : Hp} (b : Same H H2) : Chg d d0 H H2 := fun x o _ _ h => b x o h
theorem Chg.updd {d d0 : Addr} {H H1 : Hp} (a : Chg d d0 H H1) (o : HO) : Chg d d0 H (upd H1 d o) := fun x u h1 h2 h => by rw [upd_ne h1]; exact a x u h1 h2 h
theorem Chg.updd0 {d d0 : Addr} {H H1 : Hp} (a : Chg d d0 H H1) (o : HO) : Chg d d0 H (upd H1 d0 o) := fun x u h1 h2 h => by rw [upd_ne h2]; exact a x u h1 h2 h
theorem Chg.updn {d d0 : Addr} {H H1 : Hp} (a : Chg d d0 H H1) {p : Addr} (hp : H p = none) (o : HO) : Chg d d0 H (upd H1 p o) := fun x u h1 h2 h => by rw [upd_ne (ne_of_none h hp)]; exact a x u h1 h2 h
def Dice (H : Hp) (d d0 : Addr) (N : Nat) : Prop := ∃ (gs : List Int) (m n : Int), H d = some (.lst [.ref d0, .int m, .int n]) ∧ H d0 = some (.lst (gs.map V.int)) ∧ 0 ≤ m ∧ m < 2 ^ 129 ∧ 0 ≤ n ∧ n ≤ (N : Int)
theorem dice_ne {H : Hp} {d d0 : Addr} {gs : List Int} {r : List V} (h1 : H d = some (.lst (.ref d0 :: r))) (h2 : H d0 = some (.lst (gs.map V.int))) : d ≠ d0 := ne_of h1 h2 (fun z => by
  injection z with z
  cases gs with
  | nil => cases z
  | cons g gs => cases z)
theorem Dice.mono {H : Hp} {d d0 : Addr} {N M : Nat} (h : Dice H d d0 N) (hm : N ≤ M) : Dice H d d0 M := by
  obtain ⟨gs, m, n, h1, h2, h3, h4, h5, h6⟩ := h
  exact ⟨gs, m, n, h1, h2, h3, h4, h5, by omega⟩
theorem Dice.same {H H' : Hp} {d d0 : Addr} {N : Nat} (h : Dice H d d0 N) (e : Same H H') : Dice H' d d0 N := by
  obtain ⟨gs, m, n, h1, h2, r⟩ := h
  exact ⟨gs, m, n, e _ _ h1, e _ _ h2, r⟩
theorem Dice.at {H : Hp} {d d0 : Addr} {N : Nat} (h : Dice H d d0 N) : H d ≠ none ∧ H d0 ≠ none ∧ d ≠ d0 := by
  obtain ⟨gs, m, n, h1, h2, r⟩ := h
  exact ⟨by rw [h1]; exact (fun z => (nomatch z)), by rw [h2]; exact (fun z => (nomatch z)), dice_ne h1 h2⟩
/-- another object is written or laid -/
theorem Dice.upd {H : Hp} {d d0 p : Addr} {N : Nat} {o : HO} (h : Dice H d d0 N) (h1 : p ≠ d) (h2 : p ≠ d0) : Dice (L2.upd H p o) d d0 N := by
  obtain ⟨gs, m, n, k1, k2, r⟩ := h
  exact ⟨gs, m, n, by rw [upd_ne h1.symm]; exact k1, by rw [upd_ne h2.symm]; exact k2, r⟩
theorem log2_of {i : Int} {n : Nat} (h : i.natAbs < 2 ^ n) (h0 : 0 < n) : i.natAbs.log2 < n := by
  by_cases z : i.natAbs = 0
  · rw [z]; exact h0
  · exact (Nat.log2_lt z).mpr h
/-- a number from 0 on below k, however great -/
def spRollW : Sp := fun vs H Q _ => ∃ (d d0 : Addr) (N : Nat) (k : Int), vs = [.ref d, .int k] ∧ Dice H d d0 N ∧ N ≤ 10 ^ 12 ∧ 1 ≤ k ∧ k.natAbs.log2 < 9000 ∧
  ∀ r H', 0 ≤ r → r < k → Chg d d0 H H' → Dice H' d d0 (N + 1) → Q (.int r) H'
theorem spRollW_len : ∀ vs H Q E, spRollW vs H Q E → vs.length = 2 := fun vs H Q E h => by
  obtain ⟨d, d0, N, k, rfl, _⟩ := h
  rfl
/-- a number from 0 on below k -/
def spRoll : Sp := fun vs H Q _ => ∃ (d d0 : Addr) (N : Nat) (k : Int), vs = [.ref d, .int k] ∧ Dice H d d0 N ∧ N ≤ 10 ^ 12 ∧ 1 ≤ k ∧ k ≤ 10 ^ 31 ∧
  ∀ r H', 0 ≤ r → r < k → Chg d d0 H H' → Dice H' d d0 (N + 1) → Q (.int r) H'
theorem spRoll_len : ∀ vs H Q E, spRoll vs H Q E → vs.length = 2 := fun vs H Q E h => by
  obtain ⟨d, d0, N, k, rfl, _⟩ := h
  rfl
end MC
namespace K03
open PySem PySem.Spec L2 MC
open PyProof.Rows hiding St
section
variable {P : Program} {w : World} {K : PySem.W.Frag} {mg : Str → Option Value} {base : Heap} {f_l_roll : Addr} {fd_l_roll : FuncData}
theorem ok_rollW (T : Txt K mg) (O_l_roll : Own K mg "_law_roll" s_l_roll f_l_roll fd_l_roll ["_law_dice_here", "_law_many_here"]) : FnOk P w K mg base CX0 1 f_l_roll fd_l_roll ["_law_dice_here", "_law_many_here"] spRollW := by
  refine O_l_roll.F.ok sc_l_roll spRollW_len (fun cdv A outer s H vs Q E hr h => ?_)
  obtain ⟨d, d0, N, k, rfl, ⟨gs0, m0, n0, hd, hd0, m1, m2, n1, n2⟩, hN, k1, k2, q⟩ := h
  have hu1 : (A.deeper (envOfC "_law_roll" (defScope s_l_roll) s.heap.objs.size f_l_roll cdv)).units < cLine := by have := hr.un; omega
  refine ⟨_, (pss_cons (ps_while PassesOwn.never (PW.pt (pw_and (pt_cmpR (k_neNil (K := K) rfl hu1) (pe_ix (k_ix_list (K := K) rfl) (pv 0) pe_int (fun _ _ => rfl)) (pe_lst pa_nil) (nomark _)) (pw_and1 (pt_cmpR op_lt (pe_ix (k_ix_list (K := K) rfl) (pe_ix (k_ix_list (K := K) rfl) (pv 0) pe_int (fun _ _ => rfl)) pe_int (fun _ _ => rfl)) pe_int (nomark _)))))
    (pss_one (ps_expr (k_bm (K := K) rfl (pe_bm PySem.F.plainAttrs_list PySem.F.slot_list_pop PySem.F.type_list_pop mt_popAt (pe_ix (k_ix_list (K := K) rfl) (pv 0) pe_int (fun _ _ => rfl)) (pa_cons pe_int pa_nil))))))
    (pss_cons (ps_if (pt_cmpR (k_neNil (K := K) rfl hu1) (pe_ix (k_ix_list (K := K) rfl) (pv 0) pe_int (fun _ _ => rfl)) (pe_lst pa_nil) (nomark _))
    (pss_cons (ps_set (i := 2) sc_l_roll.nd rfl (Or.inl rfl) (pe_op op_mod (pe_ix (k_ix_list (K := K) rfl) (pe_ix (k_ix_list (K := K) rfl) (pv 0) pe_int (fun _ _ => rfl)) pe_int (fun _ _ => rfl)) (pv 1)))
    (pss_cons (ps_asg (pe_op op_fdivW (pe_ix (k_ix_list (K := K) rfl) (pe_ix (k_ix_list (K := K) rfl) (pv 0) pe_int (fun _ _ => rfl)) pe_int (fun _ _ => rfl)) (pv 1)) (pg_sub (pe_ix (k_ix_list (K := K) rfl) (pv 0) pe_int (fun _ _ => rfl)) pe_int set_list))
    (pss_one (ps_ret (pv 2)))))
    pss_nil)
    (pss_cons (ps_asg (pe_op op_add (pe_ix (k_ix_list (K := K) rfl) (pv 0) pe_int (fun _ _ => rfl)) pe_int) (pg_sub (pv 0) pe_int set_list))
    (pss_cons (ps_set (i := 3) sc_l_roll.nd rfl (Or.inl rfl) (pe_op op_add (pe_op op_mulW (pe_ix (k_ix_list (K := K) rfl) (pv 0) pe_int (fun _ _ => rfl)) (pe_ix (k_ix_list (K := K) rfl) (pv 0) pe_int (fun _ _ => rfl))) (pe_op op_mulW (pe_op op_mul pe_int (pe_ix (k_ix_list (K := K) rfl) (pv 0) pe_int (fun _ _ => rfl))) (pe_ix (k_ix_list (K := K) rfl) (pv 0) pe_int (fun _ _ => rfl)))))
    (pss_cons (ps_set (i := 3) sc_l_roll.nd rfl (Or.inl rfl) (pe_op op_add (pe_op op_add (pv 3) (pe_op op_mul pe_int (pe_ix (k_ix_list (K := K) rfl) (pv 0) pe_int (fun _ _ => rfl)))) pe_int))
    (pss_cons (ps_asg (pe_op op_mod (pv 3) pe_int) (pg_sub (pv 0) pe_int set_list))
    (pss_one (ps_ret (pe_op op_mod (pe_op op_fdivW (pe_ix (k_ix_list (K := K) rfl) (pv 0) pe_int (fun _ _ => rfl)) (pe_op op_pow pe_int pe_int)) (pv 1)))))))))), ?_⟩
  refine ⟨fun m σ H' => ∃ (gs : List Int), m = gs.length ∧ σ = [some (.ref d), some (.int k), none, none] ∧ Chg d d0 H H' ∧ H' d = some (.lst [.ref d0, .int m0, .int n0]) ∧ H' d0 = some (.lst (gs.map V.int)),
    ⟨_, gs0, rfl, rfl, Chg.refl _ _ _, hd, hd0⟩, ?_⟩
  rintro m σ H1 ⟨gs, rfl, rfl, c1, e1, e2⟩
  have hne := dice_ne e1 e2
  have kl := k2
  cases gs with
  | nil =>
    -- nothing is left of the great ones
    refine ⟨_, rfl, _, _, _, _, rfl, rfl, SqL.of e1, atI_nat (j := 0) rfl, Nat.zero_le _, fun p hp => ⟨_, _, _, rfl, rfl, SqL.of (same_new hp _ _ _ e2), upd_same, _, rfl, ?_⟩⟩
    have s1 := same_new (H := H1) hp (.lst [])
    refine ⟨_, rfl, _, _, _, _, rfl, rfl, SqL.of (s1 _ _ e1), atI_nat (j := 0) rfl, Nat.zero_le _, fun p2 hp2 => ⟨_, _, _, rfl, rfl, SqL.of (same_new hp2 _ _ _ (s1 _ _ e2)), upd_same, _, rfl, ?_⟩⟩
    have s2 := s1.trans (same_new hp2 (.lst []))
    have c2 := c1.same s2
    have e3 := s2 _ _ e1
    have e4 := s2 _ _ e2
    generalize upd (upd H1 p (.lst [])) p2 (.lst []) = H2 at c2 e3 e4
    have nl : n0.natAbs.log2 < 100 := log2_of (Nat.lt_of_le_of_lt (show n0.natAbs ≤ 10 ^ 12 by omega) (by decide)) (by decide)
    have n1l : (n0 + 1).natAbs.log2 < 100 := log2_of (Nat.lt_of_le_of_lt (show (n0 + 1).natAbs ≤ 10 ^ 12 + 1 by omega) (by decide)) (by decide)
    have n2l : (69621 * (n0 + 1)).natAbs.log2 < 200 := log2_of (Nat.lt_of_le_of_lt (show (69621 * (n0 + 1)).natAbs ≤ 69621 * (10 ^ 12 + 1) by omega) (by decide)) (by decide)
    have ml : m0.natAbs.log2 < 200 := log2_of (Nat.lt_of_lt_of_le (show m0.natAbs < 2 ^ 129 by omega) (by decide)) (by decide)
    -- d[2] = d[2] + 1
    refine ⟨_, rfl, _, _, _, _, rfl, rfl, SqL.of e3, atI_nat (j := 2) rfl, _, _, rfl, rfl, _, rfl, _, _, _, 2, rfl, rfl, e3, rfl, ?_⟩
    have e5 : upd H2 d (.lst ([.ref d0, .int m0, .int n0].set 2 (.int (n0 + 1)))) d = some (.lst [.ref d0, .int m0, .int (n0 + 1)]) := upd_same
    refine ⟨_, rfl, _, _, _, _, rfl, rfl, SqL.of e5, atI_nat (j := 1) rfl, _, rfl, _, _, _, _, rfl, rfl, SqL.of e5, atI_nat (j := 1) rfl, _, _, rfl, rfl, (show CMulW _ _ by unfold CMulW; omega),
      _, rfl, _, _, _, _, rfl, rfl, SqL.of e5, atI_nat (j := 2) rfl, _, _, rfl, rfl, .inl (by decide), _, rfl, _, _, _, _, rfl, rfl, SqL.of e5, atI_nat (j := 2) rfl, _, _, rfl, rfl, (show CMulW _ _ by unfold CMulW; omega), _, _, rfl, rfl, ?_⟩
    refine ⟨_, rfl, _, rfl, _, _, _, _, rfl, rfl, SqL.of e5, atI_nat (j := 1) rfl, _, _, rfl, rfl, .inl (by decide), _, _, rfl, rfl, _, _, rfl, rfl, ?_⟩
    refine ⟨_, rfl, _, _, rfl, rfl, (by show (0 : Int) < 340282366920938463463374607431768211297; decide), _, rfl, _, _, _, 1, rfl, rfl, e5, rfl, ?_⟩
    have e6 : ∀ m' : Int, upd (upd H2 d (.lst ([.ref d0, .int m0, .int n0].set 2 (.int (n0 + 1))))) d (.lst ([.ref d0, .int m0, .int (n0 + 1)].set 1 (.int m'))) d = some (.lst [.ref d0, .int m', .int (n0 + 1)]) := fun _ => upd_same
    refine ⟨_, rfl, _, _, _, _, rfl, rfl, SqL.of (e6 _), atI_nat (j := 1) rfl, _, _, rfl, rfl, ⟨by decide, by decide, by decide⟩, _, _, rfl, rfl, ⟨by decide, by decide⟩, _, rfl, _, _, rfl, rfl, k1, ?_⟩
    refine q _ _ (Int.emod_nonneg _ (by omega)) (Int.emod_lt_of_pos _ (by omega)) ((c2.updd _).updd _) ⟨[], _, n0 + 1, e6 _, ?_, Int.emod_nonneg _ (by decide), ?_, by omega, by omega⟩
    · rw [upd_ne hne.symm, upd_ne hne.symm]; exact e4
    · exact Int.lt_of_lt_of_le (Int.emod_lt_of_pos _ (by decide)) (by decide)
  | cons g gs =>
    refine ⟨_, rfl, _, _, _, _, rfl, rfl, SqL.of e1, atI_nat (j := 0) rfl, Nat.zero_le _, fun p hp => ⟨_, _, _, rfl, rfl, SqL.of (same_new hp _ _ _ e2), upd_same, _, rfl, ?_⟩⟩
    have s1 := same_new (H := H1) hp (.lst [])
    have c2 := c1.same s1
    have e3 := s1 _ _ e1
    have e4 := s1 _ _ e2
    generalize upd H1 p (.lst []) = H2 at c2 e3 e4
    refine ⟨_, rfl, _, _, _, _, rfl, rfl, SqL.of e3, atI_nat (j := 0) rfl, _, _, _, _, rfl, rfl, SqL.of e4, atI_nat (j := 0) rfl, _, _, rfl, rfl, _, rfl, ?_⟩
    refine ite2 (fun b => ?_) (fun b => ?_)
    · -- one that is used up goes
      refine ⟨fun σ' H' => ∃ m', m' < (g :: gs).length ∧ _, fun _ _ z => z, ?_⟩
      refine ⟨_, rfl, _, _, _, _, rfl, rfl, SqL.of e3, atI_nat (j := 0) rfl, .inl ⟨rfl, _, SqL.of e4⟩, _, _, _, 0, _, rfl, rfl, e4, by decide, by decide, by simp [seqIndex?], rfl, ?_⟩
      refine ⟨gs.length, by simp, gs, rfl, rfl, c2.updd0 _, ?_, upd_same⟩
      rw [upd_ne hne]; exact e3
    · have g1 : 1 ≤ g := by
        have : ¬ g < 1 := by simpa using b
        omega
      refine ⟨_, rfl, _, _, _, _, rfl, rfl, SqL.of e3, atI_nat (j := 0) rfl, Nat.zero_le _, fun p2 hp2 => ⟨_, _, _, rfl, rfl, SqL.of (same_new hp2 _ _ _ e4), upd_same, _, rfl, ?_⟩⟩
      have s2 := same_new (H := H2) hp2 (.lst [])
      have c3 := c2.same s2
      have e5 := s2 _ _ e3
      have e6 := s2 _ _ e4
      generalize upd H2 p2 (.lst []) = H3 at c3 e5 e6
      refine ⟨_, rfl, _, _, _, _, rfl, rfl, SqL.of e5, atI_nat (j := 0) rfl, _, _, _, _, rfl, rfl, SqL.of e6, atI_nat (j := 0) rfl, _, rfl, _, _, rfl, rfl, k1, ?_⟩
      refine ⟨_, rfl, _, _, _, _, rfl, rfl, SqL.of e5, atI_nat (j := 0) rfl, _, _, _, _, rfl, rfl, SqL.of e6, atI_nat (j := 0) rfl, _, rfl, _, _, rfl, rfl, ⟨k1, kl⟩,
        _, rfl, _, _, _, _, rfl, rfl, SqL.of e5, atI_nat (j := 0) rfl, _, _, _, 0, rfl, rfl, e6, (by simp [ixN]), ?_⟩
      refine ⟨_, rfl, q _ _ (Int.emod_nonneg _ (by omega)) (Int.emod_lt_of_pos _ (by omega)) (c3.updd0 _) ⟨(g / k) :: gs, m0, n0, ?_, upd_same, m1, m2, n1, by omega⟩⟩
      rw [upd_ne hne]; exact e5
theorem ok_roll (T : Txt K mg) (O_l_roll : Own K mg "_law_roll" s_l_roll f_l_roll fd_l_roll ["_law_dice_here", "_law_many_here"]) : FnOk P w K mg base CX0 1 f_l_roll fd_l_roll ["_law_dice_here", "_law_many_here"] spRoll :=
  weak (ok_rollW T O_l_roll) fun vs H Q E h => by
    obtain ⟨d, d0, N, k, rfl, hD, hN, k1, k2, q⟩ := h
    exact ⟨d, d0, N, k, rfl, hD, hN, k1, log2_of (n := 9000) (Nat.lt_of_lt_of_le (show k.natAbs < 2 ^ 200 from Nat.lt_of_le_of_lt (show k.natAbs ≤ 10 ^ 31 by omega) (by decide)) (Nat.pow_le_pow_right (by decide) (by decide))) (by decide), q⟩
end
end K03

set_option Elab.async false
set_option linter.all false
set_option maxRecDepth 100000
set_option maxHeartbeats 4000000
namespace MC
open PySem PySem.Spec L2
/-- the heap without what may change -/
def Hid (S : List Addr) (H : Hp) : Hp := fun a => if a ∈ S then none else H a
theorem hid_in {S : List Addr} {H : Hp} {a : Addr} (h : a ∈ S) : Hid S H a = none := if_pos h
theorem hid_out {S : List Addr} {H : Hp} {a : Addr} (h : a ∉ S) : Hid S H a = H a := if_neg h
theorem hid_some {S : List Addr} {H : Hp} {a : Addr} {o : HO} (h : Hid S H a = some o) : a ∉ S ∧ H a = some o := by
  by_cases q : a ∈ S
  · rw [hid_in q] at h; cases h
  · rw [hid_out q] at h; exact ⟨q, h⟩
theorem hid_same {S : List Addr} {H : Hp} : Same (Hid S H) H := fun b o h => (hid_some h).2
theorem hid_less {S S' : List Addr} {H : Hp} (h : ∀ a ∈ S, a ∈ S') : Same (Hid S' H) (Hid S H) := fun b o e => by
  obtain ⟨h1, h2⟩ := hid_some e
  rw [hid_out (fun z => h1 (h _ z))]; exact h2
theorem hid_more {S S' : List Addr} {H : Hp} (h : ∀ a ∈ S', a ∈ S ∨ H a = none) : Same (Hid S H) (Hid S' H) := fun b o e => by
  obtain ⟨h1, h2⟩ := hid_some e
  rw [hid_out (fun z => (h _ z).elim h1 fun n => by rw [n] at h2; cases h2)]; exact h2
theorem Same.hid {S : List Addr} {H H' : Hp} (e : Same H H') : Same (Hid S H) (Hid S H') := fun b o h => by
  obtain ⟨h1, h2⟩ := hid_some h
  rw [hid_out h1]; exact e _ _ h2
theorem Chg.hid {S : List Addr} {d d0 : Addr} {H H' : Hp} (e : Chg d d0 H H') (h1 : d ∈ S) (h2 : d0 ∈ S) : Same (Hid S H) (Hid S H') := fun b o h => by
  obtain ⟨n, q⟩ := hid_some h
  rw [hid_out n]; exact e _ _ (fun z => n (z ▸ h1)) (fun z => n (z ▸ h2)) q
/-- one of the hidden ones is written -/
theorem hid_upd {S : List Addr} {H H' : Hp} {p : Addr} (e : Same (Hid S H) (Hid S H')) (hp : p ∈ S) (o : HO) : Same (Hid S H) (Hid S (upd H' p o)) := fun b u h => by
  have n := (hid_some h).1
  have q := e _ _ h
  rw [hid_out n] at q ⊢
  rw [upd_ne (fun z => n (by rw [z]; exact hp))]; exact q
/-- a new one is laid, or one that H doesn't know is written -/
theorem hid_new {S : List Addr} {H H' : Hp} {p : Addr} (e : Same (Hid S H) (Hid S H')) (hp : Hid S H p = none) (o : HO) : Same (Hid S H) (Hid S (upd H' p o)) := fun b u h => by
  have n := (hid_some h).1
  have q := e _ _ h
  rw [hid_out n] at q ⊢
  rw [upd_ne (fun z => by rw [z, hp] at h; cases h)]; exact q
theorem hid_none {S : List Addr} {H : Hp} {p : Addr} (h : H p = none) : Hid S H p = none := by
  by_cases q : p ∈ S
  · exact hid_in q
  · rw [hid_out q]; exact h
theorem hid_free {S : List Addr} {H H' : Hp} {p : Addr} (e : Same (Hid S H) (Hid S H')) (h : H' p = none) (hp : p ∉ S) : H p = none := by
  cases q : H p with
  | none => rfl
  | some o =>
    have z := e p o (by rw [hid_out hp]; exact q)
    rw [hid_out hp, h] at z; cases z
end MC
namespace K03
open PySem PySem.Spec L2 MC
open PyProof.Rows hiding St
section
variable {P : Program} {w : World} {K : PySem.W.Frag} {mg : Str → Option Value} {base : Heap}
def spDice (K : PySem.W.Frag) : Sp := fun vs H Q _ => ∃ (a : Addr) (ns : List Int), vs = [.ref a] ∧ SqL K H a (ns.map V.int) ∧ ns.length ≤ 63 ∧
  ∀ d d0 H', Same H H' → H d = none → H d0 = none → Dice H' d d0 0 → Q (.ref d) H'
theorem cut_ints (ns : List Int) (lo hi : Option Int) : ∃ cs : List Int, cutV (ns.map V.int) lo hi = cs.map V.int ∧ cs.length ≤ ns.length := by
  refine ⟨(ns.drop (HT.sIx ns.length 0 lo)).take (HT.sIx ns.length ns.length hi - HT.sIx ns.length 0 lo), ?_, ?_⟩
  · unfold cutV
    rw [List.length_map, List.map_take, List.map_drop]
  · rw [List.length_take, List.length_drop]; omega
variable {f_l_dice : Addr} {fd_l_dice : FuncData}
theorem ok_dice (T : Txt K mg) (O_l_dice : Own K mg "_law_dice" s_l_dice f_l_dice fd_l_dice ["_law_script"]) : FnOk P w K mg base CX0 1 f_l_dice fd_l_dice ["_law_script"] (spDice K) := by
  refine O_l_dice.F.ok sc_l_dice (fun vs H Q E h => by obtain ⟨a, ns, rfl, _⟩ := h; rfl) (fun cdv A outer s H vs Q E hr h => ?_)
  obtain ⟨a, ns, rfl, hS, hl, q⟩ := h
  refine ⟨_, (pss_cons (ps_setLc (i := 1) (own := [("_law_cell", 3)]) rfl sc_l_dice.nd rfl rfl (sw_true rfl rfl rfl (by decide +kernel)) (k_list (K := K) rfl (pe_slice (k_sl_list (K := K) rfl) (pv 0) po_none (po_some pe_int))) (blkOk_by (own := [("_law_cell", 3)]) (N := ["_law_script", "_law_great", "_law_mixed", "_law_cell"]) (sc := defScope s_l_dice) (by decide +kernel)) (fun _ _ _ _ _ => (pg_name (i := 3) sc_l_dice.nd rfl (Or.inl rfl))) (fun _ _ _ _ _ => pts_one (pt_cmpR op_ge (pv 3) (pe_op op_pow pe_int pe_int) (nomark _))) (fun _ _ _ _ _ => (pe_op op_sub (pv 3) (pe_op op_pow pe_int pe_int))))
    (pss_cons (ps_set (i := 2) sc_l_dice.nd rfl (Or.inl rfl) (pe_op op_pow pe_int pe_int))
    (pss_cons (ps_for PassesOwn.never rfl (k_list (K := K) rfl (pe_slice (k_sl_list (K := K) rfl) (pv 0) po_none (po_some pe_int))) (pg_name (i := 3) sc_l_dice.nd rfl (Or.inl rfl))
    (pss_one (ps_set (i := 2) sc_l_dice.nd rfl (Or.inl rfl) (pe_op op_mod (pe_op op_add (pe_op op_add (pe_op op_mulW (pv 2) (pv 2)) (pe_op op_mul (pv 3) pe_int)) pe_int) pe_int))))
    (pss_one (ps_ret (pe_lst (pa_cons (pv 1) (pa_cons (pv 2) (pa_cons pe_int pa_nil))))))))), ?_⟩
  obtain ⟨cs, ecs, lcs⟩ := cut_ints ns none (some 48)
  refine ⟨_, rfl, _, rfl, _, _, rfl, hS, fun p hp => ⟨p, rfl, ⟨_, SqL.of upd_same⟩, fun D hD => ?_⟩⟩
  rw [ecs] at hD ⊢
  have s1 := same_new (H := H) hp (.lst (cs.map V.int))
  have hpD : upd H p (.lst (cs.map V.int)) p = some (.lst (cs.map V.int)) := upd_same
  generalize upd H p (.lst (cs.map V.int)) = H1 at s1 hpD hD
  refine lc_list (K := K) (a := p) (xs := cs.map V.int) (fun i H' => Same H1 H' ∧ ∃ gs : List Int, H' D = some (.lst (gs.map V.int)) ∧ gs.length ≤ i) ⟨same_new hD _, [], upd_same, Nat.le_refl _⟩ (fun i H' _ z => SqL.of (z.1 _ _ hpD)) ?_ ?_
  · rintro i x H2 hi ⟨s2, gs, hg, lg⟩
    have il : i < 63 := by have := (List.getElem?_eq_some_iff.mp hi).1; rw [List.length_map] at this; omega
    obtain ⟨z, rfl⟩ : ∃ z, x = V.int z := by
      rw [List.getElem?_map] at hi
      cases e : cs[i]? with
      | none => rw [e] at hi; cases hi
      | some z => rw [e] at hi; exact ⟨z, (Option.some.inj hi).symm⟩
    refine ⟨rfl, _, rfl, _, _, rfl, rfl, ⟨by decide, by decide, by decide⟩, _, _, rfl, rfl, _, rfl, ?_⟩
    refine ite2 (fun c => ?_) (fun c => ?_)
    · refine ⟨_, rfl, _, _, rfl, rfl, ⟨by decide, by decide, by decide⟩, _, _, rfl, rfl, _, hg, ?_, same_mut s2 hD _, gs ++ [z - 10 ^ Int.toNat 18], ?_, ?_⟩
      · rw [List.length_map]; exact Nat.lt_of_le_of_lt (show _ ≤ 100 by omega) (by decide)
      · rw [upd_same, List.map_append]; rfl
      · simp; omega
    · exact ⟨s2, gs, hg, by omega⟩
  · rintro H2 ⟨s2, gs, hg, lg⟩
    have hD0 : H D = none := s1.free hD
    refine ⟨_, _, rfl, rfl, ⟨by decide, by decide, by decide⟩, ?_⟩
    refine ⟨_, rfl, _, rfl, _, _, rfl, (s1.trans s2).seq hS, fun p2 hp2 => ⟨p2, rfl, ⟨_, SqL.of upd_same⟩, ?_⟩⟩
    rw [ecs]
    have s3 := same_new (H := H2) hp2 (.lst (cs.map V.int))
    have hq : upd H2 p2 (.lst (cs.map V.int)) p2 = some (.lst (cs.map V.int)) := upd_same
    generalize upd H2 p2 (.lst (cs.map V.int)) = H3 at s3 hq
    have s4 := (s1.trans s2).trans s3
    have hg3 := s3 _ _ hg
    refine for_list (K := K) (a := p2) (xs := cs.map V.int) (fun i σ H' => H' = H3 ∧ ∃ (m : Int) (c : Option V), σ = [some (.ref a), some (.ref D), some (.int m), c] ∧ 0 ≤ m ∧ m < 2 ^ 129) ⟨rfl, _, _, rfl, by decide, by decide⟩ (fun i σ H' _ z => SqL.of (by rw [z.1]; exact hq)) ?_ ?_
    · rintro i x σ H' hi ⟨rfl, m, c, rfl, m1, m2⟩
      obtain ⟨z, rfl⟩ : ∃ z, x = V.int z := by
        rw [List.getElem?_map] at hi
        cases e : cs[i]? with
        | none => rw [e] at hi; cases hi
        | some z => rw [e] at hi; exact ⟨z, (Option.some.inj hi).symm⟩
      have ml : m.natAbs.log2 < 200 := log2_of (Nat.lt_of_lt_of_le (show m.natAbs < 2 ^ 129 by omega) (by decide)) (by decide)
      refine ⟨_, rfl, _, rfl, _, _, rfl, rfl, (show CMulW _ _ by unfold CMulW; omega), _, rfl, _, _, rfl, rfl, .inr (by decide), _, _, rfl, rfl, _, _, rfl, rfl, _, _, rfl, rfl, (by show (0 : Int) < 340282366920938463463374607431768211297; decide), ?_⟩
      exact ⟨rfl, _, _, rfl, Int.emod_nonneg _ (by decide), Int.lt_of_lt_of_le (Int.emod_lt_of_pos _ (by decide)) (by decide)⟩
    · rintro σ H' ⟨rfl, m, c, rfl, m1, m2⟩
      refine ⟨_, rfl, _, rfl, (by show 3 ≤ sizeLine; decide), fun d hd => ?_⟩
      exact q d D _ (s4.trans (same_new hd _)) (s4.free hd) hD0 ⟨gs, m, 0, upd_same, same_new hd _ _ _ hg3, m1, m2, by decide, by decide⟩
end
end K03

set_option Elab.async false
set_option linter.all false
set_option maxRecDepth 100000
set_option maxHeartbeats 4000000
namespace MC
open PySem PySem.Spec L2
theorem map_erase {α β : Type} (f : α → β) : ∀ (l : List α) (i : Nat), (l.map f).eraseIdx i = (l.eraseIdx i).map f
  | [], _ => rfl
  | _ :: _, 0 => rfl
  | x :: l, i + 1 => by simp [List.eraseIdx_cons_succ, map_erase f l i]
theorem perm_erase {α : Type} : ∀ {l : List α} {i : Nat} (h : i < l.length), (l[i] :: l.eraseIdx i).Perm l
  | x :: l, 0, _ => List.Perm.refl _
  | x :: l, i + 1, h => by
    have q := perm_erase (l := l) (i := i) (by simpa using h)
    exact (List.Perm.swap x _ _).trans (q.cons x)
def lets : Str := "abcdefghijklmnopqrstuvwxyz"
def sgn (c : Nat) : Str := ⟨#[c]⟩
def nms1 : List Str := lets.cps.toList.map sgn
def nms2 : List Str := lets.cps.toList.map fun c => sgn c ++ "zz"
def nms3 : List Str := lets.cps.toList.map fun c => "m" ++ sgn c ++ "abcdef"
def nmsAll : List Str := nms1 ++ nms2 ++ nms3
theorem nmsAll_ok : nmsAll.all isThingS = true := by decide +kernel
theorem nmsAll_nodup : nmsAll.Nodup := by decide +kernel
theorem nmsAll_len : nmsAll.length = 78 := by decide +kernel
theorem lets_len : lets.cps.size = 26 := by decide +kernel
end MC
namespace K03
open PySem PySem.Spec L2 MC
open PyProof.Rows hiding St
section
variable {P : Program} {w : World} {K : PySem.W.Frag} {mg : Str → Option Value} {base : Heap}
def spNames : Sp := fun vs H Q _ => ∃ (d d0 : Addr) (N : Nat) (k : Int), vs = [.ref d, .int k] ∧ Dice H d d0 N ∧ N ≤ 10 ^ 11 ∧ 0 ≤ k ∧ k ≤ 78 ∧
  ∀ p H' (ys : List Str), (ys.length : Int) = k → ys.all isThingS = true → ys.Nodup → H p = none → Chg d d0 H H' → H' p = some (.lst (ys.map V.str)) → p ≠ d → p ≠ d0 → Dice H' d d0 (N + 78) → Q (.ref p) H'
theorem ne_dice {H H' : Hp} {d d0 p : Addr} (h : H d ≠ none) (hp : H p = none) : p ≠ d := fun z => h (z ▸ hp)
variable {f_l_dice f_l_roll f_l_names : Addr} {fd_l_dice fd_l_roll fd_l_names : FuncData}
theorem ok_names (T : Txt K mg) (G_l_roll : FnOk P w K mg base CX0 1 f_l_roll fd_l_roll ["_law_dice_here", "_law_many_here"] spRoll) (O_l_roll : Own K mg "_law_roll" s_l_roll f_l_roll fd_l_roll ["_law_dice_here", "_law_many_here"]) (O_l_names : Own K mg "_law_names" s_l_names f_l_names fd_l_names ["_law_dice_here", "_law_many_here"]) : FnOk P w K mg base CX0 2 f_l_names fd_l_names ["_law_dice_here", "_law_many_here"] spNames := by
  refine O_l_names.F.ok sc_l_names (fun vs H Q E h => by obtain ⟨d, d0, N, k, rfl, _⟩ := h; rfl) (fun cdv A outer s H vs Q E hr h => ?_)
  obtain ⟨d, d0, N, k, rfl, hD, hN, k1, k2, q⟩ := h
  refine ⟨_, (pss_cons (ps_set (i := 2) sc_l_names.nd rfl (Or.inl rfl) pe_str)
    (pss_cons (ps_set (i := 3) sc_l_names.nd rfl (Or.inr rfl) (pe_op op_cat (pe_op op_cat (pe_callTy (call_list_text rfl) (by rfl) T.n_list (by decide +kernel) (pa_cons (pv 2) pa_nil)) (pe_lc (own := [("_law_sign", 4)]) rfl sc_l_names.nd (pi_str (pv 2)) (blkOk_by (own := [("_law_sign", 4)]) (N := ["_law_dice_here", "_law_many_here", "_law_letters", "_law_left", "_law_sign", "_law_k"]) (sc := defScope s_l_names) (by decide +kernel)) (fun _ _ _ _ _ => (pg_name (i := 4) sc_l_names.nd rfl (Or.inl rfl))) (fun _ _ _ _ _ => pts_nil) (fun _ _ _ _ _ => (pe_op op_add_str (pv 4) pe_str)))) (pe_lc (own := [("_law_sign", 4)]) rfl sc_l_names.nd (pi_str (pv 2)) (blkOk_by (own := [("_law_sign", 4)]) (N := ["_law_dice_here", "_law_many_here", "_law_letters", "_law_left", "_law_sign", "_law_k"]) (sc := defScope s_l_names) (by decide +kernel)) (fun _ _ _ _ _ => (pg_name (i := 4) sc_l_names.nd rfl (Or.inl rfl))) (fun _ _ _ _ _ => pts_nil) (fun _ _ _ _ _ => (pe_op op_add_str (pe_op op_add_str pe_str (pv 4)) pe_str)))))
    (pss_one (ps_ret (pe_lc (own := [("_law_k", 5)]) rfl sc_l_names.nd (pi_range1 (by rfl) T.n_range (pa_cons (pv 1) pa_nil)) (blkOk_by (own := [("_law_k", 5)]) (N := ["_law_dice_here", "_law_many_here", "_law_letters", "_law_left", "_law_sign", "_law_k"]) (sc := defScope s_l_names) (by decide +kernel)) (fun _ _ _ _ _ => (pg_name (i := 5) sc_l_names.nd rfl (Or.inl rfl))) (fun _ _ _ _ _ => pts_nil) (fun _ _ _ _ _ => (k_bm (K := K) rfl (pe_bm PySem.F.plainAttrs_list PySem.F.slot_list_pop PySem.F.type_list_pop mt_popAt (pv 3) (pa_cons (pe_call G_l_roll (hr.mono (by omega)) rfl O_l_roll.m O_l_roll.F.kp O_l_roll.b .nil pass0 (pa_cons (pv 0) (pa_cons (pe_callB (k_len_seq (K := K) rfl) (by rfl) T.n_len (by decide +kernel) (pa_cons (pv 3) pa_nil)) pa_nil))) pa_nil))))))))), ?_⟩
  have ll : lets.length ≤ sizeLine := by show lets.cps.size ≤ sizeLine; rw [lets_len]; decide
  -- the letters
  refine ⟨_, rfl, lets, rfl, ll, fun p1 hp1 => ⟨_, rfl, lets, rfl, fun D2 hD2 => ?_⟩⟩
  have e1 : upd H p1 (.lst (signV lets)) p1 = some (.lst (nms1.map V.str)) := by rw [upd_same]; simp [signV, nms1, sgn]
  have s1 := same_new hp1 (.lst (signV lets))
  generalize upd H p1 (.lst (signV lets)) = H1 at e1 s1 hD2
  refine lc_str (fun i H' => Same H1 H' ∧ H' D2 = some (.lst ((lets.cps.toList.take i).map fun c => V.str (sgn c ++ "zz")))) ⟨same_new hD2 _, upd_same⟩ ?_ ?_
  · rintro i c H2 e ⟨s2, h2⟩
    have il : i < 26 := by have := (Array.getElem?_eq_some_iff.mp e).1; rw [lets_len] at this; exact this
    refine ⟨rfl, _, rfl, _, _, rfl, rfl, ?_, _, h2, ?_, same_mut s2 hD2 _, ?_⟩
    · show 1 + 2 ≤ sizeLine; decide
    · rw [List.length_map, List.length_take]; exact Nat.lt_of_le_of_lt (Nat.le_trans (Nat.min_le_left _ _) (Nat.le_of_lt il)) (by decide)
    · rw [upd_same, take_more (x := c) (by simpa using e), List.map_append]; rfl
  rintro H2 ⟨s2, h2⟩
  have e2 : H2 D2 = some (.lst (nms2.map V.str)) := by
    rw [h2, List.take_of_length_le (by simp), nms2, List.map_map]; rfl
  refine ⟨p1, D2, _, _, rfl, rfl, s2 _ _ e1, e2, by simp [nms1, nms2, lets_len]; decide, fun p3 hp3 => ⟨_, rfl, lets, rfl, fun D4 hD4 => ?_⟩⟩
  have e3 : upd H2 p3 (.lst (nms1.map V.str ++ nms2.map V.str)) p3 = some (.lst ((nms1 ++ nms2).map V.str)) := by rw [upd_same, List.map_append]
  have s3 := same_new hp3 (.lst (nms1.map V.str ++ nms2.map V.str))
  generalize upd H2 p3 (.lst (nms1.map V.str ++ nms2.map V.str)) = H3 at e3 s3 hD4
  refine lc_str (fun i H' => Same H3 H' ∧ H' D4 = some (.lst ((lets.cps.toList.take i).map fun c => V.str ("m" ++ sgn c ++ "abcdef")))) ⟨same_new hD4 _, upd_same⟩ ?_ ?_
  · rintro i c H4 e ⟨s4, h4⟩
    have il : i < 26 := by have := (Array.getElem?_eq_some_iff.mp e).1; rw [lets_len] at this; exact this
    refine ⟨rfl, _, rfl, _, _, rfl, rfl, (by show 1 + 1 ≤ sizeLine; decide), _, _, rfl, rfl, ?_, _, h4, ?_, same_mut s4 hD4 _, ?_⟩
    · show 2 + 6 ≤ sizeLine; decide
    · rw [List.length_map, List.length_take]; exact Nat.lt_of_le_of_lt (Nat.le_trans (Nat.min_le_left _ _) (Nat.le_of_lt il)) (by decide)
    · rw [upd_same, take_more (x := c) (by simpa using e), List.map_append]; rfl
  rintro H4 ⟨s4, h4⟩
  have e4 : H4 D4 = some (.lst (nms3.map V.str)) := by
    rw [h4, List.take_of_length_le (by simp), nms3, List.map_map]; rfl
  refine ⟨p3, D4, _, _, rfl, rfl, s4 _ _ e3, e4, by simp [nms1, nms2, nms3, lets_len]; decide, fun l hl => ?_⟩
  have e5 : upd H4 l (.lst ((nms1 ++ nms2).map V.str ++ nms3.map V.str)) l = some (.lst (nmsAll.map V.str)) := by rw [upd_same, ← List.map_append]; rfl
  have s5 : Same H (upd H4 l (.lst ((nms1 ++ nms2).map V.str ++ nms3.map V.str))) := (((s1.trans s2).trans s3).trans s4).trans (same_new hl _)
  have hl0 : H l = none := (((s1.trans s2).trans s3).trans s4).free hl
  generalize upd H4 l (.lst ((nms1 ++ nms2).map V.str ++ nms3.map V.str)) = H5 at e5 s5
  have hD5 := hD.same s5
  obtain ⟨nd, nd0, ndd⟩ := hD.at
  have ld : l ≠ d := fun z => nd (z ▸ hl0)
  have ld0 : l ≠ d0 := fun z => nd0 (z ▸ hl0)
  -- so many are drawn
  refine ⟨_, rfl, _, rfl, by omega, by omega, fun D hD' => ?_⟩
  have DH : H D = none := s5.free hD'
  have Dd : D ≠ d := fun z => nd (z ▸ DH)
  have Dd0 : D ≠ d0 := fun z => nd0 (z ▸ DH)
  have lD : l ≠ D := ne_of_none e5 hD'
  refine lc_range (lo := 0) (n := k.toNat) (fun i H' => ∃ left ys : List Str, H' l = some (.lst (left.map V.str)) ∧ H' D = some (.lst (ys.map V.str)) ∧ ys.length = i ∧ left.length + i = 78 ∧ (left ++ ys).all isThingS = true ∧ (left ++ ys).Nodup ∧
      Chg d d0 H H' ∧ Dice H' d d0 (N + i)) ⟨nmsAll, [], ?_, upd_same, rfl, nmsAll_len, by rw [List.append_nil]; exact nmsAll_ok, by rw [List.append_nil]; exact nmsAll_nodup, (Chg.of s5).updn DH _, hD5.upd Dd Dd0⟩ ?_ ?_
  · rw [upd_ne lD]; exact e5
  · rintro i H6 hi ⟨left, ys, h1, h2, h3, h4, h5, h6, h7, h8⟩
    have lp : left.length = 78 - i := by omega
    refine ⟨rfl, _, rfl, .inl ⟨rfl, _, SqL.of h1⟩, _, rfl, _, rfl, _, _, rfl, .inl (SqL.of h1), d, d0, N + i, _, rfl, h8, by omega, ?_, ?_, fun r H7 r1 r2 c7 d7 => ?_⟩
    · rw [List.length_map]; omega
    · rw [List.length_map]; omega
    rw [List.length_map] at r2
    have h17 := c7 _ _ ld ld0 h1
    have h27 := c7 _ _ Dd Dd0 h2
    have rl : r.toNat < left.length := by omega
    refine ⟨l, _, r, r.toNat, .str left[r.toNat], rfl, rfl, h17, by omega, by omega, ?_, by simp [rl], ?_⟩
    · rw [List.length_map]
      unfold seqIndex?
      have a1 : ¬ r < 0 := by omega
      have a2 : r < (left.length : Int) := by omega
      simp [a1, a2, r1]
    refine ⟨_, by rw [upd_ne lD.symm]; exact h27, ?_, left.eraseIdx r.toNat, ys ++ [left[r.toNat]], ?_, ?_, by simp [h3], ?_, ?_, ?_, ?_, ?_⟩
    · rw [List.length_map]; exact Nat.lt_of_le_of_lt (show _ ≤ 100 by omega) (by decide)
    · rw [upd_ne lD, upd_same, map_erase]
    · rw [upd_same, List.map_append]; rfl
    · rw [List.length_eraseIdx, if_pos rl]; omega
    · have pm : (left.eraseIdx r.toNat ++ (ys ++ [left[r.toNat]])).Perm (left ++ ys) := by
        refine List.Perm.trans (List.perm_append_comm.trans ?_) (List.Perm.append_right ys (perm_erase rl))
        simp only [List.append_assoc, List.singleton_append, List.cons_append]
        exact (List.perm_append_comm (l₁ := ys) (l₂ := left[r.toNat] :: left.eraseIdx r.toNat)).trans (by simp)
      rw [List.all_eq_true] at h5 ⊢
      exact fun x hx => h5 x (pm.mem_iff.mp hx)
    · have pm : (left.eraseIdx r.toNat ++ (ys ++ [left[r.toNat]])).Perm (left ++ ys) := by
        refine List.Perm.trans (List.perm_append_comm.trans ?_) (List.Perm.append_right ys (perm_erase rl))
        simp only [List.append_assoc, List.singleton_append, List.cons_append]
        exact (List.perm_append_comm (l₁ := ys) (l₂ := left[r.toNat] :: left.eraseIdx r.toNat)).trans (by simp)
      exact pm.nodup_iff.mpr h6
    · exact ((h7.trans c7).updn hl0 _).updn DH _
    · exact (d7.upd ld ld0).upd Dd Dd0
  · rintro H6 ⟨left, ys, h1, h2, h3, h4, h5, h6, h7, h8⟩
    rw [List.all_append, Bool.and_eq_true] at h5
    exact q D H6 ys (by omega) h5.2 (List.nodup_append.mp h6).2.1 DH h7 h2 Dd Dd0 (h8.mono (by omega))
end
end K03

set_option Elab.async false
set_option linter.all false
set_option maxRecDepth 100000
set_option maxHeartbeats 4000000
namespace MC
open PySem PySem.Spec L2
mutual
/-- a part of a row in lists, said at most B times -/
def lineP (B : Int) : PyData → Bool
  | .str z => isThingS z
  | .tuple [.list ys, .int t] => decide (1 ≤ t) && decide (t ≤ B) && !ys.isEmpty && lineL B ys
  | _ => false
def lineL (B : Int) : List PyData → Bool
  | [] => true
  | x :: xs => lineP B x && lineL B xs
end
theorem lineL_append (B : Int) (xs ys : List PyData) : lineL B (xs ++ ys) = (lineL B xs && lineL B ys) := by
  induction xs with
  | nil => simp [lineL]
  | cons x xs ih => simp only [List.cons_append, lineL, ih, Bool.and_assoc]
theorem okS {z : Str} (h : isThingS z = true) : okD (.str z) = true := by
  unfold isThingS at h
  simp only [Bool.and_eq_true, decide_eq_true_eq, List.all_eq_true] at h
  simp only [okD, Bool.and_eq_true, decide_eq_true_eq, List.all_eq_true]
  refine ⟨by omega, fun c hc => ?_⟩
  have q := h.2 c hc
  unfold isSign at q
  simp only [Bool.and_eq_true, decide_eq_true_eq] at q
  exact Nat.lt_of_le_of_lt q.2 (by decide)
/-- how many rolls a row wants -/
def rolls : Nat → Nat
  | 0 => 40
  | l + 1 => 6 * rolls l
theorem rolls_ge (l : Nat) : 40 ≤ rolls l := by
  induction l with
  | zero => exact Nat.le_refl _
  | succ l ih => show 40 ≤ 6 * rolls l; omega
def cost : Nat → Nat
  | 0 => 2
  | l + 1 => 5 + rolls l
theorem cost_ok (l : Nat) : 1 + 5 * cost l ≤ rolls l := by
  cases l with
  | zero => decide
  | succ l =>
    have := rolls_ge l
    show 1 + 5 * (5 + rolls l) ≤ 6 * rolls l
    omega
/-- what is new in H beside H0 -/
def New (H0 H : Hp) : Hp := fun a => if H0 a = none then H a else none
theorem new_some {H0 H : Hp} {a : Addr} {o : HO} (h : New H0 H a = some o) : H0 a = none ∧ H a = some o := by
  unfold New at h
  by_cases q : H0 a = none
  · rw [if_pos q] at h; exact ⟨q, h⟩
  · rw [if_neg q] at h; cases h
theorem new_at {H0 H : Hp} {a : Addr} (h : H0 a = none) : New H0 H a = H a := if_pos h
theorem new_same {H0 H : Hp} : Same (New H0 H) H := fun b o h => (new_some h).2
theorem new_step {S : List Addr} {H0 H H' : Hp} (hS : ∀ a ∈ S, H0 a ≠ none) (e : Same (Hid S H) (Hid S H')) : Same (New H0 H) (New H0 H') := fun b o h => by
  obtain ⟨h1, h2⟩ := new_some h
  have n : b ∉ S := fun z => hS b z h1
  have q := e b o (by rw [hid_out n]; exact h2)
  rw [hid_out n] at q
  rw [new_at h1]; exact q
theorem new_of {H0 H H' : Hp} (e : Same H H') : Same (New H0 H) (New H0 H') := fun b o h => by
  obtain ⟨h1, h2⟩ := new_some h
  rw [new_at h1]; exact e _ _ h2
theorem new_dom {H0 H1 H' : Hp} (h : ∀ a, H1 a = none → H0 a = none) : Same (New H1 H') (New H0 H') := fun b o e => by
  obtain ⟨h1, h2⟩ := new_some e
  rw [new_at (h _ h1)]; exact h2
/-- .. but what stands at f -/
theorem newf_dom {H0 H1 H' : Hp} {f : Addr} (h : ∀ a, H1 a = none → H0 a = none) (hf : H1 f ≠ none) : Same (New H1 H') (Hid [f] (New H0 H')) := fun b o e => by
  obtain ⟨h1, h2⟩ := new_some e
  rw [hid_out (fun z => hf (by rw [← List.mem_singleton.mp z]; exact h1)), new_at (h _ h1)]; exact h2
theorem newf_upd {H0 H : Hp} {f : Addr} (o : HO) : Same (Hid [f] (New H0 H)) (Hid [f] (New H0 (upd H f o))) := fun b u h => by
  obtain ⟨h1, h2⟩ := hid_some h
  obtain ⟨h3, h4⟩ := new_some h2
  rw [hid_out h1, new_at h3, upd_ne (fun z => h1 (by rw [z]; simp))]; exact h4
theorem dom_of {S : List Addr} {H H' : Hp} (e : Same (Hid S H) (Hid S H')) (hS : ∀ a ∈ S, H' a ≠ none) : ∀ a, H' a = none → H a = none := fun a h => hid_free e h (fun z => hS a z h)
end MC
namespace K03
open PySem PySem.Spec L2 MC
open PyProof.Rows hiding St
def spRow (n : Nat) : Sp := fun vs H Q _ => ∃ (d d0 nm pl : Addr) (N l : Nat) (ys : List Str) (a B : Int), vs = [.ref d, .ref nm, .ref pl, .int l] ∧ pl ≠ d0 ∧ Dice H d d0 N ∧ N + rolls l ≤ 10 ^ 11 ∧ l < n ∧ l ≤ 4 ∧
  H nm = some (.lst (ys.map V.str)) ∧ ys ≠ [] ∧ ys.length ≤ 78 ∧ ys.all isThingS = true ∧ H pl = some (.lst [.int a, .int B]) ∧ 0 ≤ a ∧ a ≤ 100 ∧ 2 ≤ B ∧ B ≤ 10 ^ 30 ∧
  ∀ p H' ds (a' : Int), Same (Hid [d, d0, pl] H) (Hid [d, d0, pl] H') → Dice H' d d0 (N + rolls l) → H' pl = some (.lst [.int a', .int B]) → 0 ≤ a' → a' ≤ a → (∃ xs, New H H' p = some (.lst xs) ∧ DDs (Hid [p] (New H H')) xs ds) →
    lineL (max B 5) ds = true → oksD ds = true → (wDs ds : Int) ≤ 4 * (a - a') → PyData.depthAll ds ≤ 2 * l → ds.length ≤ 5 → (1 ≤ a → 1 ≤ ds.length) → Q (.ref p) H'
section
variable {P : Program} {w : World} {K : PySem.W.Frag} {mg : Str → Option Value} {base : Heap}
variable {f_l_roll f_l_row : Addr} {fd_l_roll fd_l_row : FuncData}
theorem row_none : FnOk P w K mg base CX0 1 f_l_row fd_l_row ["_law_dice_here", "_law_names_here", "_law_plan", "_law_layers"] (spRow 0) := by
  have no : ∀ vs H Q E, ¬ spRow 0 vs H Q E := fun vs H Q E h => by
    obtain ⟨d, d0, nm, pl, N, l, ys, a, B, _, _, _, _, h0, _⟩ := h
    exact absurd h0 (Nat.not_lt_zero _)
  exact ⟨fun vs H Q E h => absurd h (no vs H Q E), fun A outer s H args us vs Q E _ _ _ _ h => absurd h (no vs H Q E)⟩
theorem row_step {n : Nat} (T : Txt K mg) (G_l_roll : FnOk P w K mg base CX0 1 f_l_roll fd_l_roll ["_law_dice_here", "_law_many_here"] spRoll) (O_l_roll : Own K mg "_law_roll" s_l_roll f_l_roll fd_l_roll ["_law_dice_here", "_law_many_here"]) (O_l_row : Own K mg "_law_row" s_l_row f_l_row fd_l_row ["_law_dice_here", "_law_names_here", "_law_plan", "_law_layers"])
    (G_l_row : FnOk P w K mg base CX0 (n + 1) f_l_row fd_l_row ["_law_dice_here", "_law_names_here", "_law_plan", "_law_layers"] (spRow n)) : FnOk P w K mg base CX0 (n + 1 + 1) f_l_row fd_l_row ["_law_dice_here", "_law_names_here", "_law_plan", "_law_layers"] (spRow (n + 1)) := by
  refine O_l_row.F.ok sc_l_row (fun vs H Q E h => by obtain ⟨d, d0, nm, pl, N, l, ys, a, B, rfl, _⟩ := h; rfl) (fun cdv A outer s H vs Q E hr h => ?_)
  obtain ⟨d, d0, nm, pl, N, l, ys, a, B, rfl, npd0, hD, hN, ln, l4, hnm, hne, hyl, hys, hpl, a0, a1, B2, B3, q⟩ := h
  have hu1 : (A.deeper (envOfC "_law_row" (defScope s_l_row) s.heap.objs.size f_l_row cdv)).units < cLine := by have := hr.un; omega
  refine ⟨_, (pss_cons (ps_set (i := 4) sc_l_row.nd rfl (Or.inl rfl) (pe_lst pa_nil))
    (pss_cons (ps_for PassesOwn.never rfl (pi_range1 (by rfl) T.n_range (pa_cons (pe_op op_add pe_int (pe_call G_l_roll (hr.mono (by omega)) rfl O_l_roll.m O_l_roll.F.kp O_l_roll.b .nil pass0 (pa_cons (pv 0) (pa_cons pe_int pa_nil)))) pa_nil)) (pg_name (i := 5) sc_l_row.nd rfl (Or.inl rfl))
    (pss_cons (ps_set (i := 6) sc_l_row.nd rfl (Or.inl rfl) (pe_ix (k_ix_list (K := K) rfl) (pv 1) (pe_call G_l_roll (hr.mono (by omega)) rfl O_l_roll.m O_l_roll.F.kp O_l_roll.b .nil pass0 (pa_cons (pv 0) (pa_cons (pe_callB (k_len_seq (K := K) rfl) (by rfl) T.n_len (by decide +kernel) (pa_cons (pv 1) pa_nil)) pa_nil))) (fun _ _ => rfl)))
    (pss_cons (ps_set (i := 7) sc_l_row.nd rfl (Or.inl rfl) (pe_and (pe_cmpR op_gt (pv 3) pe_int (nomark _)) (pe_one (pe_cmpR op_eq (pe_call G_l_roll (hr.mono (by omega)) rfl O_l_roll.m O_l_roll.F.kp O_l_roll.b .nil pass0 (pa_cons (pv 0) (pa_cons pe_int pa_nil))) pe_int (nomark _)))))
    (pss_one (ps_if (PW.pt (pw_and (pt_cmpR op_gt (pe_ix (k_ix_list (K := K) rfl) (pv 2) pe_int (fun _ _ => rfl)) pe_int (nomark _)) (pw_and1 (pt_val (pv 7)))))
    (pss_cons (ps_asg (pe_op op_sub (pe_ix (k_ix_list (K := K) rfl) (pv 2) pe_int (fun _ _ => rfl)) pe_int) (pg_sub (pv 2) pe_int set_list))
    (pss_cons (ps_set (i := 8) sc_l_row.nd rfl (Or.inl rfl) (pe_call G_l_row (hr.mono (by omega)) rfl O_l_row.m O_l_row.F.kp O_l_row.b .nil pass0 (pa_cons (pv 0) (pa_cons (pv 1) (pa_cons (pv 2) (pa_cons (pe_op op_sub (pv 3) pe_int) pa_nil))))))
    (pss_cons (ps_set (i := 9) sc_l_row.nd rfl (Or.inl rfl) (pe_ix (k_ix_list (K := K) rfl) (pe_lst (pa_cons pe_int (pa_cons pe_int (pa_cons (pe_op op_add pe_int (pe_call G_l_roll (hr.mono (by omega)) rfl O_l_roll.m O_l_roll.F.kp O_l_roll.b .nil pass0 (pa_cons (pv 0) (pa_cons pe_int pa_nil)))) (pa_cons (pe_op op_add pe_int (pe_call G_l_roll (hr.mono (by omega)) rfl O_l_roll.m O_l_roll.F.kp O_l_roll.b .nil pass0 (pa_cons (pv 0) (pa_cons (pe_ix (k_ix_list (K := K) rfl) (pv 2) pe_int (fun _ _ => rfl)) pa_nil)))) pa_nil))))) (pe_call G_l_roll (hr.mono (by omega)) rfl O_l_roll.m O_l_roll.F.kp O_l_roll.b .nil pass0 (pa_cons (pv 0) (pa_cons pe_int pa_nil))) (fun _ _ => rfl)))
    (pss_one (ps_expr (k_bm (K := K) rfl (pe_bm PySem.F.plainAttrs_list PySem.F.slot_list_append PySem.F.type_list_append mt_append (pv 4) (pa_cons (pe_tup (pa_cons (pe_ifExp (pt_cmpR (k_neNil (K := K) rfl hu1) (pv 8) (pe_lst pa_nil) (nomark _)) (pv 8) (pe_lst (pa_cons (pv 6) pa_nil))) (pa_cons (pv 9) pa_nil))) pa_nil))))))))
    (pss_one (ps_if (pt_cmpR op_gt (pe_ix (k_ix_list (K := K) rfl) (pv 2) pe_int (fun _ _ => rfl)) pe_int (nomark _))
    (pss_cons (ps_asg (pe_op op_sub (pe_ix (k_ix_list (K := K) rfl) (pv 2) pe_int (fun _ _ => rfl)) pe_int) (pg_sub (pv 2) pe_int set_list))
    (pss_one (ps_expr (k_bm (K := K) rfl (pe_bm PySem.F.plainAttrs_list PySem.F.slot_list_append PySem.F.type_list_append mt_append (pv 4) (pa_cons (pv 6) pa_nil))))))
    pss_nil)))))))
    (pss_one (ps_ret (pv 4))))), ?_⟩
  obtain ⟨nd, nd0, ndd⟩ := hD.at
  have npd : pl ≠ d := fun z => by
    obtain ⟨gs, m, k, h1, _⟩ := hD
    rw [← z, hpl] at h1; cases h1
  have hS : ∀ x ∈ [d, d0, pl], H x ≠ none := by
    intro x hx
    simp only [List.mem_cons, List.not_mem_nil, or_false] at hx
    rcases hx with rfl | rfl | rfl
    · exact nd
    · exact nd0
    · rw [hpl]; exact fun z => nomatch z
  obtain ⟨y0, yr, rfl⟩ := List.exists_cons_of_ne_nil hne
  have nnd : nm ≠ d := fun z => by
    obtain ⟨gs, m, k, h1, _⟩ := hD
    rw [← z, hnm] at h1; cases h1
  have nnd0 : nm ≠ d0 := fun z => by
    obtain ⟨gs, m, k, _, h1, _⟩ := hD
    rw [← z, hnm] at h1
    injection h1 with h1
    injection h1 with h1
    cases gs <;> cases h1
  have nnp : nm ≠ pl := fun z => by rw [← z, hnm] at hpl; cases hpl
  have nmS : nm ∉ [d, d0, pl] := by simp [nnd, nnd0, nnp]
  generalize hys' : y0 :: yr = ys at hnm hne hyl hys
  have yl1 : 1 ≤ ys.length := by rw [← hys']; simp
  -- found = []
  refine ⟨Nat.zero_le _, fun f hf => ?_⟩
  have fd : f ≠ d := fun z => nd (z ▸ hf)
  have fd0 : f ≠ d0 := fun z => nd0 (z ▸ hf)
  have fp : f ≠ pl := fun z => by rw [← z, hf] at hpl; cases hpl
  have fS : f ∉ [d, d0, pl] := by simp [fd, fd0, fp]
  have s0 := same_new hf (.lst [])
  have ef : upd H f (.lst []) f = some (.lst []) := upd_same
  have hD0 := hD.same s0
  generalize upd H f (.lst []) = H0 at s0 ef hD0
  refine ⟨_, rfl, d, d0, N, 5, rfl, hD0, by omega, by omega, by omega, fun r H1 r0 r5 c1 d1 => ⟨_, _, rfl, rfl, _, rfl, by omega, by omega, ?_⟩⟩
  have t1 : Same (Hid [d, d0, pl] H) (Hid [d, d0, pl] H1) := (Same.hid s0).trans (c1.hid (by simp) (by simp))
  refine for_range (lo := 0) (n := (1 + r).toNat) (fun i σ H' => ∃ (xs : List V) (ds : List PyData) (a' : Int) (s5 s6 s7 s8 s9 : Option V), σ = [some (.ref d), some (.ref nm), some (.ref pl), some (.int l), some (.ref f), s5, s6, s7, s8, s9] ∧
      Same (Hid [d, d0, pl] H) (Hid [d, d0, pl] H') ∧ H' f = some (.lst xs) ∧ DDs (Hid [f] (New H H')) xs ds ∧ lineL (max B 5) ds = true ∧ oksD ds = true ∧ H' pl = some (.lst [.int a', .int B]) ∧ 0 ≤ a' ∧ a' ≤ a ∧
      (wDs ds : Int) ≤ 4 * (a - a') ∧ PyData.depthAll ds ≤ 2 * l ∧ (ds.length ≤ i ∧ (ds.length = 0 → a' = a) ∧ (1 ≤ i → 1 ≤ a → 1 ≤ ds.length)) ∧ Dice H' d d0 (N + 1 + i * cost l))
    ⟨[], [], a, _, _, _, _, _, rfl, t1, c1 _ _ fd fd0 ef, .nil, rfl, rfl, ?_, a0, Int.le_refl _, ?_, Nat.zero_le _, ⟨Nat.le_refl _, fun _ => rfl, fun z => absurd z (by decide)⟩, ?_⟩ ?_ ?_
  · exact c1 _ _ npd npd0 (s0 _ _ hpl)
  · show ((0 : Nat) : Int) ≤ _; omega
  · simpa using d1
  · rintro i σ H2 hi ⟨xs, ds, a', s5, s6, s7, s8, s9, rfl, t2, hf2, hds, hln, hok, hp2, a2, a3, hw, hdp, ⟨hlen, hl0, hl1⟩, hD2⟩
    have i5 : i < 5 := by omega
    have ci : i * cost l ≤ 4 * cost l := Nat.mul_le_mul_right _ (by omega)
    have cl : cost l ≤ 10 ^ 6 := by
      have : l = 0 ∨ l = 1 ∨ l = 2 ∨ l = 3 ∨ l = 4 := by omega
      rcases this with rfl | rfl | rfl | rfl | rfl <;> decide
    have cc := cost_ok l
    have e1 : (i + 1) * cost l = i * cost l + cost l := Nat.succ_mul _ _
    have c2 : 2 ≤ cost l := by
      cases l with
      | zero => decide
      | succ m => show 2 ≤ 5 + rolls m; omega
    have nm2 : H2 nm = some (.lst (ys.map V.str)) := by
      have q := t2 nm _ (by rw [hid_out nmS]; exact hnm)
      rw [hid_out nmS] at q; exact q
    -- name
    refine ⟨_, rfl, _, rfl, _, rfl, _, _, rfl, .inl (SqL.of nm2), d, d0, _, _, rfl, hD2, by omega, by rw [List.length_map]; omega, by rw [List.length_map]; omega, fun r1 H3 r10 r11 c3 d3 => ?_⟩
    rw [List.length_map] at r11
    have rl : r1.toNat < ys.length := by omega
    refine ⟨_, _, _, .str ys[r1.toNat], rfl, rfl, SqL.of (c3 _ _ nnd nnd0 nm2), ?_, ?_⟩
    · have := atI_nat (xs := ys.map V.str) (j := r1.toNat) (v := .str ys[r1.toNat]) (by simp [rl])
      rwa [show ((r1.toNat : Nat) : Int) = r1 by omega] at this
    have hname : isThingS ys[r1.toNat] = true := List.all_eq_true.mp hys _ (List.getElem_mem rl)
    generalize ys[r1.toNat] = y at hname
    have t3 := t2.trans (c3.hid (by simp) (by simp))
    have hf3 := c3 _ _ fd fd0 hf2
    have hds3 := hds.mono (Same.hid (new_step hS (c3.hid (S := [d, d0, pl]) (by simp) (by simp))))
    have hp3 := c3 _ _ npd npd0 hp2
    -- again
    refine ⟨_, rfl, _, _, rfl, rfl, _, rfl, ?_⟩
    refine ite2 (fun k1 => ?_) (fun k1 => ?_)
    · obtain ⟨m, rfl⟩ : ∃ m, l = m + 1 := ⟨l - 1, by have : (0 : Int) < l := by simpa using k1
                                                     omega⟩
      have cm : cost (m + 1) = 5 + rolls m := rfl
      refine ⟨_, rfl, d, d0, _, 3, rfl, d3, by omega, by omega, by omega, fun r2 H4 r20 r21 c4 d4 => ⟨rfl, ?_⟩⟩
      have t4 := t3.trans (c4.hid (by simp) (by simp))
      have hf4 := c4 _ _ fd fd0 hf3
      have hds4 := hds3.mono (Same.hid (new_step hS (c4.hid (S := [d, d0, pl]) (by simp) (by simp))))
      have hp4 := c4 _ _ npd npd0 hp3
      have nm4 := c4 _ _ nnd nnd0 (c3 _ _ nnd nnd0 nm2)
      refine ⟨_, rfl, _, _, _, _, rfl, rfl, SqL.of hp4, atI_nat (j := 0) rfl, _, _, rfl, rfl, _, rfl, ?_⟩
      refine ite2 (fun k2 => ?_) (fun k2 => ?_)
      · have ap : 0 < a' := by simpa using k2
        refine ⟨_, rfl, _, rfl, ?_⟩
        refine ite2 (fun k3 => ?_) (fun k3 => ?_)
        · -- an again
          have u1 : Same (Hid [d, d0, pl] H4) (Hid [d, d0, pl] (upd H4 pl (.lst ([V.int a', V.int B].set 0 (.int (a' - 1)))))) := hid_upd (Same.refl _) (by simp) _
          refine ⟨_, rfl, _, _, _, _, rfl, rfl, SqL.of hp4, atI_nat (j := 0) rfl, _, _, rfl, rfl, _, rfl, _, _, _, 0, rfl, rfl, hp4, rfl, ?_⟩
          have hf5 : upd H4 pl (.lst ([V.int a', V.int B].set 0 (.int (a' - 1)))) f = some (.lst xs) := by rw [upd_ne fp]; exact hf4
          have nm5 : upd H4 pl (.lst ([V.int a', V.int B].set 0 (.int (a' - 1)))) nm = some (.lst (ys.map V.str)) := by rw [upd_ne nnp]; exact nm4
          have hp5 : upd H4 pl (.lst ([V.int a', V.int B].set 0 (.int (a' - 1)))) pl = some (.lst [.int (a' - 1), .int B]) := upd_same
          have d5 := d4.upd (o := .lst ([V.int a', V.int B].set 0 (.int (a' - 1)))) npd npd0
          have hds5 := hds4.mono (Same.hid (new_step hS u1))
          have t5 := t4.trans u1
          generalize upd H4 pl (.lst ([V.int a', V.int B].set 0 (.int (a' - 1)))) = H5 at hf5 nm5 hp5 d5 hds5 t5
          -- the row within
          refine ⟨_, rfl, _, rfl, _, rfl, _, rfl, _, _, rfl, rfl, d, d0, nm, pl, _, m, ys, a' - 1, B, ?_, npd0, d5, by omega, by omega, by omega, nm5, hne, hyl, hys, hp5, by omega, by omega, B2, B3,
            fun pi H6 di a6 c6 d6 hp6 a60 a61 hdi0 lni oki wi dpi leni nei => ?_⟩
          · show [V.ref d, V.ref nm, V.ref pl, V.int (((m + 1 : Nat) : Int) - 1)] = _
            rw [show ((m + 1 : Nat) : Int) - 1 = (m : Int) by omega]
          obtain ⟨xi0, hpi0, hxi0⟩ := hdi0
          have hdi : DD (New H5 H6) (.ref pi) (.list di) := .lst hpi0 (hxi0.mono hid_same)
          have t6 := t5.trans c6
          have hS5 : ∀ x ∈ [d, d0, pl], H5 x ≠ none := by
            intro x hx
            simp only [List.mem_cons, List.not_mem_nil, or_false] at hx
            rcases hx with rfl | rfl | rfl
            · exact d5.at.1
            · exact d5.at.2.1
            · rw [hp5]; exact fun z => nomatch z
          have cS : ∀ {z : Addr} {o : HO}, z ∉ [d, d0, pl] → H5 z = some o → H6 z = some o := fun {z o} hz h => by
            have q := c6 z o (by rw [hid_out hz]; exact h)
            rw [hid_out hz] at q; exact q
          have hf6 := cS fS hf5
          have hds6 := hds5.mono (Same.hid (new_step hS c6))
          have inn : DD (Hid [f] (New H H6)) (.ref pi) (.list di) := hdi.mono (newf_dom (dom_of t5 hS5) (by rw [hf5]; exact fun z => nomatch z))
          -- times
          refine ⟨_, rfl, d, d0, _, 4, rfl, d6, by omega, by omega, by omega, fun r4 H7 r40 r41 c7 d7 => ⟨_, _, rfl, rfl, ?_⟩⟩
          have hp7 := c7 _ _ npd npd0 hp6
          refine ⟨_, rfl, _, rfl, _, _, _, _, rfl, rfl, SqL.of hp7, atI_nat (j := 1) rfl, d, d0, _, B, rfl, d7, by omega, by omega, by omega, fun r5 H8 r50 r51 c8 d8 => ⟨_, _, rfl, rfl, (by show 4 ≤ sizeLine; decide), fun tl htl => ?_⟩⟩
          have sl := same_new htl (.lst [V.int 1, V.int 2, V.int (2 + r4), V.int (1 + r5)])
          refine ⟨_, rfl, d, d0, _, 4, rfl, d8.same sl, by omega, by omega, by omega, fun r6 H9 r60 r61 c9 d9 => ?_⟩
          have nd8 := d8.at
          have etl := c9 tl _ (fun z => nd8.1 (z ▸ htl)) (fun z => nd8.2.1 (z ▸ htl)) upd_same
          obtain ⟨tt, htt, tt1, tt2⟩ : ∃ tt : Int, atI [V.int 1, V.int 2, V.int (2 + r4), V.int (1 + r5)] r6 = some (.int tt) ∧ 1 ≤ tt ∧ tt ≤ max B 5 := by
            have : r6 = 0 ∨ r6 = 1 ∨ r6 = 2 ∨ r6 = 3 := by omega
            rcases this with rfl | rfl | rfl | rfl
            · exact ⟨1, rfl, by omega, by omega⟩
            · exact ⟨2, rfl, by omega, by omega⟩
            · exact ⟨2 + r4, rfl, by omega, by omega⟩
            · exact ⟨1 + r5, rfl, by omega, by omega⟩
          refine ⟨_, _, _, _, rfl, rfl, SqL.of etl, htt, ?_⟩
          have cc : Same (Hid [d, d0, pl] H6) (Hid [d, d0, pl] H9) := ((c7.hid (by simp) (by simp)).trans (c8.hid (by simp) (by simp))).trans ((Same.hid sl).trans (c9.hid (by simp) (by simp)))
          have t9 := t6.trans cc
          have hf9 := c9 _ _ fd fd0 (sl _ _ (c8 _ _ fd fd0 (c7 _ _ fd fd0 hf6)))
          have hp9 := c9 _ _ npd npd0 (sl _ _ (c8 _ _ npd npd0 hp7))
          have hds9 := hds6.mono (Same.hid (new_step hS cc))
          have inn9 := inn.mono (Same.hid (new_step hS cc))
          have okt : okD (.int tt) = true := by simp only [okD, decide_eq_true_eq]; omega
          -- found.append((.., times))
          refine ⟨_, rfl, .inl ⟨rfl, _, SqL.of hf9⟩, ?_⟩
          cases inn9 with
          | @lst ai xi _ hai hxi =>
          have hai9 := (new_some (hid_some hai).2).2
          refine ⟨_, rfl, Nat.zero_le _, fun e he => ⟨_, _, _, rfl, rfl, SqL.of (same_new he _ _ _ hai9), upd_same, _, rfl, ?_⟩⟩
          have se := same_new he (.lst [])
          -- what is said over: its row, as data
          refine ite2 (fun k5 => ?_) (fun k5 => ?_)
          · refine ⟨_, rfl, _, rfl, (by show 2 ≤ sizeLine; decide), fun tp htp => ?_⟩
            have st := se.trans (same_new htp (.tup [.ref pi, .int tt]))
            have hfq : upd (upd H9 e (.lst [])) tp (.tup [.ref pi, .int tt]) f = some (.lst xs) := st _ _ hf9
            refine ⟨_, _, _, rfl, rfl, hfq, ?_, ?_⟩
            · rw [hds.length]; exact Nat.lt_of_le_of_lt (show _ ≤ 100 by omega) (by decide)
            have ntp0 : H tp = none := hid_free (t9.trans (Same.hid se)) htp (fun z => by
              have := (d9.same se).at
              simp only [List.mem_cons, List.not_mem_nil, or_false] at z
              rcases z with rfl | rfl | rfl
              · exact this.1 htp
              · exact this.2.1 htp
              · rw [se _ _ hp9] at htp; cases htp)
            have ntf : tp ≠ f := fun z => by rw [z, se _ _ hf9] at htp; cases htp
            have nb : ∀ o, Hid [f] (New H (upd (upd (upd H9 e (.lst [])) tp (.tup [.ref pi, .int tt])) f o)) tp = some (.tup [.ref pi, .int tt]) := fun o => by
              rw [hid_out (by simpa using ntf), new_at ntp0, upd_ne ntf, upd_same]
            have mv : ∀ o, Same (Hid [f] (New H H9)) (Hid [f] (New H (upd (upd (upd H9 e (.lst [])) tp (.tup [.ref pi, .int tt])) f o))) := fun o => (Same.hid (new_of st)).trans (newf_upd _)
            have nem : di.isEmpty = false := by
              have l1 := hxi.length
              cases di with
              | nil => simp [List.length_eq_zero_iff.mp l1] at k5
              | cons _ _ => rfl
            refine ⟨xs ++ [.ref tp], ds ++ [.tuple [.list di, .int tt]], a6, _, _, _, _, _, rfl, hid_new (t9.trans (Same.hid st)) (hid_none hf) _, upd_same, ?_, ?_, ?_, ?_, by omega, by omega, ?_, ?_, ?_, ?_⟩
            · exact (hds9.mono (mv _)).append (.cons (.tup (nb _) (.cons (.lst (mv _ _ _ hai) (hxi.mono (mv _))) (.cons (.int tt) .nil))) .nil)
            · rw [lineL_append, hln]
              have h1 : decide (1 ≤ tt) = true := decide_eq_true tt1
              have h2 : decide (tt ≤ max B 5) = true := decide_eq_true tt2
              simp [lineL, lineP, h1, h2, nem, lni]
            · rw [oksD_append, hok]; simp [oksD, okD] at okt ⊢; exact ⟨oki, okt⟩
            · rw [upd_ne fp.symm]; exact st _ _ hp9
            · rw [wDs_append]; simp only [wDs, wD]; omega
            · rw [depthAll_append]; simp only [PyData.depthAll, PyData.depth]; omega
            · exact ⟨by simp; omega, fun z => by simp at z, fun _ _ => by simp⟩
            · have := rolls_ge m
              exact ((d9.same st).upd fd fd0).mono (by omega)
          · refine ⟨_, rfl, (by show 1 ≤ sizeLine; decide), fun w1 hw1 => ⟨_, rfl, (by show 2 ≤ sizeLine; decide), fun tp htp => ?_⟩⟩
            have sw := se.trans (same_new hw1 (.lst [.str y]))
            have st := sw.trans (same_new htp (.tup [.ref w1, .int tt]))
            have hfq : upd (upd (upd H9 e (.lst [])) w1 (.lst [.str y])) tp (.tup [.ref w1, .int tt]) f = some (.lst xs) := st _ _ hf9
            refine ⟨_, _, _, rfl, rfl, hfq, ?_, ?_⟩
            · rw [hds.length]; exact Nat.lt_of_le_of_lt (show _ ≤ 100 by omega) (by decide)
            have free : ∀ {H' : Hp} {z : Addr}, Same H9 H' → H' z = none → H z = none ∧ z ≠ f := fun {H' z} hs hz => by
              refine ⟨hid_free (t9.trans (Same.hid hs)) hz (fun u => ?_), fun u => by rw [u, hs _ _ hf9] at hz; cases hz⟩
              have := (d9.same hs).at
              simp only [List.mem_cons, List.not_mem_nil, or_false] at u
              rcases u with rfl | rfl | rfl
              · exact this.1 hz
              · exact this.2.1 hz
              · rw [hs _ _ hp9] at hz; cases hz
            obtain ⟨nw0, nwf⟩ := free se hw1
            obtain ⟨ntp0, ntf⟩ := free sw htp
            have nwt : w1 ≠ tp := ne_of_none upd_same htp
            have nb : ∀ o, Hid [f] (New H (upd (upd (upd (upd H9 e (.lst [])) w1 (.lst [.str y])) tp (.tup [.ref w1, .int tt])) f o)) tp = some (.tup [.ref w1, .int tt]) := fun o => by
              rw [hid_out (by simpa using ntf), new_at ntp0, upd_ne ntf, upd_same]
            have nb2 : ∀ o, Hid [f] (New H (upd (upd (upd (upd H9 e (.lst [])) w1 (.lst [.str y])) tp (.tup [.ref w1, .int tt])) f o)) w1 = some (.lst [.str y]) := fun o => by
              rw [hid_out (by simpa using nwf), new_at nw0, upd_ne nwf, upd_ne nwt, upd_same]
            have mv : ∀ o, Same (Hid [f] (New H H9)) (Hid [f] (New H (upd (upd (upd (upd H9 e (.lst [])) w1 (.lst [.str y])) tp (.tup [.ref w1, .int tt])) f o))) := fun o => (Same.hid (new_of st)).trans (newf_upd _)
            have sok := okS hname
            refine ⟨xs ++ [.ref tp], ds ++ [.tuple [.list [.str y], .int tt]], a6, _, _, _, _, _, rfl, hid_new (t9.trans (Same.hid st)) (hid_none hf) _, upd_same, ?_, ?_, ?_, ?_, by omega, by omega, ?_, ?_, ?_, ?_⟩
            · exact (hds9.mono (mv _)).append (.cons (.tup (nb _) (.cons (.lst (nb2 _) (.cons (.str y) .nil)) (.cons (.int tt) .nil))) .nil)
            · rw [lineL_append, hln]
              have h1 : decide (1 ≤ tt) = true := decide_eq_true tt1
              have h2 : decide (tt ≤ max B 5) = true := decide_eq_true tt2
              simp [lineL, lineP, h1, h2, hname]
            · rw [oksD_append, hok]; simp [oksD, okD] at okt sok ⊢; exact ⟨sok, okt⟩
            · rw [upd_ne fp.symm]; exact st _ _ hp9
            · rw [wDs_append]; simp only [wDs, wD]; omega
            · rw [depthAll_append]; simp only [PyData.depthAll, PyData.depth]; omega
            · exact ⟨by simp; omega, fun z => by simp at z, fun _ _ => by simp⟩
            · have := rolls_ge m
              exact ((d9.same st).upd fd fd0).mono (by omega)
        · refine ⟨_, rfl, _, _, _, _, rfl, rfl, SqL.of hp4, atI_nat (j := 0) rfl, _, _, rfl, rfl, _, rfl, ?_⟩
          refine ite2 (fun k4 => ?_) (fun k4 => absurd k2 k4)
          refine ⟨_, rfl, _, _, _, _, rfl, rfl, SqL.of hp4, atI_nat (j := 0) rfl, _, _, rfl, rfl, _, rfl, _, _, _, 0, rfl, rfl, hp4, rfl, ?_⟩
          have w4 : upd H4 pl (.lst ([V.int a', V.int B].set 0 (.int (a' - 1)))) f = some (.lst xs) := by rw [upd_ne fp]; exact hf4
          refine ⟨_, rfl, .inl ⟨rfl, _, SqL.of w4⟩, _, rfl, _, _, _, rfl, rfl, w4, ?_, ?_⟩
          · rw [hds.length]; exact Nat.lt_of_le_of_lt (show _ ≤ 100 by omega) (by decide)
          have u1 : Same (Hid [d, d0, pl] H4) (Hid [d, d0, pl] (upd H4 pl (.lst ([V.int a', V.int B].set 0 (.int (a' - 1)))))) := hid_upd (Same.refl _) (by simp) _
          have sok := okS hname
          refine ⟨xs ++ [.str y], ds ++ [.str y], a' - 1, _, _, _, _, _, rfl, hid_new (t4.trans u1) (hid_none hf) _, upd_same, ?_, ?_, ?_, ?_, by omega, by omega, ?_, ?_, ?_, ?_⟩
          · exact ((hds4.mono (Same.hid (new_step hS u1))).mono (newf_upd _)).append (.cons (.str y) .nil)
          · rw [lineL_append, hln]; simp [lineL, lineP, hname]
          · rw [oksD_append, hok]; simp [oksD, sok]
          · rw [upd_ne fp.symm, upd_same]; rfl
          · rw [wDs_append]; simp only [wDs, wD]; omega
          · rw [depthAll_append]; simp only [PyData.depthAll, PyData.depth]; omega
          · exact ⟨by simp; omega, fun z => by simp at z, fun _ _ => by simp⟩
          · exact ((d4.upd npd npd0).upd fd fd0).mono (by omega)
      · refine ⟨_, rfl, _, _, _, _, rfl, rfl, SqL.of hp4, atI_nat (j := 0) rfl, _, _, rfl, rfl, _, rfl, ?_⟩
        refine ite2 (fun k4 => absurd k4 k2) (fun k4 => ?_)
        exact ⟨xs, ds, a', _, _, _, _, _, rfl, t4, hf4, hds4, hln, hok, hp4, a2, a3, hw, hdp, ⟨by omega, hl0, fun _ ha => by
          have : ¬ 0 < a' := by simpa using k2
          omega⟩, d4.mono (by omega)⟩
    · have d4 := d3
      have t4 := t3
      have hf4 := hf3
      have hds4 := hds3
      have hp4 := hp3
      clear d3 t3 hf3 hds3 hp3
      revert d4 t4 hf4 hds4 hp4
      generalize H3 = H4
      intro d4 t4 hf4 hds4 hp4
      refine ⟨_, rfl, _, _, _, _, rfl, rfl, SqL.of hp4, atI_nat (j := 0) rfl, _, _, rfl, rfl, _, rfl, ?_⟩
      refine ite2 (fun k2 => ?_) (fun k2 => ?_)
      · have ap : 0 < a' := by simpa using k2
        refine ⟨_, rfl, _, rfl, ?_⟩
        refine ⟨_, rfl, _, _, _, _, rfl, rfl, SqL.of hp4, atI_nat (j := 0) rfl, _, _, rfl, rfl, _, rfl, ?_⟩
        refine ite2 (fun k4 => ?_) (fun k4 => absurd k2 k4)
        refine ⟨_, rfl, _, _, _, _, rfl, rfl, SqL.of hp4, atI_nat (j := 0) rfl, _, _, rfl, rfl, _, rfl, _, _, _, 0, rfl, rfl, hp4, rfl, ?_⟩
        have w4 : upd H4 pl (.lst ([V.int a', V.int B].set 0 (.int (a' - 1)))) f = some (.lst xs) := by rw [upd_ne fp]; exact hf4
        refine ⟨_, rfl, .inl ⟨rfl, _, SqL.of w4⟩, _, rfl, _, _, _, rfl, rfl, w4, ?_, ?_⟩
        · rw [hds.length]; exact Nat.lt_of_le_of_lt (show _ ≤ 100 by omega) (by decide)
        have u1 : Same (Hid [d, d0, pl] H4) (Hid [d, d0, pl] (upd H4 pl (.lst ([V.int a', V.int B].set 0 (.int (a' - 1)))))) := hid_upd (Same.refl _) (by simp) _
        have sok := okS hname
        refine ⟨xs ++ [.str y], ds ++ [.str y], a' - 1, _, _, _, _, _, rfl, hid_new (t4.trans u1) (hid_none hf) _, upd_same, ?_, ?_, ?_, ?_, by omega, by omega, ?_, ?_, ?_, ?_⟩
        · exact ((hds4.mono (Same.hid (new_step hS u1))).mono (newf_upd _)).append (.cons (.str y) .nil)
        · rw [lineL_append, hln]; simp [lineL, lineP, hname]
        · rw [oksD_append, hok]; simp [oksD, sok]
        · rw [upd_ne fp.symm, upd_same]; rfl
        · rw [wDs_append]; simp only [wDs, wD]; omega
        · rw [depthAll_append]; simp only [PyData.depthAll, PyData.depth]; omega
        · exact ⟨by simp; omega, fun z => by simp at z, fun _ _ => by simp⟩
        · exact ((d4.upd npd npd0).upd fd fd0).mono (by omega)
      · refine ⟨_, rfl, _, _, _, _, rfl, rfl, SqL.of hp4, atI_nat (j := 0) rfl, _, _, rfl, rfl, _, rfl, ?_⟩
        refine ite2 (fun k4 => absurd k4 k2) (fun k4 => ?_)
        exact ⟨xs, ds, a', _, _, _, _, _, rfl, t4, hf4, hds4, hln, hok, hp4, a2, a3, hw, hdp, ⟨by omega, hl0, fun _ ha => by
          have : ¬ 0 < a' := by simpa using k2
          omega⟩, d4.mono (by omega)⟩
  · rintro σ H2 ⟨xs, ds, a', s5, s6, s7, s8, s9, rfl, t2, hf2, hds, hln, hok, hp2, a2, a3, hw, hdp, ⟨hlen, hl0, hl1⟩, hD2⟩
    have cc := cost_ok l
    have ci : (1 + r).toNat * cost l ≤ 5 * cost l := Nat.mul_le_mul_right _ (by omega)
    refine ⟨_, rfl, q f H2 ds a' t2 (hD2.mono (by omega)) hp2 a2 a3 ⟨xs, by rw [new_at hf]; exact hf2, hds⟩ hln hok hw hdp (by omega) (fun ha => hl1 (by omega) ha)⟩
end
end K03

set_option Elab.async false
set_option linter.all false
set_option maxRecDepth 100000
set_option maxHeartbeats 4000000
namespace MC
open PySem PySem.Spec L2
mutual
/-- rows in lists alone -/
def undR : PyData → PyData
  | .list xs => .list (undPs xs)
  | .tuple xs => .list (undPs xs)
  | d => d
def undP : PyData → PyData
  | .tuple [r, t] => .tuple [undR r, t]
  | d => d
def undPs : List PyData → List PyData
  | [] => []
  | x :: xs => undP x :: undPs xs
end
theorem undPs_append (xs ys : List PyData) : undPs (xs ++ ys) = undPs xs ++ undPs ys := by
  induction xs with
  | nil => rfl
  | cons x xs ih => simp only [List.cons_append, undPs, ih]
theorem undPs_len (xs : List PyData) : (undPs xs).length = xs.length := by
  induction xs with
  | nil => rfl
  | cons x xs ih => simp only [List.length_cons, undPs, ih]
mutual
theorem undR_facts : ∀ d : PyData, okD (undR d) = okD d ∧ wD (undR d) = wD d ∧ (undR d).depth = d.depth
  | .none => ⟨rfl, rfl, rfl⟩
  | .bool _ => ⟨rfl, rfl, rfl⟩
  | .int _ => ⟨rfl, rfl, rfl⟩
  | .str _ => ⟨rfl, rfl, rfl⟩
  | .dict _ => ⟨rfl, rfl, rfl⟩
  | .list xs => by
    obtain ⟨h1, h2, h3⟩ := undPs_facts xs
    refine ⟨?_, ?_, ?_⟩
    · simp only [undR, okD, h1]
    · simp only [undR, wD, h2]
    · simp only [undR, PyData.depth, h3]
  | .tuple xs => by
    obtain ⟨h1, h2, h3⟩ := undPs_facts xs
    refine ⟨?_, ?_, ?_⟩
    · simp only [undR, okD, h1]
    · simp only [undR, wD, h2]
    · simp only [undR, PyData.depth, h3]
theorem undP_facts : ∀ d : PyData, okD (undP d) = okD d ∧ wD (undP d) = wD d ∧ (undP d).depth = d.depth
  | .none => ⟨rfl, rfl, rfl⟩
  | .bool _ => ⟨rfl, rfl, rfl⟩
  | .int _ => ⟨rfl, rfl, rfl⟩
  | .str _ => ⟨rfl, rfl, rfl⟩
  | .dict _ => ⟨rfl, rfl, rfl⟩
  | .list xs => ⟨rfl, rfl, rfl⟩
  | .tuple [] => ⟨rfl, rfl, rfl⟩
  | .tuple [_] => ⟨rfl, rfl, rfl⟩
  | .tuple [r, t] => by
    obtain ⟨h1, h2, h3⟩ := undR_facts r
    refine ⟨?_, ?_, ?_⟩
    · simp only [undP, okD, oksD, h1]
    · simp only [undP, wD, wDs, h2]
    · simp only [undP, PyData.depth, PyData.depthAll, h3]
  | .tuple (_ :: _ :: _ :: _) => ⟨rfl, rfl, rfl⟩
theorem undPs_facts : ∀ xs : List PyData, oksD (undPs xs) = oksD xs ∧ wDs (undPs xs) = wDs xs ∧ PyData.depthAll (undPs xs) = PyData.depthAll xs
  | [] => ⟨rfl, rfl, rfl⟩
  | x :: xs => by
    obtain ⟨h1, h2, h3⟩ := undP_facts x
    obtain ⟨k1, k2, k3⟩ := undPs_facts xs
    refine ⟨?_, ?_, ?_⟩
    · simp only [undPs, oksD, h1, k1]
    · simp only [undPs, wDs, h2, k2]
    · simp only [undPs, PyData.depthAll, h3, k3]
end
theorem lineL_get {B : Int} {xs : List PyData} (h : lineL B xs = true) {i : Nat} {d : PyData} (e : xs[i]? = some d) : lineP B d = true := by
  induction xs generalizing i with
  | nil => simp at e
  | cons x xs ih =>
    simp only [lineL, Bool.and_eq_true] at h
    cases i with
    | zero => simp at e; subst e; exact h.1
    | succ i => exact ih h.2 (by simpa using e)
/-- the two kinds of a part -/
theorem lineP_kinds {B : Int} {d : PyData} (h : lineP B d = true) : (∃ z, d = .str z ∧ isThingS z = true) ∨ ∃ ys t, d = .tuple [.list ys, .int t] ∧ 1 ≤ t ∧ t ≤ B ∧ ys ≠ [] ∧ lineL B ys = true := by
  unfold lineP at h
  split at h
  · exact .inl ⟨_, rfl, h⟩
  · rename_i ys t
    simp only [Bool.and_eq_true, decide_eq_true_eq] at h
    refine .inr ⟨ys, t, rfl, h.1.1.1, h.1.1.2, ?_, h.2⟩
    rintro rfl
    simp at h
  · cases h
end MC
namespace K03
open PySem PySem.Spec L2 MC
open PyProof.Rows hiding St
def spDress (n : Nat) : Sp := fun vs H Q _ => ∃ (d d0 a : Addr) (N : Nat) (B : Int) (xs : List V) (ds : List PyData), vs = [.ref d, .ref a] ∧ Dice H d d0 N ∧ N + wDs ds + 1 ≤ 10 ^ 12 ∧ a ≠ d ∧ a ≠ d0 ∧ H a = some (.lst xs) ∧ DDs (Hid [d, d0] H) xs ds ∧
  lineL B ds = true ∧ PyData.depthAll ds + 2 ≤ 2 * n ∧ oksD ds = true ∧ wDs ds ≤ 2000 ∧
  ∀ p H' dd, Chg d d0 H H' → Dice H' d d0 (N + wDs ds + 1) → DD (New H H') (.ref p) dd → dSeq dd = true → undR dd = .list ds → Q (.ref p) H'
section
variable {P : Program} {w : World} {K : PySem.W.Frag} {mg : Str → Option Value} {base : Heap}
variable {f_l_roll f_l_dressed : Addr} {fd_l_roll fd_l_dressed : FuncData}
theorem dress_none : FnOk P w K mg base CX0 1 f_l_dressed fd_l_dressed ["_law_dice_here", "_law_line"] (spDress 0) := by
  have no : ∀ vs H Q E, ¬ spDress 0 vs H Q E := fun vs H Q E h => by
    obtain ⟨d, d0, a, N, B, xs, ds, _, _, _, _, _, _, _, _, h0, _⟩ := h
    omega
  exact ⟨fun vs H Q E h => absurd h (no vs H Q E), fun A outer s H args us vs Q E _ _ _ _ h => absurd h (no vs H Q E)⟩
theorem dress_step {n : Nat} (T : Txt K mg) (G_l_roll : FnOk P w K mg base CX0 1 f_l_roll fd_l_roll ["_law_dice_here", "_law_many_here"] spRoll) (O_l_roll : Own K mg "_law_roll" s_l_roll f_l_roll fd_l_roll ["_law_dice_here", "_law_many_here"]) (O_l_dressed : Own K mg "_law_dressed" s_l_dressed f_l_dressed fd_l_dressed ["_law_dice_here", "_law_line"])
    (G_l_dressed : FnOk P w K mg base CX0 (n + 1) f_l_dressed fd_l_dressed ["_law_dice_here", "_law_line"] (spDress n)) : FnOk P w K mg base CX0 (n + 1 + 1) f_l_dressed fd_l_dressed ["_law_dice_here", "_law_line"] (spDress (n + 1)) := by
  refine O_l_dressed.F.ok sc_l_dressed (fun vs H Q E h => by obtain ⟨d, d0, a, N, B, xs, ds, rfl, _⟩ := h; rfl) (fun cdv A outer s H vs Q E hr h => ?_)
  obtain ⟨d, d0, a, N, B, xs, ds, rfl, hD, hN, nad, nad0, ha, hds, hln, hdp, hok, hw, q⟩ := h
  refine ⟨_, (pss_cons (ps_set (i := 2) sc_l_dressed.nd rfl (Or.inl rfl) (pe_lst pa_nil))
    (pss_cons (ps_for PassesOwn.never rfl (k_list (K := K) rfl (pv 1)) (pg_name (i := 3) sc_l_dressed.nd rfl (Or.inl rfl))
    (pss_one (ps_expr (k_bm (K := K) rfl (pe_bm PySem.F.plainAttrs_list PySem.F.slot_list_append PySem.F.type_list_append mt_append (pv 2) (pa_cons (pe_ifExp (pt_val (pe_callB (k_isi (K := K) rfl) (by rfl) T.n_isinstance (by decide +kernel) (pa_cons (pv 3) (pa_cons (pe_bltn (v := .ty "str") (by rfl) T.n_str (by decide +kernel) rfl) pa_nil)))) (pv 3) (pe_tup (pa_cons (pe_call G_l_dressed (hr.mono (by omega)) rfl O_l_dressed.m O_l_dressed.F.kp O_l_dressed.b .nil pass0 (pa_cons (pv 0) (pa_cons (pe_ix (k_ix_tup (K := K) rfl) (pv 3) pe_int (fun _ _ => rfl)) pa_nil))) (pa_cons (pe_ix (k_ix_tup (K := K) rfl) (pv 3) pe_int (fun _ _ => rfl)) pa_nil)))) pa_nil))))))
    (pss_one (ps_ret (pe_ifExp (pt_cmpR op_eq (pe_call G_l_roll (hr.mono (by omega)) rfl O_l_roll.m O_l_roll.F.kp O_l_roll.b .nil pass0 (pa_cons (pv 0) (pa_cons pe_int pa_nil))) pe_int (nomark _)) (pe_callTy (k_tuple_of (K := K) rfl) (by rfl) T.n_tuple (by decide +kernel) (pa_cons (pv 2) pa_nil)) (pv 2)))))), ?_⟩
  obtain ⟨nd, nd0, ndd⟩ := hD.at
  have hS : ∀ x ∈ [d, d0], H x ≠ none := by
    intro x hx
    simp only [List.mem_cons, List.not_mem_nil, or_false] at hx
    rcases hx with rfl | rfl
    · exact nd
    · exact nd0
  refine ⟨Nat.zero_le _, fun f hf => ?_⟩
  have fd : f ≠ d := fun z => nd (z ▸ hf)
  have fd0 : f ≠ d0 := fun z => nd0 (z ▸ hf)
  have s0 := same_new hf (.lst [])
  refine ⟨_, rfl, a, rfl, ⟨_, SqL.of (s0 _ _ ha)⟩, ?_⟩
  refine for_list (K := K) (a := a) (xs := xs) (fun i σ H' => ∃ (fs : List V) (dd : List PyData) (s3 : Option V), σ = [some (.ref d), some (.ref a), some (.ref f), s3] ∧ Chg d d0 H H' ∧ H' f = some (.lst fs) ∧ DDs (Hid [f] (New H H')) fs dd ∧
    undPs dd = ds.take i ∧ Dice H' d d0 (N + wDs (ds.take i))) ⟨[], [], _, rfl, Chg.of s0, upd_same, .nil, rfl, hD.same s0⟩ (fun i σ H' _ z => ?_) ?_ ?_
  · obtain ⟨fs, dd, s3, _, c, _⟩ := z
    exact SqL.of (c _ _ nad nad0 ha)
  · rintro i x σ H1 hi ⟨fs, dd, s3, rfl, c1, hf1, hdd, und, hD1⟩
    obtain ⟨dp, hdp1, hx⟩ := hds.get hi
    have tk : ds.take (i + 1) = ds.take i ++ [dp] := take_more hdp1
    have wtk : wDs (ds.take (i + 1)) = wDs (ds.take i) + wD dp := by rw [tk, wDs_append]; simp [wDs]
    have wle : wDs (ds.take (i + 1)) ≤ wDs ds := by
      have e := wDs_append (ds.take (i + 1)) (ds.drop (i + 1))
      rw [List.take_append_drop] at e
      omega
    have wpos := wD_pos dp
    have flen : fs.length ≤ 2000 := by
      have h1 := hdd.length
      have h2 := undPs_len dd
      rw [und, List.length_take] at h2
      have h3 := len_wDs ds
      omega
    have hx1 := hx.mono (c1.hid (S := [d, d0]) (by simp) (by simp))
    have dle := depth_le hdp1
    refine ⟨_, rfl, .inl ⟨rfl, _, SqL.of hf1⟩, _, rfl, _, _, _, _, _, rfl, .ty _, ty_of (hx1.mono hid_same), kI_str, _, rfl, ?_⟩
    rcases lineP_kinds (lineL_get hln hdp1) with ⟨z, rfl, hz⟩ | ⟨ys, t, rfl, t1, t2, hne, hl2⟩
    · -- a thing
      cases hx with
      | str z =>
      refine ite2 (fun _ => ?_) (fun c => absurd rfl c)
      refine ⟨_, rfl, _, _, _, rfl, rfl, hf1, Nat.lt_of_le_of_lt flen (by decide), ?_⟩
      refine ⟨fs ++ [.str z], dd ++ [.str z], _, rfl, c1.updn hf _, upd_same, (hdd.mono (newf_upd _)).append (.cons (.str z) .nil), ?_, (hD1.upd fd fd0).mono (by omega)⟩
      rw [undPs_append, und, tk]; rfl
    · -- an again
      refine ite2 (fun c => (nomatch c)) (fun _ => ?_)
      cases hx1 with
      | @tup pt vs2 _ hpt hvs =>
      cases hvs with
      | @cons v1 vr _ _ hv1 hr1 =>
      cases hr1 with
      | cons hv2 hnil =>
      cases hnil
      cases hv2
      cases hv1 with
      | @lst ai xi _ hai hxi =>
      obtain ⟨ptS, hpt1⟩ := hid_some hpt
      obtain ⟨aiS, hai1⟩ := hid_some hai
      simp only [List.mem_cons, List.not_mem_nil, or_false, not_or] at aiS ptS
      have oky : oksD ys = true := by
        have := oksD_get hok hdp1
        simp only [okD, oksD, Bool.and_eq_true] at this; exact this.1
      have wy : wD (PyData.tuple [.list ys, .int t]) = wDs ys + 3 := by simp only [wD, wDs]; omega
      have dy : (PyData.tuple [.list ys, .int t]).depth = PyData.depthAll ys + 2 := by simp only [PyData.depth, PyData.depthAll]; omega
      refine ⟨_, rfl, _, rfl, _, _, _, _, rfl, rfl, SqT.of hpt1, atI_nat (j := 0) rfl, d, d0, ai, _, B, xi, ys, rfl, hD1, by omega, aiS.1, aiS.2, hai1, hxi, hl2, by omega, oky, by omega,
        fun p H2 dr c2 hD2 hdr ksq hun => ?_⟩
      have c12 := c1.trans c2
      have hf2 := c2 _ _ fd fd0 hf1
      refine ⟨_, rfl, _, _, _, _, rfl, rfl, SqT.of (c2 _ _ ptS.1 ptS.2 hpt1), atI_nat (j := 1) rfl, (by show 2 ≤ sizeLine; decide), fun tp htp => ?_⟩
      have st := same_new htp (.tup [.ref p, .int t])
      refine ⟨_, _, _, rfl, rfl, st _ _ hf2, Nat.lt_of_le_of_lt flen (by decide), ?_⟩
      have dm : ∀ x, H1 x = none → H x = none := dom_of (c1.hid (S := [d, d0]) (by simp) (by simp)) (fun x hx => by
        simp only [List.mem_cons, List.not_mem_nil, or_false] at hx
        rcases hx with rfl | rfl
        · exact hD1.at.1
        · exact hD1.at.2.1)
      have dm2 : ∀ x, H2 x = none → H x = none := dom_of (c12.hid (S := [d, d0]) (by simp) (by simp)) (fun x hx => by
        simp only [List.mem_cons, List.not_mem_nil, or_false] at hx
        rcases hx with rfl | rfl
        · exact hD2.at.1
        · exact hD2.at.2.1)
      have ntf : tp ≠ f := fun z => by rw [z, hf2] at htp; cases htp
      have nb : ∀ o, Hid [f] (New H (upd (upd H2 tp (.tup [.ref p, .int t])) f o)) tp = some (.tup [.ref p, .int t]) := fun o => by
        rw [hid_out (by simpa using ntf), new_at (dm2 _ htp), upd_ne ntf, upd_same]
      have mv : ∀ o, Same (Hid [f] (New H H2)) (Hid [f] (New H (upd (upd H2 tp (.tup [.ref p, .int t])) f o))) := fun o => (Same.hid (new_of st)).trans (newf_upd _)
      have inn := (hdr.mono (newf_dom dm (by rw [hf1]; exact fun z => nomatch z))).mono (mv (.lst (fs ++ [.ref tp])))
      refine ⟨fs ++ [.ref tp], dd ++ [.tuple [dr, .int t]], _, rfl, (c12.same st).updn hf _, upd_same, ?_, ?_, ((hD2.same st).upd fd fd0).mono (by omega)⟩
      · exact ((hdd.mono (Same.hid (new_step hS (c2.hid (S := [d, d0]) (by simp) (by simp))))).mono (mv _)).append (.cons (.tup (nb _) (.cons inn (.cons (.int t) .nil))) .nil)
      · rw [undPs_append, und, tk]
        simp only [undPs, undP, hun]
  · rintro σ H1 ⟨fs, dd, s3, rfl, c1, hf1, hdd, und, hD1⟩
    have full : ds.take xs.length = ds := List.take_of_length_le (by rw [hds.length]; exact Nat.le_refl _)
    rw [full] at und hD1
    refine ⟨_, rfl, d, d0, _, 2, rfl, hD1, by omega, by omega, by omega, fun r H2 r0 r1 c2 hD2 => ⟨rfl, _, rfl, ?_⟩⟩
    have c12 := c1.trans c2
    have hf2 := c2 _ _ fd fd0 hf1
    have hdd2 := hdd.mono (Same.hid (new_step hS (c2.hid (S := [d, d0]) (by simp) (by simp))))
    refine ite2 (fun _ => ?_) (fun _ => ?_)
    · refine ⟨_, rfl, f, _, rfl, .inl ⟨SqL.of hf2, fun tp htp => ?_⟩⟩
      have st := same_new htp (.tup fs)
      have dm2 : ∀ x, H2 x = none → H x = none := dom_of (c12.hid (S := [d, d0]) (by simp) (by simp)) (fun x hx => by
        simp only [List.mem_cons, List.not_mem_nil, or_false] at hx
        rcases hx with rfl | rfl
        · exact hD2.at.1
        · exact hD2.at.2.1)
      exact q tp _ (.tuple dd) (c12.same st) (hD2.same st) (.tup (by rw [new_at (dm2 _ htp)]; exact upd_same) ((hdd2.mono hid_same).mono (new_of st))) rfl (by simp only [undR, und])
    · exact ⟨_, rfl, q f _ (.list dd) c12 hD2 (.lst (by rw [new_at hf]; exact hf2) (hdd2.mono hid_same)) rfl (by simp only [undR, und])⟩
end
end K03

set_option Elab.async false
set_option linter.all false
set_option maxRecDepth 100000
set_option maxHeartbeats 4000000
namespace MC
open PySem PySem.Spec L2
/-! rows in lists, dressed rows -/
theorem lineP_cases {B : Int} {d : PyData} (h : lineP B d = true) : (∃ z, d = .str z ∧ isThingS z = true) ∨ ∃ ys t, d = .tuple [.list ys, .int t] ∧ 1 ≤ t ∧ t ≤ B ∧ ys ≠ [] ∧ lineL B ys = true := by
  unfold lineP at h
  split at h
  · exact .inl ⟨_, rfl, h⟩
  · rename_i ys t
    simp only [Bool.and_eq_true, decide_eq_true_eq, Bool.not_eq_true', List.isEmpty_eq_false_iff] at h
    exact .inr ⟨ys, t, rfl, h.1.1.1, h.1.1.2, h.1.2, h.2⟩
  · cases h
theorem lineL_parts {B : Int} (hB : B ≤ 10 ^ 30) : ∀ (n : Nat) (ds : List PyData), wDs ds ≤ n → lineL B ds = true → partsD ds = true := by
  intro n
  induction n with
  | zero =>
    intro ds hn h
    cases ds with
    | nil => rfl
    | cons x xs => have := wD_pos x; simp only [wDs] at hn; omega
  | succ n ih =>
    intro ds
    induction ds with
    | nil => intro _ _; rfl
    | cons x xs ihx =>
      intro hn h
      simp only [lineL, Bool.and_eq_true] at h
      have px := wD_pos x
      simp only [wDs] at hn
      simp only [partsD, Bool.and_eq_true]
      refine ⟨?_, ihx (by omega) h.2⟩
      rcases lineP_cases h.1 with ⟨z, rfl, hz⟩ | ⟨ys, t, rfl, t1, t2, hne, hl⟩
      · exact hz
      · have hp := ih ys (by simp only [wD, wDs] at hn; omega) hl
        have h1 : timesOk t = true := by simp [timesOk, t1]; exact Int.le_trans t2 hB
        have h2 : dNil (.list ys) = false := by cases ys with
          | nil => exact absurd rfl hne
          | cons _ _ => rfl
        show (timesOk t && !dNil (.list ys) && rowD (.list ys)) = true
        rw [h1, h2, show rowD (.list ys) = partsD ys from rfl, hp]
        rfl
theorem many_split : ∀ es : List PyData, manyPs es = (es.length : Int) - ((es.filter nStr).length : Nat) + manyPs (es.filter nStr)
  | [] => rfl
  | d :: es => by
    have ih := many_split es
    rw [List.filter_cons]
    by_cases s : dStr d = true
    · have e : nStr d = false := by simp [nStr, s]
      have e1 : manyP d = 1 := by cases d <;> first | rfl | cases s
      simp only [e, Bool.false_eq_true, if_false, manyPs, List.length_cons, e1]
      omega
    · have e : nStr d = true := by simpa [nStr] using s
      simp only [e, if_true, manyPs, List.length_cons]
      omega
end MC
namespace K03
open PySem PySem.Spec L2 MC
open PyProof.Rows hiding St
def spCnt (m : Nat) (ok : PyData → Bool) (g : PyData → Int) : Sp := fun vs H Q _ => ∃ x d, vs = [x] ∧ DD H x d ∧ ok d = true ∧ d.depth < m ∧ d.depth ≤ 60 ∧ wD d ≤ 2000 ∧ ∀ H', Same H H' → Q (.int (g d)) H'
theorem spCnt_len {m : Nat} {ok : PyData → Bool} {g : PyData → Int} : ∀ vs H Q E, spCnt m ok g vs H Q E → vs.length = 1 := fun vs H Q E h => by
  obtain ⟨x, d, rfl, _⟩ := h
  rfl
theorem spCnt_no {ok : PyData → Bool} {g : PyData → Int} : ∀ vs H Q E, ¬ spCnt 0 ok g vs H Q E := fun vs H Q E h => by
  obtain ⟨x, d, _, _, _, h0, _⟩ := h
  exact absurd h0 (Nat.not_lt_zero _)
theorem bits30 {t : Int} (h1 : 1 ≤ t) (h2 : t ≤ 10 ^ 30) : t.natAbs < 2 ^ 200 := Nat.lt_of_le_of_lt (show t.natAbs ≤ 10 ^ 30 by omega) (by decide)
section
variable {P : Program} {w : World} {K : PySem.W.Frag} {mg : Str → Option Value} {base : Heap}
variable {f_is_whole f_is_row f_count_asks f_part_asks f_check_row f_check_place : Addr} {fd_is_whole fd_is_row fd_count_asks fd_part_asks fd_check_row fd_check_place : FuncData}
theorem part_asks_step {m : Nat} (T : Txt K mg) (O_count_asks : Own K mg "count_asks" s_count_asks f_count_asks fd_count_asks ["row"]) (O_part_asks : Own K mg "_part_asks" s_part_asks f_part_asks fd_part_asks ["part"]) (G_count_asks : FnOk P w K mg base CX0 (m + 1) f_count_asks fd_count_asks ["row"] (spCnt m rowD manyR)) :
    FnOk P w K mg base CX0 (m + 1 + 1) f_part_asks fd_part_asks ["part"] (spCnt (m + 1) partD manyP) := by
  refine O_part_asks.F.ok sc_part_asks spCnt_len (fun cdv A outer s H vs Q E hr h => ?_)
  obtain ⟨x, d, rfl, hd, hok, hdm, hdp, hwd, q⟩ := h
  refine ⟨_, (pss_cons (ps_if (pt_val (pe_callB (k_isi (K := K) rfl) (by rfl) T.n_isinstance (by decide +kernel) (pa_cons (pv 0) (pa_cons (pe_bltn (v := .ty "str") (by rfl) T.n_str (by decide +kernel) rfl) pa_nil))))
    (pss_one (ps_ret pe_int))
    pss_nil)
    (pss_cons (ps_asg (pv 0) (pg_tup rfl (pgs_cons (pg_name (i := 1) sc_part_asks.nd rfl (Or.inl rfl)) (pgs_cons (pg_name (i := 2) sc_part_asks.nd rfl (Or.inl rfl)) pgs_nil))))
    (pss_one (ps_ret (pe_op op_mulW (pe_call G_count_asks (hr.mono (by omega)) rfl O_count_asks.m O_count_asks.F.kp O_count_asks.b .nil pass0 (pa_cons (pv 1) pa_nil)) (pv 2)))))), ?_⟩
  refine ⟨_, rfl, _, _, _, _, _, rfl, .ty _, ty_of hd, kI_str, _, rfl, ?_⟩
  refine ite2 (fun c => ?_) (fun c => ?_)
  · have q := q H (Same.refl H)
    have e : manyP d = 1 := by cases d <;> first | rfl | cases c
    rw [e] at q
    exact q
  rcases partD_cases hok with ⟨z, rfl, _⟩ | ⟨r, t, rfl, t1, t2, hn, hrow⟩
  · exact absurd rfl c
  cases hd with
  | @tup a xs _ ha hs =>
    match xs, hs with
    | [v1, v2], .cons h1 (.cons h2 .nil) =>
      cases h2
      have dp : r.depth < m ∧ r.depth ≤ 60 := by simp only [PyData.depth, PyData.depthAll] at hdm hdp; omega
      have wp : wD r ≤ 2000 := by simp only [wD, wDs] at hwd; omega
      refine ⟨_, rfl, a, _, rfl, SqT.of ha, rfl, _, _, rfl, _, _, rfl, rfl, ?_⟩
      refine ⟨_, rfl, v1, r, rfl, h1, hrow, dp.1, dp.2, wp, fun H' s' => ⟨_, rfl, _, _, rfl, rfl, wide_mul (many_bits hrow wp dp.2) (bits30 t1 t2) (by decide) (by decide) (by decide), ?_⟩⟩
      exact q H' s'
theorem count_asks_step {m : Nat} (T : Txt K mg) (O_count_asks : Own K mg "count_asks" s_count_asks f_count_asks fd_count_asks ["row"]) (G_count_asks : FnOk P w K mg base CX0 (m + 1) f_count_asks fd_count_asks ["row"] (spCnt m rowD manyR)) :
    FnOk P w K mg base CX0 (m + 1 + 1) f_count_asks fd_count_asks ["row"] (spCnt (m + 1) rowD manyR) := by
  refine O_count_asks.F.ok sc_count_asks spCnt_len (fun cdv A outer s H vs Q E hr h => ?_)
  obtain ⟨x, d, rfl, hd, hok, hdm, hdp, hwd, q⟩ := h
  refine ⟨_, (pss_cons (ps_setLc (i := 1) (own := [("part", 2)]) rfl sc_count_asks.nd rfl rfl (sw_true rfl rfl rfl (by decide +kernel)) (k_seq (K := K) rfl (pv 0)) (blkOk_by (own := [("part", 2)]) (N := ["row", "agains", "part", "inner", "times"]) (sc := defScope s_count_asks) (by decide +kernel)) (fun _ _ _ _ _ => (pg_name (i := 2) sc_count_asks.nd rfl (Or.inl rfl))) (fun _ _ _ _ _ => pts_one (pt_not (pt_val (pe_callB (k_isi (K := K) rfl) (by rfl) T.n_isinstance (by decide +kernel) (pa_cons (pv 2) (pa_cons (pe_bltn (v := .ty "str") (by rfl) T.n_str (by decide +kernel) rfl) pa_nil)))))) (fun _ _ _ _ _ => (pv 2)))
    (pss_one (ps_ret (pe_op op_add (pe_op op_sub (pe_callB (k_len_seq (K := K) rfl) (by rfl) T.n_len (by decide +kernel) (pa_cons (pv 0) pa_nil)) (pe_callB (k_len_seq (K := K) rfl) (by rfl) T.n_len (by decide +kernel) (pa_cons (pv 1) pa_nil))) (pe_callB (k_sum (K := K) rfl rfl) (by rfl) T.n_sum (by decide +kernel) (pa_cons (pe_lc (own := [("inner", 3), ("times", 4)]) rfl sc_count_asks.nd (k_list (K := K) rfl (pv 1)) (blkOk_by (own := [("inner", 3), ("times", 4)]) (N := ["row", "agains", "part", "inner", "times"]) (sc := defScope s_count_asks) (by decide +kernel)) (fun _ _ _ _ _ => (k_tup (K := K) (n := 2) rfl rfl (pgs_cons (pg_name (i := 3) sc_count_asks.nd rfl (Or.inl rfl)) (pgs_cons (pg_name (i := 4) sc_count_asks.nd rfl (Or.inl rfl)) pgs_nil)))) (fun _ _ _ _ _ => pts_nil) (fun _ _ _ _ _ => (pe_op op_mulW (pe_call G_count_asks (hr.mono (by omega)) rfl O_count_asks.m O_count_asks.F.kp O_count_asks.b .nil pass0 (pa_cons (pv 3) pa_nil)) (pv 4)))) pa_nil)))))), ?_⟩
  have k0 := rowD_is hok
  rw [rowD_elems k0] at hok
  obtain ⟨a, xs, rfl, hx, hxs⟩ := hd.seq k0
  have we := wD_elems d
  have de := depth_elems k0
  have ln := hxs.length
  have lw := len_wDs (elemsD d)
  refine ⟨_, rfl, lc_seqD (K := K) (xs := xs) hx (fun A i H' => Same H H' ∧ ∃ acc, H' A = some (.lst acc) ∧ DDs H acc (((elemsD d).take i).filter nStr)) (fun A hA => ⟨same_new hA _, [], upd_same, .nil⟩) ?_ ?_ ?_⟩
  · rintro A i H' hA _ ⟨s3, _⟩
    rcases hx with h | h
    · exact (s3 _ _ h).trans h.symm
    · exact (s3 _ _ h).trans h.symm
  · rintro A i xv H' hA e ⟨s3, acc, hA', hacc⟩
    obtain ⟨dv, hdv, hdd⟩ := hxs.get e
    have tk : (elemsD d).take (i + 1) = (elemsD d).take i ++ [dv] := take_more hdv
    refine ⟨rfl, _, rfl, _, _, _, _, _, rfl, .ty _, ty_of (hdd.mono s3), kI_str, _, rfl, ?_⟩
    have al : acc.length < sizeLine := by
      rw [hacc.length]
      have h1 := List.length_filter_le nStr ((elemsD d).take i)
      rw [List.length_take] at h1
      exact Nat.lt_of_le_of_lt (show _ ≤ 2000 by omega) (by decide)
    refine ite2 (fun c3 => ?_) (fun c3 => ?_)
    · refine ⟨_, rfl, acc, hA', al, same_mut s3 hA _, _, upd_same, ?_⟩
      rw [tk, List.filter_append]
      have : nStr dv = true := c3
      simp only [List.filter_cons, this, if_true, List.filter_nil]
      exact hacc.append (.cons hdd .nil)
    · refine ⟨s3, acc, hA', ?_⟩
      rw [tk, List.filter_append]
      have : nStr dv = false := by simpa [nStr] using c3
      simp only [List.filter_cons, this, Bool.false_eq_true, if_false, List.filter_nil, List.append_nil]
      exact hacc
  rintro A H2 hA ⟨s3, ag, hA2, hag⟩
  have full : (elemsD d).take xs.length = elemsD d := List.take_of_length_le (by rw [ln]; exact Nat.le_refl _)
  rw [full] at hag
  have lag := hag.length
  have lf := List.length_filter_le nStr (elemsD d)
  refine ⟨_, rfl, _, _, rfl, (SqX.mono s3 hx).lt, _, rfl, _, _, rfl, .inl (SqL.of hA2), _, _, rfl, rfl, ?_⟩
  refine ⟨_, rfl, A, rfl, ⟨_, SqL.of hA2⟩, fun D hD => lc_list (K := K) (a := A) (xs := ag) (fun i H' => Same H2 H' ∧ ∃ ns : List Int, H' D = some (.lst (ns.map V.int)) ∧ ns.length ≤ i ∧ ns.sum = manyPs (((elemsD d).filter nStr).take i)) ⟨same_new hD _, [], upd_same, Nat.le_refl _, rfl⟩ (fun i H' _ p => SqL.of (p.1 _ _ hA2)) ?_ ?_⟩
  · rintro i xv H3 hi ⟨s4, ns, hns, lns, ens⟩
    obtain ⟨dv, hdv, hdd⟩ := hag.get hi
    have il := (List.getElem?_eq_some_iff.mp hi).1
    have mem := List.mem_filter.mp (List.mem_of_getElem? hdv)
    obtain ⟨j, hj⟩ := List.getElem?_of_mem mem.1
    have wv := wD_le hj
    have dv1 := depth_le hj
    have okv := partsD_get hok hj
    rcases partD_cases okv with ⟨z, rfl, _⟩ | ⟨r, t, rfl, t1, t2, hn, hrow⟩
    · exact absurd mem.2 (by simp [nStr, dStr])
    cases hdd with
    | @tup b ys _ hb hs =>
    match ys, hs with
    | [v1, v2], .cons h1 (.cons h2 .nil) =>
      cases h2
      have dp : r.depth < m ∧ r.depth ≤ 60 := by simp only [PyData.depth, PyData.depthAll] at dv1; omega
      have wp : wD r ≤ 2000 := by simp only [wD, wDs] at wv; omega
      have hb3 := (s3.trans s4) _ _ hb
      refine ⟨b, _, rfl, SqT.of hb3, rfl, _, _, rfl, _, _, rfl, rfl, rfl, ?_⟩
      refine ⟨_, rfl, v1, r, rfl, h1.mono (s3.trans s4), hrow, dp.1, dp.2, wp, fun H4 s5 => ⟨_, rfl, _, _, rfl, rfl, wide_mul (many_bits hrow wp dp.2) (bits30 t1 t2) (by decide) (by decide) (by decide), ?_⟩⟩
      refine ⟨ns.map V.int, s5 _ _ hns, ?_, same_mut (s4.trans s5) hD _, ns ++ [manyP (.tuple [r, .int t])], ?_, ?_, ?_⟩
      · rw [List.length_map]; exact Nat.lt_of_le_of_lt (show ns.length ≤ 2000 by omega) (by decide)
      · rw [upd_same, List.map_append]; rfl
      · rw [List.length_append]; exact Nat.add_le_add_right lns 1
      · rw [take_more hdv, manyPs_append, List.sum_append, ens]; simp [manyPs]
  · rintro H3 ⟨s4, ns, hns, lns, ens⟩
    have fullF : ((elemsD d).filter nStr).take ag.length = (elemsD d).filter nStr := List.take_of_length_le (by rw [hag.length]; exact Nat.le_refl _)
    rw [fullF] at ens
    refine ⟨D, ns, rfl, SqL.of hns, _, _, rfl, rfl, ?_⟩
    have q := q H3 (s3.trans s4)
    have e : manyR d = (xs.length : Int) - ag.length + ns.sum := by
      rw [manyR_elems k0, ens, lag, ln]
      exact many_split (elemsD d)
    rw [e] at q
    exact q
theorem count_all (T : Txt K mg) (O_count_asks : Own K mg "count_asks" s_count_asks f_count_asks fd_count_asks ["row"]) (O_part_asks : Own K mg "_part_asks" s_part_asks f_part_asks fd_part_asks ["part"]) : ∀ m, FnOk P w K mg base CX0 (m + 1) f_count_asks fd_count_asks ["row"] (spCnt m rowD manyR) ∧ FnOk P w K mg base CX0 (m + 1) f_part_asks fd_part_asks ["part"] (spCnt m partD manyP)
  | 0 => ⟨⟨fun vs H Q E h => absurd h (spCnt_no vs H Q E), fun A outer s H args us vs Q E _ _ _ _ h => absurd h (spCnt_no vs H Q E)⟩, ⟨fun vs H Q E h => absurd h (spCnt_no vs H Q E), fun A outer s H args us vs Q E _ _ _ _ h => absurd h (spCnt_no vs H Q E)⟩⟩
  | m + 1 => ⟨count_asks_step T O_count_asks (count_all T O_count_asks O_part_asks m).1, part_asks_step T O_count_asks O_part_asks (count_all T O_count_asks O_part_asks m).1⟩
/-- a look that refuses nothing here -/
def spChk : Sp := fun vs H Q _ => ∃ x d, vs = [x] ∧ DD H x d ∧ okD d = true ∧ d.depth ≤ 60 ∧ wD d ≤ 2000 ∧ rowD d = true ∧ ∀ H', Same H H' → Q .non H'
def spPlc : Sp := fun vs H Q _ => ∃ p m : Int, vs = [.int p, .int m] ∧ 0 ≤ p ∧ p < m ∧ ∀ H', Same H H' → Q .non H'
theorem ok_check_row (T : Txt K mg) (O_is_row : Own K mg "is_row" s_is_row f_is_row fd_is_row ["thing"]) (O_check_row : Own K mg "check_row" s_check_row f_check_row fd_check_row ["row"]) (G_is_row : FnOk P w K mg base CX0 3 f_is_row fd_is_row ["thing"] (spD rowD)) : FnOk P w K mg base CX0 4 f_check_row fd_check_row ["row"] spChk := by
  refine O_check_row.F.ok sc_check_row (fun vs H Q E h => by obtain ⟨x, d, rfl, _⟩ := h; rfl) (fun cdv A outer s H vs Q E hr h => ?_)
  obtain ⟨x, d, rfl, hd, hok, hdp, hwd, hrow, q⟩ := h
  refine ⟨_, (pss_one (ps_if (pt_not (pt_val (pe_call G_is_row (hr.mono (by omega)) rfl O_is_row.m O_is_row.F.kp O_is_row.b .nil pass0 (pa_cons (pv 0) pa_nil))))
    pss_never
    pss_nil)), ?_⟩
  refine ⟨_, rfl, x, d, rfl, hd, hok, hdp, hwd, fun H' s' => ⟨_, rfl, ?_⟩⟩
  rw [hrow]
  exact q H' s'
theorem ok_check_place (T : Txt K mg) (O_is_whole : Own K mg "is_whole" s_is_whole f_is_whole fd_is_whole ["value"]) (O_check_place : Own K mg "check_place" s_check_place f_check_place fd_check_place ["place", "many"]) (G_is_whole : FnOk P w K mg base CX0 1 f_is_whole fd_is_whole ["value"] (spD0 wholeD)) : FnOk P w K mg base CX0 2 f_check_place fd_check_place ["place", "many"] spPlc := by
  refine O_check_place.F.ok sc_check_place (fun vs H Q E h => by obtain ⟨p, m, rfl, _⟩ := h; rfl) (fun cdv A outer s H vs Q E hr h => ?_)
  obtain ⟨p, m, rfl, p0, pm, q⟩ := h
  refine ⟨_, (pss_one (ps_if (PW.pt (pw_or (pt_not (pt_val (pe_call G_is_whole (hr.mono (by omega)) rfl O_is_whole.m O_is_whole.F.kp O_is_whole.b .nil pass0 (pa_cons (pv 0) pa_nil)))) (pw_or1 (pt_not (pt_chain op_le op_lt pe_int (pv 0) (pv 1))))))
    pss_never
    pss_nil)), ?_⟩
  refine ⟨_, rfl, .int p, .int p, rfl, .int p, fun H' s' => ⟨_, rfl, ?_⟩⟩
  refine ite2 (fun z => nomatch z) (fun _ => ?_)
  refine ⟨_, rfl, _, _, rfl, rfl, _, rfl, ?_⟩
  refine ite2 (fun c1 => ?_) (fun c1 => absurd (decide_eq_true p0) c1)
  refine ⟨_, rfl, _, _, rfl, rfl, _, rfl, ?_⟩
  refine ite2 (fun c2 => absurd pm (by simpa using c2)) (fun c2 => ?_)
  exact q H' s'
end
end K03

set_option Elab.async false
set_option linter.all false
set_option maxRecDepth 100000
set_option maxHeartbeats 4000000
namespace K03
open PySem PySem.Spec L2 MC
open PyProof.Rows hiding St
def spPw (m : Nat) : Sp := fun vs H Q _ => ∃ (x : V) (d : PyData) (p : Int), vs = [x, .int p] ∧ DD H x d ∧ rowD d = true ∧ d.depth ≤ m ∧ d.depth ≤ 60 ∧ wD d ≤ 2000 ∧ 0 ≤ p ∧ p < manyR d ∧
  ∀ H' a (i : Nat) (rest : Int) part, Same H H' → H' a = some (.tup [.int (i : Nat), .int rest]) → (elemsD d)[i]? = some part → 0 ≤ rest → rest < manyP part → atR d p = atP part rest → Q (.ref a) H'
def spTa (m : Nat) : Sp := fun vs H Q _ => ∃ (x : V) (d : PyData) (p : Int), vs = [x, .int p] ∧ DD H x d ∧ rowD d = true ∧ d.depth < m ∧ d.depth ≤ 12 ∧ wD d ≤ 2000 ∧ 0 ≤ p ∧ p < manyR d ∧ ∀ H', Same H H' → Q (.str (atR d p)) H'
section
variable {P : Program} {w : World} {K : PySem.W.Frag} {mg : Str → Option Value} {base : Heap}
variable {f_part_asks f_count_asks f_part_with f_thing_at f_check_row f_check_place f_asks_in f_ask_at : Addr} {fd_part_asks fd_count_asks fd_part_with fd_thing_at fd_check_row fd_check_place fd_asks_in fd_ask_at : FuncData}
theorem ok_part_with {m : Nat} (T : Txt K mg) (O_part_asks : Own K mg "_part_asks" s_part_asks f_part_asks fd_part_asks ["part"]) (O_part_with : Own K mg "_part_with" s_part_with f_part_with fd_part_with ["row", "place"]) (G_part_asks : FnOk P w K mg base CX0 (m + 1) f_part_asks fd_part_asks ["part"] (spCnt m partD manyP)) :
    FnOk P w K mg base CX0 (m + 1 + 1) f_part_with fd_part_with ["row", "place"] (spPw m) := by
  refine O_part_with.F.ok sc_part_with (fun vs H Q E h => by obtain ⟨x, d, p, rfl, _⟩ := h; rfl) (fun cdv A outer s H vs Q E hr h => ?_)
  obtain ⟨x, d, p, rfl, hd, hrow, hdm, hdp, hwd, p0, pm, q⟩ := h
  refine ⟨_, (pss_cons (ps_for PassesOwn.never rfl (k_enX (K := K) rfl (by rfl) T.n_enumerate (pa_cons (pv 0) pa_nil)) (pg_tup rfl (pgs_cons (pg_name (i := 2) sc_part_with.nd rfl (Or.inl rfl)) (pgs_cons (pg_name (i := 3) sc_part_with.nd rfl (Or.inl rfl)) pgs_nil)))
    (pss_cons (ps_set (i := 4) sc_part_with.nd rfl (Or.inl rfl) (pe_call G_part_asks (hr.mono (by omega)) rfl O_part_asks.m O_part_asks.F.kp O_part_asks.b .nil pass0 (pa_cons (pv 3) pa_nil)))
    (pss_cons (ps_if (pt_cmpR op_lt (pv 1) (pv 4) (nomark _))
    (pss_one (ps_ret (pe_tup (pa_cons (pv 2) (pa_cons (pv 1) pa_nil)))))
    pss_nil)
    (pss_one (ps_aug (i := 1) sc_part_with.nd rfl (Or.inl rfl) (pv 4) ip_sub)))))
    (pss_one (ps_ret (pe_tup (pa_cons (pe_callB (k_len_seq (K := K) rfl) (by rfl) T.n_len (by decide +kernel) (pa_cons (pv 0) pa_nil)) (pa_cons (pv 1) pa_nil)))))), ?_⟩
  have k0 := rowD_is hrow
  rw [rowD_elems k0] at hrow
  obtain ⟨a, xs, rfl, hx, hxs⟩ := hd.seq k0
  have we := wD_elems d
  have de := depth_elems k0
  have ln := hxs.length
  rw [manyR_elems k0] at pm
  refine ⟨_, rfl, for_enX (K := K) (xs := xs) hx (fun i σ H' => ∃ (c : Int) (s2 s3 s4 : Option V), σ = [some (.ref a), some (.int c), s2, s3, s4] ∧ Same H H' ∧ 0 ≤ c ∧ c < manyPs ((elemsD d).drop i) ∧ atR d p = atPs ((elemsD d).drop i) c)
    ⟨p, _, _, _, rfl, Same.refl _, p0, by simpa using pm, by rw [atR_elems k0]; rfl⟩ ?_ ?_ ?_⟩
  · rintro i σ' H' hi ⟨c, s2, s3, s4, _, s1, _⟩
    rcases hx with hx | hx
    · exact (s1 _ _ hx).trans hx.symm
    · exact (s1 _ _ hx).trans hx.symm
  · rintro i xv tp σ H2 hi ⟨c, s2, s3, s4, rfl, s1, c0, cm, ce⟩ htp
    obtain ⟨dv, hdv, hdd⟩ := hxs.get hi
    have wv := wD_le hdv
    have dv1 := depth_le hdv
    have dr : (elemsD d).drop i = dv :: (elemsD d).drop (i + 1) := by
      obtain ⟨il, e⟩ := List.getElem?_eq_some_iff.mp hdv
      rw [← e]; exact List.drop_eq_getElem_cons il
    rw [dr] at cm ce
    simp only [manyPs, atPs] at cm ce
    have st := same_new htp (.tup [.int (i : Nat), xv])
    refine ⟨tp, _, rfl, SqT.of upd_same, rfl, _, _, rfl, _, _, rfl, rfl, ?_⟩
    refine ⟨_, rfl, xv, dv, rfl, (hdd.mono s1).mono st, partsD_get hrow hdv, by omega, by omega, by omega, fun H3 s3 => ?_⟩
    have sa := s1.trans (st.trans s3)
    refine ⟨_, rfl, _, rfl, _, _, rfl, rfl, _, rfl, ?_⟩
    refine ite2 (fun c1 => ?_) (fun c1 => ?_)
    · have lt : c < manyP dv := by simpa using c1
      rw [if_pos lt] at ce
      exact ⟨_, rfl, _, rfl, (by show 2 ≤ sizeLine; decide), fun r hr => q _ r i c dv (sa.trans (same_new hr _)) upd_same hdv c0 lt ce⟩
    · have ge : ¬ c < manyP dv := by simpa using c1
      rw [if_neg ge] at ce
      refine ⟨_, rfl, _, rfl, _, _, rfl, rfl, ?_⟩
      exact ⟨c - manyP dv, _, _, _, rfl, sa, by omega, by omega, ce⟩
  · rintro σ H2 ⟨c, s2, s3, s4, rfl, s1, c0, cm, ce⟩
    rw [List.drop_of_length_le (by rw [ln]; exact Nat.le_refl _)] at cm
    simp only [manyPs] at cm
    omega
theorem ta_none : FnOk P w K mg base CX0 14 f_thing_at fd_thing_at ["row", "place"] (spTa 0) := by
  have no : ∀ vs H Q E, ¬ spTa 0 vs H Q E := fun vs H Q E h => by
    obtain ⟨x, d, p, _, _, _, h0, _⟩ := h
    exact absurd h0 (Nat.not_lt_zero _)
  exact ⟨fun vs H Q E h => absurd h (no vs H Q E), fun A outer s H args us vs Q E _ _ _ _ h => absurd h (no vs H Q E)⟩
theorem ta_step {m : Nat} (T : Txt K mg) (O_count_asks : Own K mg "count_asks" s_count_asks f_count_asks fd_count_asks ["row"]) (O_part_with : Own K mg "_part_with" s_part_with f_part_with fd_part_with ["row", "place"]) (O_thing_at : Own K mg "thing_at" s_thing_at f_thing_at fd_thing_at ["row", "place"]) (G_count_asks : FnOk P w K mg base CX0 14 f_count_asks fd_count_asks ["row"] (spCnt 13 rowD manyR)) (G_part_with : FnOk P w K mg base CX0 14 f_part_with fd_part_with ["row", "place"] (spPw 12))
    (G_thing_at : FnOk P w K mg base CX0 (m + 14) f_thing_at fd_thing_at ["row", "place"] (spTa m)) : FnOk P w K mg base CX0 (m + 14 + 1) f_thing_at fd_thing_at ["row", "place"] (spTa (m + 1)) := by
  refine O_thing_at.F.ok sc_thing_at (fun vs H Q E h => by obtain ⟨x, d, p, rfl, _⟩ := h; rfl) (fun cdv A outer s H vs Q E hr h => ?_)
  obtain ⟨x, d, p, rfl, hd, hrow, hdm, hdp, hwd, p0, pm, q⟩ := h
  refine ⟨_, (pss_cons (ps_asg (pe_call G_part_with (hr.mono (by omega)) rfl O_part_with.m O_part_with.F.kp O_part_with.b .nil pass0 (pa_cons (pv 0) (pa_cons (pv 1) pa_nil))) (pg_tup rfl (pgs_cons (pg_name (i := 2) sc_thing_at.nd rfl (Or.inl rfl)) (pgs_cons (pg_name (i := 3) sc_thing_at.nd rfl (Or.inl rfl)) pgs_nil))))
    (pss_cons (ps_set (i := 4) sc_thing_at.nd rfl (Or.inl rfl) (pe_ix (k_ix_seq (K := K) rfl) (pv 0) (pv 2) (fun _ _ => rfl)))
    (pss_cons (ps_if (pt_val (pe_callB (k_isi (K := K) rfl) (by rfl) T.n_isinstance (by decide +kernel) (pa_cons (pv 4) (pa_cons (pe_bltn (v := .ty "str") (by rfl) T.n_str (by decide +kernel) rfl) pa_nil))))
    (pss_one (ps_ret (pv 4)))
    pss_nil)
    (pss_cons (ps_set (i := 5) sc_thing_at.nd rfl (Or.inl rfl) (pe_ix (k_ix_tup (K := K) rfl) (pv 4) pe_int (fun _ _ => rfl)))
    (pss_one (ps_ret (pe_call G_thing_at (hr.mono (by omega)) rfl O_thing_at.m O_thing_at.F.kp O_thing_at.b .nil pass0 (pa_cons (pv 5) (pa_cons (pe_op op_mod (pv 3) (pe_call G_count_asks (hr.mono (by omega)) rfl O_count_asks.m O_count_asks.F.kp O_count_asks.b .nil pass0 (pa_cons (pv 5) pa_nil))) pa_nil))))))))), ?_⟩
  refine ⟨_, rfl, _, rfl, x, d, p, rfl, hd, hrow, hdp, by omega, hwd, p0, pm, fun H1 a i rest part s1 ha hi r0 r1 re => ?_⟩
  refine ⟨a, _, rfl, SqT.of ha, rfl, _, _, rfl, _, _, rfl, rfl, ?_⟩
  have k0 := rowD_is hrow
  rw [rowD_elems k0] at hrow
  obtain ⟨b, xs, rfl, hx, hxs⟩ := (hd.mono s1).seq k0
  have we := wD_elems d
  have de := depth_elems k0
  have wv := wD_le hi
  have dv := depth_le hi
  have il := (List.getElem?_eq_some_iff.mp hi).1
  have ln := hxs.length
  have hxi := List.getElem?_eq_getElem (l := xs) (i := i) (by omega)
  obtain ⟨part', hp', hpd⟩ := hxs.get hxi
  have ep : part' = part := by rw [hi] at hp'; exact (Option.some.inj hp').symm
  subst ep
  have at' := atI_nat hxi
  have goIx : rIx K (.ref b) (.int (i : Nat)) H1 = fun R => rIxL K (.ref b) (.int (i : Nat)) H1 R ∨ rIxT K (.ref b) (.int (i : Nat)) H1 R ∨ rIxS (.ref b) (.int (i : Nat)) H1 R := rfl
  have rd : ∀ R : VK, R xs[i] H1 → rIx K (.ref b) (.int (i : Nat)) H1 R := fun R h => by
    rcases hx with hx | hx
    · exact .inl ⟨_, _, _, _, rfl, rfl, SqL.of hx, at', h⟩
    · exact .inr (.inl ⟨_, _, _, _, rfl, rfl, SqT.of hx, at', h⟩)
  refine ⟨_, rfl, _, rfl, rd _ ?_⟩
  refine ⟨_, rfl, _, _, _, _, _, rfl, .ty _, ty_of hpd, kI_str, _, rfl, ?_⟩
  have pk := partsD_get hrow hi
  refine ite2 (fun c1 => ?_) (fun c1 => ?_)
  · rcases partD_cases pk with ⟨z, rfl, _⟩ | ⟨r, t, rfl, _⟩
    · generalize xs[i] = xi at hpd
      cases hpd
      have q := q H1 s1
      rw [re] at q
      exact ⟨_, rfl, q⟩
    · cases c1
  · rcases partD_cases pk with ⟨z, rfl, _⟩ | ⟨r, t, rfl, t1, t2, hn, hrr⟩
    · exact absurd rfl c1
    · have dp : r.depth < m ∧ r.depth ≤ 12 := by simp only [PyData.depth, PyData.depthAll] at dv; omega
      have wp : wD r ≤ 2000 := by simp only [wD, wDs] at wv; omega
      have mb := (manyR_bound r hrr).2.1 hn
      generalize xs[i] = xi at hpd
      cases hpd with
      | @tup ap ys _ hap hys =>
        match ys, hys with
        | [v1, v2], .cons h1 (.cons h2 .nil) =>
          refine ⟨_, rfl, _, _, _, _, rfl, rfl, SqT.of hap, atI_nat (j := 0) rfl, ?_⟩
          refine ⟨_, rfl, _, rfl, _, rfl, v1, r, rfl, h1, hrr, by omega, by omega, wp, fun H2 s2 => ⟨_, _, rfl, rfl, mb, ?_⟩⟩
          refine ⟨v1, r, rest % manyR r, rfl, h1.mono s2, hrr, dp.1, dp.2, wp, Int.emod_nonneg _ (by omega), Int.emod_lt_of_pos _ (by omega), fun H3 s3 => ?_⟩
          have q := q H3 (s1.trans (s2.trans s3))
          rw [re] at q
          exact q
theorem ta_all (T : Txt K mg) (O_count_asks : Own K mg "count_asks" s_count_asks f_count_asks fd_count_asks ["row"]) (O_part_with : Own K mg "_part_with" s_part_with f_part_with fd_part_with ["row", "place"]) (O_thing_at : Own K mg "thing_at" s_thing_at f_thing_at fd_thing_at ["row", "place"]) (G_count_asks : FnOk P w K mg base CX0 14 f_count_asks fd_count_asks ["row"] (spCnt 13 rowD manyR)) (G_part_with : FnOk P w K mg base CX0 14 f_part_with fd_part_with ["row", "place"] (spPw 12)) :
    ∀ m, FnOk P w K mg base CX0 (m + 14) f_thing_at fd_thing_at ["row", "place"] (spTa m)
  | 0 => ta_none
  | m + 1 => ta_step T O_count_asks O_part_with O_thing_at G_count_asks G_part_with (ta_all T O_count_asks O_part_with O_thing_at G_count_asks G_part_with m)
def spIn : Sp := fun vs H Q _ => ∃ x d, vs = [x] ∧ DD H x d ∧ okD d = true ∧ d.depth ≤ 12 ∧ wD d ≤ 2000 ∧ rowD d = true ∧ ∀ H', Same H H' → Q (.int (manyR d)) H'
def spAt : Sp := fun vs H Q _ => ∃ x d p, vs = [x, .int p] ∧ DD H x d ∧ okD d = true ∧ d.depth ≤ 12 ∧ wD d ≤ 2000 ∧ rowD d = true ∧ 0 ≤ p ∧ p < manyR d ∧ ∀ H', Same H H' → Q (.str (atR d p)) H'
theorem ok_ask_at (T : Txt K mg) (O_count_asks : Own K mg "count_asks" s_count_asks f_count_asks fd_count_asks ["row"]) (O_thing_at : Own K mg "thing_at" s_thing_at f_thing_at fd_thing_at ["row", "place"]) (O_check_row : Own K mg "check_row" s_check_row f_check_row fd_check_row ["row"]) (O_check_place : Own K mg "check_place" s_check_place f_check_place fd_check_place ["place", "many"]) (O_ask_at : Own K mg "ask_at" s_ask_at f_ask_at fd_ask_at ["row", "place"]) (G_check_row : FnOk P w K mg base CX0 4 f_check_row fd_check_row ["row"] spChk) (G_check_place : FnOk P w K mg base CX0 2 f_check_place fd_check_place ["place", "many"] spPlc) (G_count_asks : FnOk P w K mg base CX0 14 f_count_asks fd_count_asks ["row"] (spCnt 13 rowD manyR))
    (G_thing_at : FnOk P w K mg base CX0 27 f_thing_at fd_thing_at ["row", "place"] (spTa 13)) : FnOk P w K mg base CX0 28 f_ask_at fd_ask_at ["row", "place"] spAt := by
  refine O_ask_at.F.ok sc_ask_at (fun vs H Q E h => by obtain ⟨x, d, p, rfl, _⟩ := h; rfl) (fun cdv A outer s H vs Q E hr h => ?_)
  obtain ⟨x, d, p, rfl, hd, hok, hdp, hwd, hrow, p0, pm, q⟩ := h
  refine ⟨_, (pss_cons (ps_expr (pe_call G_check_row (hr.mono (by omega)) rfl O_check_row.m O_check_row.F.kp O_check_row.b .nil pass0 (pa_cons (pv 0) pa_nil)))
    (pss_cons (ps_expr (pe_call G_check_place (hr.mono (by omega)) rfl O_check_place.m O_check_place.F.kp O_check_place.b .nil pass0 (pa_cons (pv 1) (pa_cons (pe_call G_count_asks (hr.mono (by omega)) rfl O_count_asks.m O_count_asks.F.kp O_count_asks.b .nil pass0 (pa_cons (pv 0) pa_nil)) pa_nil))))
    (pss_one (ps_ret (pe_call G_thing_at (hr.mono (by omega)) rfl O_thing_at.m O_thing_at.F.kp O_thing_at.b .nil pass0 (pa_cons (pv 0) (pa_cons (pv 1) pa_nil))))))), ?_⟩
  refine ⟨_, rfl, x, d, rfl, hd, hok, by omega, hwd, hrow, fun H1 s1 => ?_⟩
  refine ⟨_, rfl, _, rfl, x, d, rfl, hd.mono s1, hrow, by omega, by omega, hwd, fun H2 s2 => ⟨p, _, rfl, p0, pm, fun H3 s3 => ?_⟩⟩
  exact ⟨_, rfl, _, rfl, x, d, p, rfl, hd.mono (s1.trans (s2.trans s3)), hrow, by omega, hdp, hwd, p0, pm, fun H4 s4 => q H4 ((s1.trans (s2.trans s3)).trans s4)⟩
end
end K03

set_option Elab.async false
set_option linter.all false
set_option maxRecDepth 100000
set_option maxHeartbeats 4000000
namespace MC
open PySem PySem.Spec L2
theorem SqX.keep {H H' : Hp} {a : Addr} {xs : List V} (h : SqX H a xs) (e : Same H H') : H' a = H a := by
  rcases h with h | h
  · exact (e _ _ h).trans h.symm
  · exact (e _ _ h).trans h.symm
/-- the item at a place, of a list or a tuple -/
theorem rd_ix {K : PySem.W.Frag} {H : Hp} {b : Addr} {xs : List V} {i : Nat} {v : V} (hx : SqX H b xs) (h : xs[i]? = some v) {R : VK} (q : R v H) : rIx K (.ref b) (.int (i : Nat)) H R := by
  have at' := atI_nat h
  rcases hx with hx | hx
  · exact .inl ⟨_, _, _, _, rfl, rfl, SqL.of hx, at', q⟩
  · exact .inr (.inl ⟨_, _, _, _, rfl, rfl, SqT.of hx, at', q⟩)
end MC
namespace K03
open PySem PySem.Spec L2 MC
open PyProof.Rows hiding St
def spOut (m : Nat) : Sp := fun vs H Q _ => ∃ x d, vs = [x] ∧ DD H x d ∧ rowD d = true ∧ d.depth < m ∧ d.depth ≤ 60 ∧ wD d ≤ 2000 ∧ manyR d ≤ 4000 ∧ ∀ H' p, Same H H' → H p = none → H' p = some (.lst ((outR d).map V.str)) → Q (.ref p) H'
section
variable {P : Program} {w : World} {K : PySem.W.Frag} {mg : Str → Option Value} {base : Heap}
variable {f_l_many f_l_there f_l_out : Addr} {fd_l_many fd_l_there fd_l_out : FuncData}
theorem many_step {m : Nat} (T : Txt K mg) (O_l_many : Own K mg "_law_many" s_l_many f_l_many fd_l_many ["_law_line"]) (G_l_many : FnOk P w K mg base CX0 (m + 1) f_l_many fd_l_many ["_law_line"] (spCnt m rowD manyR)) :
    FnOk P w K mg base CX0 (m + 1 + 1) f_l_many fd_l_many ["_law_line"] (spCnt (m + 1) rowD manyR) := by
  refine O_l_many.F.ok sc_l_many spCnt_len (fun cdv A outer s H vs Q E hr h => ?_)
  obtain ⟨x, d, rfl, hd, hrow, hdm, hdp, hwd, q⟩ := h
  refine ⟨_, (pss_cons (ps_set (i := 1) sc_l_many.nd rfl (Or.inl rfl) pe_int)
    (pss_cons (ps_for PassesOwn.never rfl (k_seq (K := K) rfl (pv 0)) (pg_name (i := 2) sc_l_many.nd rfl (Or.inl rfl))
    (pss_one (ps_set (i := 1) sc_l_many.nd rfl (Or.inl rfl) (pe_op op_add (pv 1) (pe_ifExp (pt_val (pe_callB (k_isi (K := K) rfl) (by rfl) T.n_isinstance (by decide +kernel) (pa_cons (pv 2) (pa_cons (pe_bltn (v := .ty "str") (by rfl) T.n_str (by decide +kernel) rfl) pa_nil)))) pe_int (pe_op op_mulW (pe_ix (k_ix_tup (K := K) rfl) (pv 2) pe_int (fun _ _ => rfl)) (pe_call G_l_many (hr.mono (by omega)) rfl O_l_many.m O_l_many.F.kp O_l_many.b .nil pass0 (pa_cons (pe_ix (k_ix_tup (K := K) rfl) (pv 2) pe_int (fun _ _ => rfl)) pa_nil))))))))
    (pss_one (ps_ret (pv 1))))), ?_⟩
  have k0 := rowD_is hrow
  rw [rowD_elems k0] at hrow
  obtain ⟨a, xs, rfl, hx, hxs⟩ := hd.seq k0
  have we := wD_elems d
  have de := depth_elems k0
  have ln := hxs.length
  refine ⟨_, rfl, for_seq (xs := xs) hx (fun i σ H' => ∃ (s2 : Option V), σ = [some (.ref a), some (.int (manyPs ((elemsD d).take i))), s2] ∧ Same H H') ⟨_, rfl, Same.refl _⟩ ?_ ?_ ?_⟩
  · rintro i σ' H' hi ⟨s2, _, s1⟩
    exact hx.keep s1
  · rintro i xv σ H2 hi ⟨s2, rfl, s1⟩
    obtain ⟨dv, hdv, hdd⟩ := hxs.get hi
    have wv := wD_le hdv
    have dv1 := depth_le hdv
    have hdd2 := hdd.mono s1
    have pk := partsD_get hrow hdv
    have tk : manyPs ((elemsD d).take (i + 1)) = manyPs ((elemsD d).take i) + manyP dv := by rw [take_more hdv, manyPs_append]; simp [manyPs]
    refine ⟨_, rfl, _, rfl, _, _, _, _, _, rfl, .ty _, ty_of hdd2, kI_str, _, rfl, ?_⟩
    refine ite2 (fun c1 => ?_) (fun c1 => ?_)
    · have e1 : manyP dv = 1 := by cases dv <;> first | rfl | cases c1
      refine ⟨_, _, rfl, rfl, some xv, ?_, s1⟩
      rw [tk, e1]; rfl
    · rcases partD_cases pk with ⟨z, rfl, _⟩ | ⟨r, t, rfl, t1, t2, hn, hrr⟩
      · exact absurd rfl c1
      have dp : r.depth < m ∧ r.depth ≤ 60 := by simp only [PyData.depth, PyData.depthAll] at dv1; omega
      have wp : wD r ≤ 2000 := by simp only [wD, wDs] at wv; omega
      cases hdd2 with
      | @tup ap ys _ hap hys =>
        match ys, hys with
        | [v1, v2], .cons h1 (.cons h2 .nil) =>
          cases h2
          refine ⟨_, rfl, _, _, _, _, rfl, rfl, SqT.of hap, atI_nat (j := 1) rfl, _, rfl, _, _, _, _, rfl, rfl, SqT.of hap, atI_nat (j := 0) rfl, v1, r, rfl, h1, hrr, dp.1, dp.2, wp, fun H3 s3 => ?_⟩
          refine ⟨_, _, rfl, rfl, wide_mul (bits30 t1 t2) (many_bits hrr wp dp.2) (by decide) (by decide) (by decide), _, _, rfl, rfl, some (.ref ap), ?_, s1.trans s3⟩
          rw [tk, show manyP (.tuple [r, .int t]) = manyR r * t from rfl, Int.mul_comm (manyR r) t]
          rfl
  · rintro σ H2 ⟨s2, rfl, s1⟩
    have full : (elemsD d).take xs.length = elemsD d := List.take_of_length_le (by rw [ln]; exact Nat.le_refl _)
    rw [full]
    have q := q H2 s1
    rw [manyR_elems k0] at q
    exact ⟨_, rfl, q⟩
theorem many_all (T : Txt K mg) (O_l_many : Own K mg "_law_many" s_l_many f_l_many fd_l_many ["_law_line"]) : ∀ m, FnOk P w K mg base CX0 (m + 1) f_l_many fd_l_many ["_law_line"] (spCnt m rowD manyR)
  | 0 => ⟨fun vs H Q E h => absurd h (spCnt_no vs H Q E), fun A outer s H args us vs Q E _ _ _ _ h => absurd h (spCnt_no vs H Q E)⟩
  | m + 1 => many_step T O_l_many (many_all T O_l_many m)
theorem out_step {m : Nat} (T : Txt K mg) (O_l_out : Own K mg "_law_out" s_l_out f_l_out fd_l_out ["_law_line"]) (G_l_out : FnOk P w K mg base CX0 (m + 1) f_l_out fd_l_out ["_law_line"] (spOut m)) :
    FnOk P w K mg base CX0 (m + 1 + 1) f_l_out fd_l_out ["_law_line"] (spOut (m + 1)) := by
  refine O_l_out.F.ok sc_l_out (fun vs H Q E h => by obtain ⟨x, d, rfl, _⟩ := h; rfl) (fun cdv A outer s H vs Q E hr h => ?_)
  obtain ⟨x, d, rfl, hd, hrow, hdm, hdp, hwd, hmy, q⟩ := h
  refine ⟨_, (pss_cons (ps_set (i := 1) sc_l_out.nd rfl (Or.inl rfl) (pe_lst pa_nil))
    (pss_cons (ps_for PassesOwn.never rfl (k_seq (K := K) rfl (pv 0)) (pg_name (i := 2) sc_l_out.nd rfl (Or.inl rfl))
    (pss_one (ps_set (i := 1) sc_l_out.nd rfl (Or.inl rfl) (pe_op op_cat (pv 1) (pe_ifExp (pt_val (pe_callB (k_isi (K := K) rfl) (by rfl) T.n_isinstance (by decide +kernel) (pa_cons (pv 2) (pa_cons (pe_bltn (v := .ty "str") (by rfl) T.n_str (by decide +kernel) rfl) pa_nil)))) (pe_lst (pa_cons (pv 2) pa_nil)) (pe_op op_rep (pe_call G_l_out (hr.mono (by omega)) rfl O_l_out.m O_l_out.F.kp O_l_out.b .nil pass0 (pa_cons (pe_ix (k_ix_tup (K := K) rfl) (pv 2) pe_int (fun _ _ => rfl)) pa_nil)) (pe_ix (k_ix_tup (K := K) rfl) (pv 2) pe_int (fun _ _ => rfl))))))))
    (pss_one (ps_ret (pv 1))))), ?_⟩
  have k0 := rowD_is hrow
  rw [rowD_elems k0] at hrow
  rw [manyR_elems k0] at hmy
  obtain ⟨a, xs, rfl, hx, hxs⟩ := hd.seq k0
  have we := wD_elems d
  have de := depth_elems k0
  have ln := hxs.length
  refine ⟨Nat.zero_le _, fun f0 hf0 => ?_⟩
  have s0 := same_new hf0 (.lst [])
  refine ⟨_, rfl, for_seq (xs := xs) (hx.mono s0) (fun i σ H' => ∃ (f : Addr) (s2 : Option V), σ = [some (.ref a), some (.ref f), s2] ∧ Same H H' ∧ H f = none ∧ H' f = some (.lst ((outPs ((elemsD d).take i)).map V.str))) ⟨f0, _, rfl, s0, hf0, upd_same⟩ ?_ ?_ ?_⟩
  · rintro i σ' H' hi ⟨f, s2, _, s1, _⟩
    exact (hx.keep s1).trans (hx.keep s0).symm
  · rintro i xv σ H2 hi ⟨f, s2, rfl, s1, f0, hf⟩
    obtain ⟨dv, hdv, hdd⟩ := hxs.get hi
    have wv := wD_le hdv
    have dv1 := depth_le hdv
    have hdd2 := hdd.mono s1
    have pk := partsD_get hrow hdv
    have my := many_upto hrow hdv
    have mt := (many_take hrow i).1
    have lo := (outPs_get _ (parts_split hrow i).1).1
    have tk : outPs ((elemsD d).take (i + 1)) = outPs ((elemsD d).take i) ++ outP dv := by rw [take_more hdv, outPs_append]; simp [outPs]
    have zz : (10 : Nat) ^ 5 ≤ sizeLine := by decide
    refine ⟨_, rfl, _, rfl, _, _, _, _, _, rfl, .ty _, ty_of hdd2, kI_str, _, rfl, ?_⟩
    refine ite2 (fun c1 => ?_) (fun c1 => ?_)
    · rcases partD_cases pk with ⟨z, rfl, _⟩ | ⟨r, t, rfl, _⟩
      · cases hdd2
        refine ⟨_, rfl, (by show 1 ≤ sizeLine; decide), fun p hp => ?_⟩
        have st := same_new hp (.lst [.str z])
        have m1 : manyP (.str z) = 1 := rfl
        refine ⟨_, _, _, _, rfl, rfl, st _ _ hf, upd_same, ?_, fun g hg => ?_⟩
        · rw [List.length_map]; simp only [List.length_cons, List.length_nil]; omega
        have sg := st.trans (same_new hg (.lst ((outPs ((elemsD d).take i)).map V.str ++ [.str z])))
        refine ⟨g, _, rfl, s1.trans sg, (s1.trans st).free hg, ?_⟩
        rw [upd_same, tk, List.map_append]
        rfl
      · cases c1
    · rcases partD_cases pk with ⟨z, rfl, _⟩ | ⟨r, t, rfl, t1, t2, hn, hrr⟩
      · exact absurd rfl c1
      have dp : r.depth < m ∧ r.depth ≤ 60 := by simp only [PyData.depth, PyData.depthAll] at dv1; omega
      have wp : wD r ≤ 2000 := by simp only [wD, wDs] at wv; omega
      have mb := (manyR_bound r hrr).2.1 hn
      have mp : manyP (.tuple [r, .int t]) = manyR r * t := rfl
      have le1 : manyR r * 1 ≤ manyR r * t := Int.mul_le_mul_of_nonneg_left t1 (by omega)
      have le2 : 1 * t ≤ manyR r * t := Int.mul_le_mul_of_nonneg_right mb (by omega)
      have lr := (outR_get r hrr).1
      have tt : ((t.toNat : Nat) : Int) = t := by omega
      have lrep : (((outR r).length * t.toNat : Nat) : Int) = manyR r * t := by rw [Int.natCast_mul, lr, tt]
      cases hdd2 with
      | @tup ap ys _ hap hys =>
        match ys, hys with
        | [v1, v2], .cons h1 (.cons h2 .nil) =>
          cases h2
          refine ⟨_, rfl, _, _, _, _, rfl, rfl, SqT.of hap, atI_nat (j := 0) rfl, v1, r, rfl, h1, hrr, dp.1, dp.2, wp, by omega, fun H3 p s3 p0 hp => ?_⟩
          refine ⟨_, rfl, _, _, _, _, rfl, rfl, SqT.of (s3 _ _ hap), atI_nat (j := 1) rfl, _, _, _, rfl, rfl, hp, by omega, by omega, ?_, fun g hg => ?_⟩
          · rw [List.length_map]; omega
          have sg := same_new hg (.lst (List.replicate t.toNat ((outR r).map V.str)).flatten)
          refine ⟨_, _, _, _, rfl, rfl, sg _ _ (s3 _ _ hf), upd_same, ?_, fun g2 hg2 => ?_⟩
          · rw [rep_len, List.length_map, List.length_map, Nat.mul_comm]; omega
          have st := s3.trans (sg.trans (same_new hg2 (.lst ((outPs ((elemsD d).take i)).map V.str ++ (List.replicate t.toNat ((outR r).map V.str)).flatten))))
          refine ⟨g2, _, rfl, s1.trans st, (s1.trans (s3.trans sg)).free hg2, ?_⟩
          rw [upd_same, tk, List.map_append, show outP (.tuple [r, .int t]) = (List.replicate t.toNat (outR r)).flatten from rfl, List.map_flatten, List.map_replicate]
  · rintro σ H2 ⟨f, s2, rfl, s1, f0, hf⟩
    have full : (elemsD d).take xs.length = elemsD d := List.take_of_length_le (by rw [ln]; exact Nat.le_refl _)
    rw [full, ← outR_elems k0] at hf
    exact ⟨_, rfl, q H2 f s1 f0 hf⟩
theorem out_all (T : Txt K mg) (O_l_out : Own K mg "_law_out" s_l_out f_l_out fd_l_out ["_law_line"]) : ∀ m, FnOk P w K mg base CX0 (m + 1) f_l_out fd_l_out ["_law_line"] (spOut m)
  | 0 => by
    have no : ∀ vs H Q E, ¬ spOut 0 vs H Q E := fun vs H Q E h => by
      obtain ⟨x, d, _, _, _, h0, _⟩ := h
      exact absurd h0 (Nat.not_lt_zero _)
    exact ⟨fun vs H Q E h => absurd h (no vs H Q E), fun A outer s H args us vs Q E _ _ _ _ h => absurd h (no vs H Q E)⟩
  | m + 1 => out_step T O_l_out (out_all T O_l_out m)
end
end K03

set_option Elab.async false
set_option linter.all false
set_option maxRecDepth 100000
set_option maxHeartbeats 4000000
namespace MC
open PySem PySem.Spec L2
/-- a comprehension over whatever yields n times -/
theorem lc_itN {J : It} {n : Nat} {g : TG} {tt : TT} {te : TE} {vs : List Nat} {σ : St} {H1 : Hp} {D : Addr} {Qd : Hp → Prop} (Pv : Nat → Hp → Prop) (h0 : Pv 0 (upd H1 D (.lst [])))
    (hgo : ∀ i H, i < n → Pv i H → J.go i H) (hst : ∀ H, Pv n H → J.stop n H)
    (hs : ∀ i H x H', i < n → Pv i H → J.yld i H x H' → g x (wipe σ vs) H' fun σ2 H2 => wipe σ2 vs = wipe σ vs ∧ tt σ2 H2 fun b H3 =>
      if b = true then te σ2 H3 fun y H4 => ∃ acc, H4 D = some (.lst acc) ∧ acc.length < sizeLine ∧ Pv (i + 1) (upd H4 D (.lst (acc ++ [y]))) else Pv (i + 1) H3) (hd : ∀ H, Pv n H → Qd H) :
    ∃ W : Nat → Nat → Hp → Prop, (∃ m, W 0 m (upd H1 D (.lst []))) ∧ ∀ i m H, W i m H →
      (J.stop i H ∧ Qd H) ∨ (J.go i H ∧ ∃ Nx : Hp → Prop, (∀ H', Nx H' → ∃ m', m' < m ∧ W (i + 1) m' H') ∧ ∀ x H', J.yld i H x H' → g x (wipe σ vs) H' fun σ2 H2 => wipe σ2 vs = wipe σ vs ∧ tt σ2 H2 fun b H3 =>
        if b = true then te σ2 H3 fun y H4 => ∃ acc, H4 D = some (.lst acc) ∧ acc.length < sizeLine ∧ Nx (upd H4 D (.lst (acc ++ [y]))) else Nx H3) := by
  refine ⟨fun i m H => m = n - i ∧ i ≤ n ∧ Pv i H, ⟨n, by simp, Nat.zero_le _, h0⟩, fun i m H w => ?_⟩
  obtain ⟨rfl, hi, pv⟩ := w
  rcases Nat.lt_or_ge i n with lt | ge
  · exact .inr ⟨hgo i H lt pv, Pv (i + 1), fun H' z => ⟨n - (i + 1), by omega, rfl, lt, z⟩, fun x H' y => hs i H x H' lt pv y⟩
  · have e : i = n := by omega
    subst e
    exact .inl ⟨hst H pv, hd H pv⟩
/-- whole numbers, texts, lists of such -/
def simD : PyData → Bool
  | .none => true
  | .int _ => true
  | .str _ => true
  | .list xs => simDs xs
  | _ => false
where simDs : List PyData → Bool
  | [] => true
  | x :: xs => simD x && simDs xs
theorem simD_get {xs : List PyData} (h : simD (.list xs) = true) {i : Nat} {d : PyData} (e : xs[i]? = some d) : simD d = true := by
  simp only [simD] at h
  induction xs generalizing i with
  | nil => simp at e
  | cons x xs ih =>
    simp only [simD.simDs, Bool.and_eq_true] at h
    cases i with
    | zero => simp at e; subst e; exact h.1
    | succ i => exact ih h.2 (by simpa using e)
end MC
namespace K03
open PySem PySem.Spec L2 MC
open PyProof.Rows hiding St
def spSame (m : Nat) : Sp := fun vs H Q _ => ∃ x y d, vs = [x, y] ∧ DD H x d ∧ DD H y d ∧ simD d = true ∧ d.depth < m ∧ wD d ≤ 2000 ∧ ∀ H', Same H H' → Q (.bl true) H'
section
variable {P : Program} {w : World} {K : PySem.W.Frag} {mg : Str → Option Value} {base : Heap}
variable {f_l_roll f_l_many f_l_same f_l_spots : Addr} {fd_l_roll fd_l_many fd_l_same fd_l_spots : FuncData}
theorem same_step {m : Nat} (T : Txt K mg) (O_l_same : Own K mg "_law_same" s_l_same f_l_same fd_l_same ["_law_found", "_law_due"]) (G_l_same : FnOk P w K mg base CX0 (m + 1) f_l_same fd_l_same ["_law_found", "_law_due"] (spSame m)) :
    FnOk P w K mg base CX0 (m + 1 + 1) f_l_same fd_l_same ["_law_found", "_law_due"] (spSame (m + 1)) := by
  refine O_l_same.F.ok sc_l_same (fun vs H Q E h => by obtain ⟨x, y, d, rfl, _⟩ := h; rfl) (fun cdv A outer s H vs Q E hr h => ?_)
  obtain ⟨x, y, d, rfl, hx, hy, hsim, hdm, hwd, q⟩ := h
  refine ⟨_, (pss_cons (ps_if (pt_val (pe_callB (k_isiT (K := K) rfl) (by rfl) T.n_isinstance (by decide +kernel) (pa_cons (pv 1) (pa_cons (pe_tup (pa_cons (pe_bltn (v := .ty "list") (by rfl) T.n_list (by decide +kernel) rfl) (pa_cons (pe_bltn (v := .ty "tuple") (by rfl) T.n_tuple (by decide +kernel) rfl) pa_nil))) pa_nil))))
    (pss_cons (ps_if (PW.pt (pw_or (pt_cmpR op_ne (pe_callB (k_isi (K := K) rfl) (by rfl) T.n_isinstance (by decide +kernel) (pa_cons (pv 0) (pa_cons (pe_bltn (v := .ty "list") (by rfl) T.n_list (by decide +kernel) rfl) pa_nil))) (pe_callB (k_isi (K := K) rfl) (by rfl) T.n_isinstance (by decide +kernel) (pa_cons (pv 1) (pa_cons (pe_bltn (v := .ty "list") (by rfl) T.n_list (by decide +kernel) rfl) pa_nil))) (nomark _)) (pw_or1 (pt_cmpR op_ne (pe_callB (k_isi (K := K) rfl) (by rfl) T.n_isinstance (by decide +kernel) (pa_cons (pv 0) (pa_cons (pe_bltn (v := .ty "tuple") (by rfl) T.n_tuple (by decide +kernel) rfl) pa_nil))) (pe_callB (k_isi (K := K) rfl) (by rfl) T.n_isinstance (by decide +kernel) (pa_cons (pv 1) (pa_cons (pe_bltn (v := .ty "tuple") (by rfl) T.n_tuple (by decide +kernel) rfl) pa_nil))) (nomark _)))))
    (pss_one (ps_ret pe_bl))
    pss_nil)
    (pss_one (ps_ret (pe_and (pe_cmpR op_eq (pe_callB (k_len_seq (K := K) rfl) (by rfl) T.n_len (by decide +kernel) (pa_cons (pv 0) pa_nil)) (pe_callB (k_len_seq (K := K) rfl) (by rfl) T.n_len (by decide +kernel) (pa_cons (pv 1) pa_nil)) (nomark _)) (pe_one (pe_callB (k_all (K := K) rfl rfl) (by rfl) T.n_all (by decide +kernel) (pa_cons (pe_lc (own := [("_law_one", 2), ("_law_other", 3)]) rfl sc_l_same.nd (pi_zip (by rfl) T.n_zip (pa_cons (pv 0) (pa_cons (pv 1) pa_nil))) (blkOk_by (own := [("_law_one", 2), ("_law_other", 3)]) (N := ["_law_found", "_law_due", "_law_one", "_law_other"]) (sc := defScope s_l_same) (by decide +kernel)) (fun _ _ _ _ _ => (k_tup (K := K) (n := 2) rfl rfl (pgs_cons (pg_name (i := 2) sc_l_same.nd rfl (Or.inl rfl)) (pgs_cons (pg_name (i := 3) sc_l_same.nd rfl (Or.inl rfl)) pgs_nil)))) (fun _ _ _ _ _ => pts_nil) (fun _ _ _ _ _ => (pe_call G_l_same (hr.mono (by omega)) rfl O_l_same.m O_l_same.F.kp O_l_same.b .nil pass0 (pa_cons (pv 2) (pa_cons (pv 3) pa_nil))))) pa_nil)))))))
    pss_nil)
    (pss_cons (ps_if (PW.pt (pw_or (pt_cmpR op_isN (pv 0) pe_non (nomark _)) (pw_or1 (pt_cmpR op_isN (pv 1) pe_non (nomark _)))))
    (pss_one (ps_ret (pe_and (pe_cmpR op_isN (pv 0) pe_non (nomark _)) (pe_one (pe_cmpR op_isN (pv 1) pe_non (nomark _))))))
    pss_nil)
    (pss_cons (ps_if (PW.pt (pw_or (pt_cmpR op_ne (pe_callB (k_isi (K := K) rfl) (by rfl) T.n_isinstance (by decide +kernel) (pa_cons (pv 0) (pa_cons (pe_bltn (v := .ty "bool") (by rfl) T.n_bool (by decide +kernel) rfl) pa_nil))) (pe_callB (k_isi (K := K) rfl) (by rfl) T.n_isinstance (by decide +kernel) (pa_cons (pv 1) (pa_cons (pe_bltn (v := .ty "bool") (by rfl) T.n_bool (by decide +kernel) rfl) pa_nil))) (nomark _)) (pw_or1 (pt_cmpR op_ne (pe_callB (k_isi (K := K) rfl) (by rfl) T.n_isinstance (by decide +kernel) (pa_cons (pv 0) (pa_cons (pe_bltn (v := .ty "str") (by rfl) T.n_str (by decide +kernel) rfl) pa_nil))) (pe_callB (k_isi (K := K) rfl) (by rfl) T.n_isinstance (by decide +kernel) (pa_cons (pv 1) (pa_cons (pe_bltn (v := .ty "str") (by rfl) T.n_str (by decide +kernel) rfl) pa_nil))) (nomark _)))))
    (pss_one (ps_ret pe_bl))
    pss_nil)
    (pss_one (ps_ret (pe_cmpR op_eq (pv 0) (pv 1) (nomark _))))))), ?_⟩
  refine ⟨_, rfl, (by show 2 ≤ sizeLine; decide), fun p hp => ?_⟩
  have s0 := same_new hp (.tup [.ty "list", .ty "tuple"])
  refine ⟨_, _, _, _, _, _, rfl, upd_same, cl_seq, ty_of (hy.mono s0), kit_seq, _, rfl, ?_⟩
  have hx1 := hx.mono s0
  have hy1 := hy.mono s0
  generalize upd H p (.tup [.ty "list", .ty "tuple"]) = H1 at s0 hx1 hy1
  refine ite2 (fun c => ?_) (fun c => ?_)
  · -- lists
    refine ⟨_, rfl, _, _, _, _, _, rfl, .ty _, ty_of hx1, kI_list, _, rfl, _, _, _, _, _, rfl, .ty _, ty_of hy1, kI_list, ?_⟩
    refine ⟨rfl, _, rfl, ?_⟩
    refine ite2 (fun z => absurd z (by simp)) (fun _ => ?_)
    refine ⟨_, rfl, _, _, _, _, _, rfl, .ty _, ty_of hx1, kI_tuple, _, rfl, _, _, _, _, _, rfl, .ty _, ty_of hy1, kI_tuple, rfl, _, rfl, ?_⟩
    refine ite2 (fun z => absurd z (by simp)) (fun _ => ?_)
    cases d with
    | list ds =>
      cases hx1 with
      | @lst ax xs _ hax hxs =>
        cases hy1 with
        | @lst ay ys _ hay hys =>
          have lx := hxs.length
          have ly := hys.length
          have lw := len_wDs ds
          simp only [wD] at hwd
          refine ⟨_, rfl, _, _, rfl, .inl (SqL.of hax), _, rfl, _, _, rfl, .inl (SqL.of hay), rfl, _, rfl, ?_⟩
          refine ite2 (fun _ => ?_) (fun z => absurd (by rw [lx, ly]; simp) z)
          refine ⟨_, rfl, _, rfl, ax, ay, xs, ys, rfl, SqL.of hax, SqL.of hay, fun D hD => ?_⟩
          have ax0 : ∀ {H' : Hp}, Same H1 H' → SqL K H' ax xs ∧ SqL K H' ay ys := fun {H'} e => ⟨SqL.of (e _ _ hax), SqL.of (e _ _ hay)⟩
          refine lc_itN (n := ds.length) (fun i H' => Same H1 H' ∧ H' D = some (.lst (List.replicate i (V.bl true)))) ⟨same_new hD _, upd_same⟩ ?_ ?_ ?_ ?_
          · rintro i H' hi ⟨e, _⟩
            exact ⟨xs, ys, xs[i], ys[i], (ax0 e).1, (ax0 e).2, List.getElem?_eq_getElem (by omega), List.getElem?_eq_getElem (by omega)⟩
          · rintro H' ⟨e, _⟩
            exact ⟨xs, ys, (ax0 e).1, (ax0 e).2, .inl (by omega)⟩
          · rintro i H2 v H3 hi ⟨e, hl⟩ ⟨tp, x', y', rfl, htp, rfl, gx, gy⟩
            have hx' := gx xs (ax0 e).1
            have hy' := gy ys (ax0 e).2
            obtain ⟨d1, hd1, hdx⟩ := hxs.get hx'
            obtain ⟨d2, hd2, hdy⟩ := hys.get hy'
            have e12 : d2 = d1 := by rw [hd1] at hd2; exact (Option.some.inj hd2).symm
            subst e12
            have st := same_new htp (.tup [x', y'])
            have dl := depth_le hd2
            have wl := wD_le hd2
            refine ⟨tp, _, rfl, SqT.of upd_same, rfl, _, _, rfl, _, _, rfl, rfl, rfl, ?_⟩
            refine ⟨_, rfl, _, rfl, x', y', d2, rfl, hdx.mono (e.trans st), hdy.mono (e.trans st), simD_get hsim hd2, by simp only [PyData.depth] at hdm; omega, by omega, fun H4 s4 => ?_⟩
            refine ⟨_, s4 _ _ (st _ _ hl), ?_, same_mut (e.trans (st.trans s4)) hD _, ?_⟩
            · rw [List.length_replicate]; exact Nat.lt_of_lt_of_le (show i < 2001 by omega) (by decide)
            · rw [upd_same, List.replicate_succ']
          · rintro H2 ⟨e, hl⟩
            refine ⟨D, List.replicate ds.length true, rfl, SqL.of (by rw [hl, List.map_replicate]), ?_⟩
            rw [show (List.replicate ds.length true).all id = true by simp]
            exact q H2 (s0.trans e)
    | tuple ds => simp [simD] at hsim
    | _ => cases c
  · cases d with
    | int i =>
      cases hx1; cases hy1
      refine ⟨_, rfl, rfl, _, rfl, ?_⟩
      refine ite2 (fun z => nomatch z) (fun _ => ?_)
      refine ⟨_, rfl, rfl, _, rfl, ?_⟩
      refine ite2 (fun z => nomatch z) (fun _ => ?_)
      refine ⟨_, rfl, _, _, _, _, _, rfl, .ty _, ty_of (.int i), kI_bool, _, rfl, _, _, _, _, _, rfl, .ty _, ty_of (.int i), kI_bool, rfl, _, rfl, ?_⟩
      refine ite2 (fun z => absurd z (by simp)) (fun _ => ?_)
      refine ⟨_, rfl, _, _, _, _, _, rfl, .ty _, ty_of (.int i), kI_str, _, rfl, _, _, _, _, _, rfl, .ty _, ty_of (.int i), kI_str, rfl, _, rfl, ?_⟩
      refine ite2 (fun z => absurd z (by simp)) (fun _ => ?_)
      refine ⟨_, rfl, _, rfl, rfl, ?_⟩
      rw [decide_eq_true rfl]
      exact q H1 s0
    | str z =>
      cases hx1; cases hy1
      refine ⟨_, rfl, rfl, _, rfl, ?_⟩
      refine ite2 (fun z => nomatch z) (fun _ => ?_)
      refine ⟨_, rfl, rfl, _, rfl, ?_⟩
      refine ite2 (fun z => nomatch z) (fun _ => ?_)
      refine ⟨_, rfl, _, _, _, _, _, rfl, .ty _, ty_of (.str z), kI_bool, _, rfl, _, _, _, _, _, rfl, .ty _, ty_of (.str z), kI_bool, rfl, _, rfl, ?_⟩
      refine ite2 (fun z => absurd z (by simp)) (fun _ => ?_)
      refine ⟨_, rfl, _, _, _, _, _, rfl, .ty _, ty_of (.str z), kI_str, _, rfl, _, _, _, _, _, rfl, .ty _, ty_of (.str z), kI_str, rfl, _, rfl, ?_⟩
      refine ite2 (fun z => absurd z (by simp)) (fun _ => ?_)
      refine ⟨_, rfl, _, rfl, rfl, ?_⟩
      rw [decide_eq_true rfl]
      exact q H1 s0
    | none =>
      cases hx1; cases hy1
      refine ⟨_, rfl, rfl, _, rfl, ?_⟩
      refine ite2 (fun _ => ?_) (fun z => absurd (by decide) z)
      refine ⟨_, rfl, rfl, _, rfl, ?_⟩
      refine ite2 (fun _ => ?_) (fun z => absurd (by decide) z)
      refine ⟨_, rfl, rfl, ?_⟩
      rw [show decide (V.non = V.non) = true from decide_eq_true rfl]
      exact q H1 s0
    | list ds => exact absurd rfl c
    | tuple ds => simp [simD] at hsim
    | _ => simp [simD] at hsim
theorem same_all (T : Txt K mg) (O_l_same : Own K mg "_law_same" s_l_same f_l_same fd_l_same ["_law_found", "_law_due"]) : ∀ m, FnOk P w K mg base CX0 (m + 1) f_l_same fd_l_same ["_law_found", "_law_due"] (spSame m)
  | 0 => by
    have no : ∀ vs H Q E, ¬ spSame 0 vs H Q E := fun vs H Q E h => by
      obtain ⟨x, y, d, _, _, _, _, h0, _⟩ := h
      exact absurd h0 (Nat.not_lt_zero _)
    exact ⟨fun vs H Q E h => absurd h (no vs H Q E), fun A outer s H args us vs Q E _ _ _ _ h => absurd h (no vs H Q E)⟩
  | m + 1 => same_step T O_l_same (same_all T O_l_same m)
end
end K03

set_option Elab.async false
set_option linter.all false
set_option maxRecDepth 100000
set_option maxHeartbeats 4000000
namespace MC
open PySem PySem.Spec L2
mutual
theorem undR_asks : ∀ d : PyData, rowD (undR d) = rowD d ∧ dNil (undR d) = dNil d ∧ manyR (undR d) = manyR d ∧ ∀ p, atR (undR d) p = atR d p
  | .none => ⟨rfl, rfl, rfl, fun _ => rfl⟩
  | .bool _ => ⟨rfl, rfl, rfl, fun _ => rfl⟩
  | .int _ => ⟨rfl, rfl, rfl, fun _ => rfl⟩
  | .str _ => ⟨rfl, rfl, rfl, fun _ => rfl⟩
  | .dict _ => ⟨rfl, rfl, rfl, fun _ => rfl⟩
  | .list xs => by
    obtain ⟨h1, h2, h3⟩ := undPs_asks xs
    exact ⟨h1, by cases xs <;> rfl, h2, h3⟩
  | .tuple xs => by
    obtain ⟨h1, h2, h3⟩ := undPs_asks xs
    exact ⟨h1, by cases xs <;> rfl, h2, h3⟩
theorem undP_asks : ∀ d : PyData, partD (undP d) = partD d ∧ manyP (undP d) = manyP d ∧ ∀ p, atP (undP d) p = atP d p
  | .none => ⟨rfl, rfl, fun _ => rfl⟩
  | .bool _ => ⟨rfl, rfl, fun _ => rfl⟩
  | .int _ => ⟨rfl, rfl, fun _ => rfl⟩
  | .str _ => ⟨rfl, rfl, fun _ => rfl⟩
  | .dict _ => ⟨rfl, rfl, fun _ => rfl⟩
  | .list xs => ⟨rfl, rfl, fun _ => rfl⟩
  | .tuple [] => ⟨rfl, rfl, fun _ => rfl⟩
  | .tuple [_] => ⟨rfl, rfl, fun _ => rfl⟩
  | .tuple [r, .int t] => by
    obtain ⟨h1, h2, h3, h4⟩ := undR_asks r
    refine ⟨?_, ?_, fun p => ?_⟩
    · show (timesOk t && !dNil (undR r) && rowD (undR r)) = (timesOk t && !dNil r && rowD r)
      rw [h1, h2]
    · show manyR (undR r) * t = manyR r * t
      rw [h3]
    · show atR (undR r) (p % manyR (undR r)) = atR r (p % manyR r)
      rw [h3, h4]
  | .tuple [r, .none] => ⟨rfl, rfl, fun _ => rfl⟩
  | .tuple [r, .bool _] => ⟨rfl, rfl, fun _ => rfl⟩
  | .tuple [r, .str _] => ⟨rfl, rfl, fun _ => rfl⟩
  | .tuple [r, .list _] => ⟨rfl, rfl, fun _ => rfl⟩
  | .tuple [r, .tuple _] => ⟨rfl, rfl, fun _ => rfl⟩
  | .tuple [r, .dict _] => ⟨rfl, rfl, fun _ => rfl⟩
  | .tuple (_ :: _ :: _ :: _) => ⟨rfl, rfl, fun _ => rfl⟩
theorem undPs_asks : ∀ xs : List PyData, partsD (undPs xs) = partsD xs ∧ manyPs (undPs xs) = manyPs xs ∧ ∀ p, atPs (undPs xs) p = atPs xs p
  | [] => ⟨rfl, rfl, fun _ => rfl⟩
  | x :: xs => by
    obtain ⟨h1, h2, h3⟩ := undP_asks x
    obtain ⟨k1, k2, k3⟩ := undPs_asks xs
    refine ⟨?_, ?_, fun p => ?_⟩
    · simp only [undPs, partsD, h1, k1]
    · simp only [undPs, manyPs, h2, k2]
    · simp only [undPs, atPs, h2, h3, k3]
end
mutual
theorem undR_out : ∀ d : PyData, outR (undR d) = outR d
  | .none => rfl
  | .bool _ => rfl
  | .int _ => rfl
  | .str _ => rfl
  | .dict _ => rfl
  | .list xs => undPs_out xs
  | .tuple xs => undPs_out xs
theorem undP_out : ∀ d : PyData, outP (undP d) = outP d
  | .none => rfl
  | .bool _ => rfl
  | .int _ => rfl
  | .str _ => rfl
  | .dict _ => rfl
  | .list xs => rfl
  | .tuple [] => rfl
  | .tuple [_] => rfl
  | .tuple [r, .int t] => by
    show (List.replicate t.toNat (outR (undR r))).flatten = (List.replicate t.toNat (outR r)).flatten
    rw [undR_out r]
  | .tuple [r, .none] => rfl
  | .tuple [r, .bool _] => rfl
  | .tuple [r, .str _] => rfl
  | .tuple [r, .list _] => rfl
  | .tuple [r, .tuple _] => rfl
  | .tuple [r, .dict _] => rfl
  | .tuple (_ :: _ :: _ :: _) => rfl
theorem undPs_out : ∀ xs : List PyData, outPs (undPs xs) = outPs xs
  | [] => rfl
  | x :: xs => by simp only [undPs, outPs, undP_out x, undPs_out xs]
end
end MC

set_option Elab.async false
set_option linter.all false
set_option maxRecDepth 100000
set_option maxHeartbeats 4000000
set_option exponentiation.threshold 20000
namespace MC
open PySem PySem.Spec L2
def cntR (d : PyData) (z : Str) : Int := ((outR d).count z : Nat)
def cntP (d : PyData) (z : Str) : Int := ((outP d).count z : Nat)
def cntPs (xs : List PyData) (z : Str) : Int := ((outPs xs).count z : Nat)
theorem cntR_elems {d : PyData} (k : dSeq d = true) (z : Str) : cntR d z = cntPs (elemsD d) z := by unfold cntR cntPs; rw [outR_elems k]
theorem cntPs_more {xs : List PyData} {i : Nat} {d : PyData} (h : xs[i]? = some d) (z : Str) : cntPs (xs.take (i + 1)) z = cntPs (xs.take i) z + cntP d z := by
  unfold cntPs cntP
  rw [take_more h, outPs_append, List.count_append]
  simp [outPs]
theorem cntP_tup {r : PyData} {t : Int} (h : 1 ≤ t) (z : Str) : cntP (.tuple [r, .int t]) z = cntR r z * t := by
  unfold cntP cntR
  rw [show outP (.tuple [r, .int t]) = (List.replicate t.toNat (outR r)).flatten from rfl, rep_count, Int.natCast_mul, show ((t.toNat : Nat) : Int) = t by omega, Int.mul_comm]
theorem cntP_str (x z : Str) : cntP (.str x) z = if x = z then 1 else 0 := by
  unfold cntP
  rw [show outP (.str x) = [x] from rfl, List.count_singleton]
  by_cases e : x = z <;> simp [e]
theorem cntR_le {d : PyData} (h : rowD d = true) (z : Str) : 0 ≤ cntR d z ∧ cntR d z ≤ manyR d := by
  have h1 := (outR_get d h).1
  have h2 := List.count_le_length (a := z) (l := outR d)
  unfold cntR
  omega
theorem cnt_bits {d : PyData} (h : rowD d = true) (hw : wD d ≤ 2000) (hd : d.depth ≤ 60) (z : Str) : (cntR d z).natAbs < 2 ^ 6100 := by
  have h1 := cntR_le h z
  have h2 := many_bits h hw hd
  omega
end MC
namespace K03
open PySem PySem.Spec L2 MC
open PyProof.Rows hiding St
def spOf (m : Nat) (ok : PyData → Bool) (g : PyData → Str → Int) : Sp := fun vs H Q _ => ∃ x d z, vs = [x, .str z] ∧ DD H x d ∧ ok d = true ∧ d.depth < m ∧ d.depth ≤ 60 ∧ wD d ≤ 2000 ∧ ∀ H', Same H H' → Q (.int (g d z)) H'
theorem spOf_len {m : Nat} {ok : PyData → Bool} {g : PyData → Str → Int} : ∀ vs H Q E, spOf m ok g vs H Q E → vs.length = 2 := fun vs H Q E h => by
  obtain ⟨x, d, z, rfl, _⟩ := h
  rfl
theorem spOf_no {ok : PyData → Bool} {g : PyData → Str → Int} : ∀ vs H Q E, ¬ spOf 0 ok g vs H Q E := fun vs H Q E h => by
  obtain ⟨x, d, z, _, _, _, h0, _⟩ := h
  exact absurd h0 (Nat.not_lt_zero _)
section
variable {P : Program} {w : World} {K : PySem.W.Frag} {mg : Str → Option Value} {base : Heap}
variable {f_often_in f_part_often f_l_counted : Addr} {fd_often_in fd_part_often fd_l_counted : FuncData}
theorem part_often_step {m : Nat} (T : Txt K mg) (O_often_in : Own K mg "_often_in" s_often_in f_often_in fd_often_in ["row", "thing"]) (O_part_often : Own K mg "_part_often" s_part_often f_part_often fd_part_often ["part", "thing"]) (G_often_in : FnOk P w K mg base CX0 (m + 1) f_often_in fd_often_in ["row", "thing"] (spOf m rowD cntR)) :
    FnOk P w K mg base CX0 (m + 1 + 1) f_part_often fd_part_often ["part", "thing"] (spOf (m + 1) partD cntP) := by
  refine O_part_often.F.ok sc_part_often spOf_len (fun cdv A outer s H vs Q E hr h => ?_)
  obtain ⟨x, d, z, rfl, hd, hok, hdm, hdp, hwd, q⟩ := h
  refine ⟨_, (pss_cons (ps_if (pt_val (pe_callB (k_isi (K := K) rfl) (by rfl) T.n_isinstance (by decide +kernel) (pa_cons (pv 0) (pa_cons (pe_bltn (v := .ty "str") (by rfl) T.n_str (by decide +kernel) rfl) pa_nil))))
    (pss_one (ps_ret (pe_ifExp (pt_cmpR op_eq (pv 0) (pv 1) (nomark _)) pe_int pe_int)))
    pss_nil)
    (pss_cons (ps_asg (pv 0) (pg_tup rfl (pgs_cons (pg_name (i := 2) sc_part_often.nd rfl (Or.inl rfl)) (pgs_cons (pg_name (i := 3) sc_part_often.nd rfl (Or.inl rfl)) pgs_nil))))
    (pss_one (ps_ret (pe_op op_mulW (pe_call G_often_in (hr.mono (by omega)) rfl O_often_in.m O_often_in.F.kp O_often_in.b .nil pass0 (pa_cons (pv 2) (pa_cons (pv 1) pa_nil))) (pv 3)))))), ?_⟩
  refine ⟨_, rfl, _, _, _, _, _, rfl, .ty _, ty_of hd, kI_str, _, rfl, ?_⟩
  refine ite2 (fun c => ?_) (fun c => ?_)
  · rcases partD_cases hok with ⟨y, rfl, _⟩ | ⟨r, t, rfl, _⟩
    · cases hd
      have q := q H (Same.refl H)
      rw [cntP_str] at q
      refine ⟨_, rfl, _, rfl, rfl, _, rfl, ?_⟩
      by_cases e : y = z
      · subst e
        rw [if_pos rfl] at q
        refine ite2 (fun _ => q) (fun z => absurd (by simp) z)
      · rw [if_neg e] at q
        refine ite2 (fun z => absurd (of_decide_eq_true z) (fun u => e (by injection u))) (fun _ => q)
    · cases c
  rcases partD_cases hok with ⟨y, rfl, _⟩ | ⟨r, t, rfl, t1, t2, hn, hrow⟩
  · exact absurd rfl c
  cases hd with
  | @tup a xs _ ha hs =>
    match xs, hs with
    | [v1, v2], .cons h1 (.cons h2 .nil) =>
      cases h2
      have dp : r.depth < m ∧ r.depth ≤ 60 := by simp only [PyData.depth, PyData.depthAll] at hdm hdp; omega
      have wp : wD r ≤ 2000 := by simp only [wD, wDs] at hwd; omega
      refine ⟨_, rfl, a, _, rfl, SqT.of ha, rfl, _, _, rfl, _, _, rfl, rfl, ?_⟩
      refine ⟨_, rfl, _, rfl, v1, r, z, rfl, h1, hrow, dp.1, dp.2, wp, fun H' s' => ⟨_, rfl, _, _, rfl, rfl, wide_mul (cnt_bits hrow wp dp.2 z) (bits30 t1 t2) (by decide) (by decide) (by decide), ?_⟩⟩
      have q := q H' s'
      rw [cntP_tup t1] at q
      exact q
theorem often_in_step {m : Nat} (T : Txt K mg) (O_often_in : Own K mg "_often_in" s_often_in f_often_in fd_often_in ["row", "thing"]) (O_part_often : Own K mg "_part_often" s_part_often f_part_often fd_part_often ["part", "thing"]) (G_part_often : FnOk P w K mg base CX0 (m + 1) f_part_often fd_part_often ["part", "thing"] (spOf m partD cntP)) :
    FnOk P w K mg base CX0 (m + 1 + 1) f_often_in fd_often_in ["row", "thing"] (spOf (m + 1) rowD cntR) := by
  refine O_often_in.F.ok sc_often_in spOf_len (fun cdv A outer s H vs Q E hr h => ?_)
  obtain ⟨x, d, z, rfl, hd, hok, hdm, hdp, hwd, q⟩ := h
  refine ⟨_, (pss_one (ps_ret (pe_callB (k_sum (K := K) rfl rfl) (by rfl) T.n_sum (by decide +kernel) (pa_cons (pe_lc (own := [("part", 2)]) rfl sc_often_in.nd (k_seq (K := K) rfl (pv 0)) (blkOk_by (own := [("part", 2)]) (N := ["row", "thing", "part"]) (sc := defScope s_often_in) (by decide +kernel)) (fun _ _ _ _ _ => (pg_name (i := 2) sc_often_in.nd rfl (Or.inl rfl))) (fun _ _ _ _ _ => pts_nil) (fun _ _ _ _ _ => (pe_call G_part_often (hr.mono (by omega)) rfl O_part_often.m O_part_often.F.kp O_part_often.b .nil pass0 (pa_cons (pv 2) (pa_cons (pv 1) pa_nil))))) pa_nil)))), ?_⟩
  have k0 := rowD_is hok
  rw [rowD_elems k0] at hok
  obtain ⟨a, xs, rfl, hx, hxs⟩ := hd.seq k0
  have we := wD_elems d
  have de := depth_elems k0
  have ln := hxs.length
  have lw := len_wDs (elemsD d)
  refine ⟨_, rfl, lc_seqD (K := K) (xs := xs) hx (fun D i H' => Same H H' ∧ ∃ ns : List Int, H' D = some (.lst (ns.map V.int)) ∧ ns.length ≤ i ∧ ns.sum = cntPs ((elemsD d).take i) z) (fun D hD => ⟨same_new hD _, [], upd_same, Nat.le_refl _, rfl⟩) ?_ ?_ ?_⟩
  · rintro D i H' hD hi ⟨s1, _⟩
    exact hx.keep s1
  · rintro D i xv H2 hD hi ⟨s1, ns, hns, lns, ens⟩
    obtain ⟨dv, hdv, hdd⟩ := hxs.get hi
    have wv := wD_le hdv
    have dv1 := depth_le hdv
    have il := (List.getElem?_eq_some_iff.mp hi).1
    refine ⟨rfl, ?_⟩
    refine ⟨_, rfl, _, rfl, xv, dv, z, rfl, hdd.mono s1, partsD_get hok hdv, by omega, by omega, by omega, fun H3 s3 => ?_⟩
    refine ⟨ns.map V.int, s3 _ _ hns, ?_, same_mut (s1.trans s3) hD _, ns ++ [cntP dv z], ?_, ?_, ?_⟩
    · rw [List.length_map]; exact Nat.lt_of_le_of_lt (show ns.length ≤ 2000 by omega) (by decide)
    · rw [upd_same, List.map_append]; rfl
    · rw [List.length_append]; exact Nat.add_le_add_right lns 1
    · rw [cntPs_more hdv, List.sum_append, ens]; simp
  · rintro D H2 hD ⟨s1, ns, hns, lns, ens⟩
    have full : (elemsD d).take xs.length = elemsD d := List.take_of_length_le (by rw [ln]; exact Nat.le_refl _)
    rw [full] at ens
    refine ⟨D, ns, rfl, SqL.of hns, ?_⟩
    have q := q H2 s1
    rw [cntR_elems k0, ← ens] at q
    exact q
theorem often_all (T : Txt K mg) (O_often_in : Own K mg "_often_in" s_often_in f_often_in fd_often_in ["row", "thing"]) (O_part_often : Own K mg "_part_often" s_part_often f_part_often fd_part_often ["part", "thing"]) : ∀ m, FnOk P w K mg base CX0 (m + 1) f_often_in fd_often_in ["row", "thing"] (spOf m rowD cntR) ∧ FnOk P w K mg base CX0 (m + 1) f_part_often fd_part_often ["part", "thing"] (spOf m partD cntP)
  | 0 => ⟨⟨fun vs H Q E h => absurd h (spOf_no vs H Q E), fun A outer s H args us vs Q E _ _ _ _ h => absurd h (spOf_no vs H Q E)⟩, ⟨fun vs H Q E h => absurd h (spOf_no vs H Q E), fun A outer s H args us vs Q E _ _ _ _ h => absurd h (spOf_no vs H Q E)⟩⟩
  | m + 1 => ⟨often_in_step T O_often_in O_part_often (often_all T O_often_in O_part_often m).2, part_often_step T O_often_in O_part_often (often_all T O_often_in O_part_often m).1⟩
theorem counted_step {m : Nat} (T : Txt K mg) (O_l_counted : Own K mg "_law_counted" s_l_counted f_l_counted fd_l_counted ["_law_line", "_law_name"]) (G_l_counted : FnOk P w K mg base CX0 (m + 1) f_l_counted fd_l_counted ["_law_line", "_law_name"] (spOf m rowD cntR)) :
    FnOk P w K mg base CX0 (m + 1 + 1) f_l_counted fd_l_counted ["_law_line", "_law_name"] (spOf (m + 1) rowD cntR) := by
  refine O_l_counted.F.ok sc_l_counted spOf_len (fun cdv A outer s H vs Q E hr h => ?_)
  obtain ⟨x, d, z, rfl, hd, hrow, hdm, hdp, hwd, q⟩ := h
  refine ⟨_, (pss_cons (ps_set (i := 2) sc_l_counted.nd rfl (Or.inl rfl) pe_int)
    (pss_cons (ps_for PassesOwn.never rfl (k_seq (K := K) rfl (pv 0)) (pg_name (i := 3) sc_l_counted.nd rfl (Or.inl rfl))
    (pss_one (ps_if (pt_val (pe_callB (k_isi (K := K) rfl) (by rfl) T.n_isinstance (by decide +kernel) (pa_cons (pv 3) (pa_cons (pe_bltn (v := .ty "str") (by rfl) T.n_str (by decide +kernel) rfl) pa_nil))))
    (pss_one (ps_set (i := 2) sc_l_counted.nd rfl (Or.inl rfl) (pe_op op_add (pv 2) (pe_callTy call_int1 (by rfl) T.n_int (by decide +kernel) (pa_cons (pe_cmpR op_eq (pv 3) (pv 1) (nomark _)) pa_nil)))))
    (pss_one (ps_set (i := 2) sc_l_counted.nd rfl (Or.inl rfl) (pe_op op_add (pv 2) (pe_op op_mulW (pe_ix (k_ix_tup (K := K) rfl) (pv 3) pe_int (fun _ _ => rfl)) (pe_call G_l_counted (hr.mono (by omega)) rfl O_l_counted.m O_l_counted.F.kp O_l_counted.b .nil pass0 (pa_cons (pe_ix (k_ix_tup (K := K) rfl) (pv 3) pe_int (fun _ _ => rfl)) (pa_cons (pv 1) pa_nil))))))))))
    (pss_one (ps_ret (pv 2))))), ?_⟩
  have k0 := rowD_is hrow
  rw [rowD_elems k0] at hrow
  obtain ⟨a, xs, rfl, hx, hxs⟩ := hd.seq k0
  have we := wD_elems d
  have de := depth_elems k0
  have ln := hxs.length
  refine ⟨_, rfl, for_seq (xs := xs) hx (fun i σ H' => ∃ (s3 : Option V), σ = [some (.ref a), some (.str z), some (.int (cntPs ((elemsD d).take i) z)), s3] ∧ Same H H') ⟨_, rfl, Same.refl _⟩ ?_ ?_ ?_⟩
  · rintro i σ' H' hi ⟨s3, _, s1⟩
    exact hx.keep s1
  · rintro i xv σ H2 hi ⟨s3, rfl, s1⟩
    obtain ⟨dv, hdv, hdd⟩ := hxs.get hi
    have wv := wD_le hdv
    have dv1 := depth_le hdv
    have hdd2 := hdd.mono s1
    have pk := partsD_get hrow hdv
    refine ⟨_, rfl, _, _, _, _, _, rfl, .ty _, ty_of hdd2, kI_str, _, rfl, ?_⟩
    refine ite2 (fun c1 => ?_) (fun c1 => ?_)
    · rcases partD_cases pk with ⟨y, rfl, _⟩ | ⟨r, t, rfl, _⟩
      · cases hdd2
        refine ⟨_, rfl, _, rfl, _, rfl, rfl, .inr ⟨_, rfl, _, _, rfl, rfl, some (.str y), ?_, s1⟩⟩
        rw [cntPs_more hdv, cntP_str]
        by_cases e : y = z
        · subst e; simp
        · simp [e]
      · cases c1
    · rcases partD_cases pk with ⟨y, rfl, _⟩ | ⟨r, t, rfl, t1, t2, hn, hrr⟩
      · exact absurd rfl c1
      have dp : r.depth < m ∧ r.depth ≤ 60 := by simp only [PyData.depth, PyData.depthAll] at dv1; omega
      have wp : wD r ≤ 2000 := by simp only [wD, wDs] at wv; omega
      cases hdd2 with
      | @tup ap ys _ hap hys =>
        match ys, hys with
        | [v1, v2], .cons h1 (.cons h2 .nil) =>
          cases h2
          refine ⟨_, rfl, _, rfl, _, _, _, _, rfl, rfl, SqT.of hap, atI_nat (j := 1) rfl, _, rfl, _, _, _, _, rfl, rfl, SqT.of hap, atI_nat (j := 0) rfl, _, rfl, v1, r, z, rfl, h1, hrr, dp.1, dp.2, wp, fun H3 s3 => ?_⟩
          refine ⟨_, _, rfl, rfl, wide_mul (bits30 t1 t2) (cnt_bits hrr wp dp.2 z) (by decide) (by decide) (by decide), _, _, rfl, rfl, some (.ref ap), ?_, s1.trans s3⟩
          rw [cntPs_more hdv, cntP_tup t1, Int.mul_comm]
          rfl
  · rintro σ H2 ⟨s3, rfl, s1⟩
    have full : (elemsD d).take xs.length = elemsD d := List.take_of_length_le (by rw [ln]; exact Nat.le_refl _)
    rw [full]
    have q := q H2 s1
    rw [cntR_elems k0] at q
    exact ⟨_, rfl, q⟩
theorem counted_all (T : Txt K mg) (O_l_counted : Own K mg "_law_counted" s_l_counted f_l_counted fd_l_counted ["_law_line", "_law_name"]) : ∀ m, FnOk P w K mg base CX0 (m + 1) f_l_counted fd_l_counted ["_law_line", "_law_name"] (spOf m rowD cntR)
  | 0 => ⟨fun vs H Q E h => absurd h (spOf_no vs H Q E), fun A outer s H args us vs Q E _ _ _ _ h => absurd h (spOf_no vs H Q E)⟩
  | m + 1 => counted_step T O_l_counted (counted_all T O_l_counted m)
end
end K03

set_option Elab.async false
set_option linter.all false
set_option maxRecDepth 100000
set_option maxHeartbeats 4000000
set_option exponentiation.threshold 20000
namespace MC
open PySem PySem.Spec L2
theorem divp_of {i j : Int} (hj : 0 < j) (hb : j.natAbs < 2 ^ 6100) : CDivP i j := ⟨hj, PyProof.noPylong_of_log2 (Nat.lt_of_lt_of_le (PySem.Flt.log2_lt_of (by decide) hb) (by decide))⟩
/-- a cut of a list or a tuple -/
def rSlQ (K : PySem.W.Frag) : V → Option Int → Option Int → Hp → VK → Prop := fun x lo hi H Q => rSlL K x lo hi H Q ∨ rSlA K x lo hi H Q
theorem k_sl_seq {X : Cx} {K : PySem.W.Frag} (hK : X.K = K) : SlR X (rSlQ K) := by subst hK; exact sl_list.or sl_tupA
theorem cut_front {K : PySem.W.Frag} {H : Hp} {a : Addr} {xs : List V} {ds : List PyData} {k : Nat} {Q : VK} (hx : SqX H a xs) (hd : DDs H xs ds)
    (q : ∀ b d H', Same H H' → DD H' (.ref b) d → dSeq d = true → elemsD d = ds.take k → Q (.ref b) H') : rSlQ K (.ref a) none (some (k : Int)) H Q := by
  have ec : cutV xs none (some (k : Int)) = xs.take k := by
    unfold cutV
    rw [HT.sIx_none, HT.sIx_nat]
    simp only [Nat.sub_zero, List.drop_zero]
    by_cases h : k ≤ xs.length
    · rw [Nat.min_eq_left h]
    · rw [Nat.min_eq_right (by omega), List.take_of_length_le (Nat.le_refl _), List.take_of_length_le (by omega)]
  rcases hx with h | h
  · refine .inl ⟨a, xs, rfl, SqL.of h, fun p hp => ?_⟩
    rw [ec]
    have s := same_new hp (.lst (xs.take k))
    exact q p (.list (ds.take k)) _ s (.lst upd_same ((hd.take k).mono s)) rfl rfl
  · refine .inr ⟨a, xs, rfl, SqT.of h, fun z => ?_, fun _ p hp => ?_⟩
    · have z2 := z.2
      rw [HT.sIx_nat] at z2
      have e : ds.take k = ds := List.take_of_length_le (by rw [← hd.length]; omega)
      exact q a (.tuple ds) H (Same.refl _) (.tup h hd) rfl e.symm
    · rw [ec]
      have s := same_new hp (.tup (xs.take k))
      exact q p (.tuple (ds.take k)) _ s (.tup upd_same ((hd.take k).mono s)) rfl rfl
theorem seq_bounds {d : PyData} {xs : List PyData} {k : Nat} (hs : dSeq d = true) (e : elemsD d = xs.take k) : d.depth ≤ PyData.depthAll xs + 1 ∧ wD d ≤ wDs xs + 1 := by
  have h1 := depth_elems hs
  have h2 : wD d = 1 + wDs (elemsD d) := by cases d <;> first | (simp only [elemsD, wD]; done) | cases hs
  rw [e] at h1 h2
  have h3 := depthAll_append (xs.take k) (xs.drop k)
  have h4 := wDs_append (xs.take k) (xs.drop k)
  rw [List.take_append_drop] at h3 h4
  omega
end MC
namespace K03
open PySem PySem.Spec L2 MC
open PyProof.Rows hiding St
def spPwE (m : Nat) : Sp := fun vs H Q _ => ∃ (x : V) (d : PyData) (p : Int), vs = [x, .int p] ∧ DD H x d ∧ rowD d = true ∧ d.depth ≤ m ∧ d.depth ≤ 60 ∧ wD d ≤ 2000 ∧ 0 ≤ p ∧ p ≤ manyR d ∧
  ∀ H' a (i : Nat) (rest : Int), Same H H' → H' a = some (.tup [.int (i : Nat), .int rest]) → 0 ≤ rest → manyPs ((elemsD d).take i) + rest = p → (∀ part, (elemsD d)[i]? = some part → rest < manyP part) → (i = (elemsD d).length → rest = 0) → Q (.ref a) H'
section
variable {P : Program} {w : World} {K : PySem.W.Frag} {mg : Str → Option Value} {base : Heap}
variable {f_part_asks f_part_with : Addr} {fd_part_asks fd_part_with : FuncData}
theorem ok_part_withE {m : Nat} (T : Txt K mg) (O_part_asks : Own K mg "_part_asks" s_part_asks f_part_asks fd_part_asks ["part"]) (O_part_with : Own K mg "_part_with" s_part_with f_part_with fd_part_with ["row", "place"]) (G_part_asks : FnOk P w K mg base CX0 (m + 1) f_part_asks fd_part_asks ["part"] (spCnt m partD manyP)) :
    FnOk P w K mg base CX0 (m + 1 + 1) f_part_with fd_part_with ["row", "place"] (spPwE m) := by
  refine O_part_with.F.ok sc_part_with (fun vs H Q E h => by obtain ⟨x, d, p, rfl, _⟩ := h; rfl) (fun cdv A outer s H vs Q E hr h => ?_)
  obtain ⟨x, d, p, rfl, hd, hrow, hdm, hdp, hwd, p0, pm, q⟩ := h
  refine ⟨_, (pss_cons (ps_for PassesOwn.never rfl (k_enX (K := K) rfl (by rfl) T.n_enumerate (pa_cons (pv 0) pa_nil)) (pg_tup rfl (pgs_cons (pg_name (i := 2) sc_part_with.nd rfl (Or.inl rfl)) (pgs_cons (pg_name (i := 3) sc_part_with.nd rfl (Or.inl rfl)) pgs_nil)))
    (pss_cons (ps_set (i := 4) sc_part_with.nd rfl (Or.inl rfl) (pe_call G_part_asks (hr.mono (by omega)) rfl O_part_asks.m O_part_asks.F.kp O_part_asks.b .nil pass0 (pa_cons (pv 3) pa_nil)))
    (pss_cons (ps_if (pt_cmpR op_lt (pv 1) (pv 4) (nomark _))
    (pss_one (ps_ret (pe_tup (pa_cons (pv 2) (pa_cons (pv 1) pa_nil)))))
    pss_nil)
    (pss_one (ps_aug (i := 1) sc_part_with.nd rfl (Or.inl rfl) (pv 4) ip_sub)))))
    (pss_one (ps_ret (pe_tup (pa_cons (pe_callB (k_len_seq (K := K) rfl) (by rfl) T.n_len (by decide +kernel) (pa_cons (pv 0) pa_nil)) (pa_cons (pv 1) pa_nil)))))), ?_⟩
  have k0 := rowD_is hrow
  rw [rowD_elems k0] at hrow
  obtain ⟨a, xs, rfl, hx, hxs⟩ := hd.seq k0
  have we := wD_elems d
  have de := depth_elems k0
  have ln := hxs.length
  rw [manyR_elems k0] at pm
  refine ⟨_, rfl, for_enX (K := K) (xs := xs) hx (fun i σ H' => ∃ (c : Int) (s2 s3 s4 : Option V), σ = [some (.ref a), some (.int c), s2, s3, s4] ∧ Same H H' ∧ 0 ≤ c ∧ manyPs ((elemsD d).take i) + c = p)
    ⟨p, _, _, _, rfl, Same.refl _, p0, by simp [manyPs]⟩ ?_ ?_ ?_⟩
  · rintro i σ' H' hi ⟨c, s2, s3, s4, _, s1, _⟩
    rcases hx with hx | hx
    · exact (s1 _ _ hx).trans hx.symm
    · exact (s1 _ _ hx).trans hx.symm
  · rintro i xv tp σ H2 hi ⟨c, s2, s3, s4, rfl, s1, c0, ce⟩ htp
    obtain ⟨dv, hdv, hdd⟩ := hxs.get hi
    have wv := wD_le hdv
    have dv1 := depth_le hdv
    have st := same_new htp (.tup [.int (i : Nat), xv])
    refine ⟨tp, _, rfl, SqT.of upd_same, rfl, _, _, rfl, _, _, rfl, rfl, ?_⟩
    refine ⟨_, rfl, xv, dv, rfl, (hdd.mono s1).mono st, partsD_get hrow hdv, by omega, by omega, by omega, fun H3 s3 => ?_⟩
    have sa := s1.trans (st.trans s3)
    refine ⟨_, rfl, _, rfl, _, _, rfl, rfl, _, rfl, ?_⟩
    refine ite2 (fun c1 => ?_) (fun c1 => ?_)
    · have lt : c < manyP dv := by simpa using c1
      refine ⟨_, rfl, _, rfl, (by show 2 ≤ sizeLine; decide), fun r hr => q _ r i c (sa.trans (same_new hr _)) upd_same c0 ce (fun part hp => ?_) fun z => ?_⟩
      · rw [hdv] at hp; rw [← Option.some.inj hp]; exact lt
      · rw [z, List.getElem?_eq_none (Nat.le_refl _)] at hdv; cases hdv
    · have ge : ¬ c < manyP dv := by simpa using c1
      refine ⟨_, rfl, _, rfl, _, _, rfl, rfl, ?_⟩
      exact ⟨c - manyP dv, _, _, _, rfl, sa, by omega, by rw [take_more hdv, manyPs_append]; simp only [manyPs]; omega⟩
  · rintro σ H2 ⟨c, s2, s3, s4, rfl, s1, c0, ce⟩
    have full : (elemsD d).take xs.length = elemsD d := List.take_of_length_le (by rw [ln]; exact Nat.le_refl _)
    rw [full] at ce
    have cz : c = 0 := by omega
    subst cz
    have len : SqL K H2 a xs ∨ SqT K H2 a xs := by
      rcases hx with hx | hx
      · exact .inl (SqL.of (s1 _ _ hx))
      · exact .inr (SqT.of (s1 _ _ hx))
    refine ⟨_, rfl, a, xs, rfl, len, _, rfl, (by show 2 ≤ sizeLine; decide), fun r hr => q _ r xs.length 0 (s1.trans (same_new hr _)) upd_same (Int.le_refl 0) (by rw [full]; omega) (fun part hp => ?_) fun _ => rfl⟩
    rw [ln, List.getElem?_eq_none (Nat.le_refl _)] at hp
    cases hp
end
end K03

set_option Elab.async false
set_option linter.all false
set_option maxRecDepth 100000
set_option maxHeartbeats 4000000
set_option exponentiation.threshold 20000
namespace MC
open PySem PySem.Spec L2
def ahd (d : PyData) (z : Str) (p : Int) : Int := (aheadL (outR d) z p.toNat : Nat)
theorem out_split (xs : List PyData) (i : Nat) : outPs xs = outPs (xs.take i) ++ outPs (xs.drop i) := by rw [← outPs_append, List.take_append_drop]
theorem ahd_split {d : PyData} (k : dSeq d = true) (hr : partsD (elemsD d) = true) {i : Nat} {p rest : Int} (z : Str) (e : manyPs ((elemsD d).take i) + rest = p) (r0 : 0 ≤ rest) :
    ahd d z p = cntPs ((elemsD d).take i) z + (aheadL (outPs ((elemsD d).drop i)) z rest.toNat : Nat) := by
  have hl := (outPs_get _ (parts_split hr i).1).1
  unfold ahd cntPs
  rw [outR_elems k, out_split _ i, aheadL_append, aheadL_all (by omega), show p.toNat - (outPs ((elemsD d).take i)).length = rest.toNat by omega]
  omega
theorem aheadL_zero (l : List Str) (z : Str) : aheadL l z 0 = 0 := by simp [aheadL]
theorem ahd_more {d : PyData} (k : dSeq d = true) (hr : partsD (elemsD d) = true) {i : Nat} {p rest : Int} (z : Str) (e : manyPs ((elemsD d).take i) + rest = p) (r0 : 0 < rest)
    {r : PyData} {t : Int} (hi : (elemsD d)[i]? = some (.tuple [r, .int t])) (lt : rest < manyP (.tuple [r, .int t])) :
    ahd d z p = cntPs ((elemsD d).take i) z + rest / manyR r * cntR r z + ahd r z (rest % manyR r) := by
  rw [ahd_split k hr z e (by omega), drop_at hi]
  have pk := partsD_get hr hi
  simp only [partD, timesOk, Bool.and_eq_true, decide_eq_true_eq, Bool.not_eq_true'] at pk
  obtain ⟨⟨⟨t1, t2⟩, hn⟩, hrr⟩ := pk
  have m1 := (manyR_bound r hrr).2.1 hn
  have hl := (outR_get r hrr).1
  have lt' : rest < manyR r * t := lt
  have tt : ((t.toNat : Nat) : Int) = t := by omega
  have le : rest.toNat ≤ t.toNat * (outR r).length := by
    have : ((t.toNat * (outR r).length : Nat) : Int) = manyR r * t := by rw [Int.natCast_mul, hl, tt, Int.mul_comm]
    omega
  have lz : (List.replicate t.toNat (outR r)).flatten.length = t.toNat * (outR r).length := rep_len _ _
  rw [show outPs (.tuple [r, .int t] :: (elemsD d).drop (i + 1)) = (List.replicate t.toNat (outR r)).flatten ++ outPs ((elemsD d).drop (i + 1)) from rfl, aheadL_append,
    show rest.toNat - (List.replicate t.toNat (outR r)).flatten.length = 0 by omega, aheadL_zero, aheadL_rep (by omega) le]
  unfold ahd cntR
  have e1 : ((rest.toNat / (outR r).length : Nat) : Int) = rest / manyR r := by rw [Int.natCast_ediv, hl, show ((rest.toNat : Nat) : Int) = rest by omega]
  have e2 : rest.toNat % (outR r).length = (rest % manyR r).toNat := by
    have : ((rest.toNat % (outR r).length : Nat) : Int) = rest % manyR r := by rw [Int.natCast_emod, hl, show ((rest.toNat : Nat) : Int) = rest by omega]
    omega
  rw [Nat.add_zero, Int.natCast_add, Int.natCast_mul, e1, e2]
  omega
end MC
namespace K03
open PySem PySem.Spec L2 MC
open PyProof.Rows hiding St
def spAh (m : Nat) : Sp := fun vs H Q _ => ∃ (x : V) (d : PyData) (z : Str) (p : Int), vs = [x, .str z, .int p] ∧ DD H x d ∧ rowD d = true ∧ d.depth < m ∧ d.depth ≤ 11 ∧ wD d ≤ 1000 ∧ 0 ≤ p ∧ p ≤ manyR d ∧ ∀ H', Same H H' → Q (.int (ahd d z p)) H'
section
variable {P : Program} {w : World} {K : PySem.W.Frag} {mg : Str → Option Value} {base : Heap}
variable {f_count_asks f_part_with f_often_in f_part_often f_often_ahead f_place_of : Addr} {fd_count_asks fd_part_with fd_often_in fd_part_often fd_often_ahead fd_place_of : FuncData}
theorem ahead_none : FnOk P w K mg base CX0 15 f_often_ahead fd_often_ahead ["row", "thing", "place"] (spAh 0) := by
  have no : ∀ vs H Q E, ¬ spAh 0 vs H Q E := fun vs H Q E h => by
    obtain ⟨x, d, z, p, _, _, _, h0, _⟩ := h
    exact absurd h0 (Nat.not_lt_zero _)
  exact ⟨fun vs H Q E h => absurd h (no vs H Q E), fun A outer s H args us vs Q E _ _ _ _ h => absurd h (no vs H Q E)⟩
theorem ahead_step {m : Nat} (T : Txt K mg) (O_count_asks : Own K mg "count_asks" s_count_asks f_count_asks fd_count_asks ["row"]) (O_part_with : Own K mg "_part_with" s_part_with f_part_with fd_part_with ["row", "place"]) (O_often_in : Own K mg "_often_in" s_often_in f_often_in fd_often_in ["row", "thing"]) (O_often_ahead : Own K mg "_often_ahead" s_often_ahead f_often_ahead fd_often_ahead ["row", "thing", "place"]) (G_count_asks : FnOk P w K mg base CX0 14 f_count_asks fd_count_asks ["row"] (spCnt 13 rowD manyR)) (G_part_with : FnOk P w K mg base CX0 14 f_part_with fd_part_with ["row", "place"] (spPwE 12))
    (G_often_in : FnOk P w K mg base CX0 14 f_often_in fd_often_in ["row", "thing"] (spOf 13 rowD cntR)) (G_often_ahead : FnOk P w K mg base CX0 (m + 15) f_often_ahead fd_often_ahead ["row", "thing", "place"] (spAh m)) :
    FnOk P w K mg base CX0 (m + 15 + 1) f_often_ahead fd_often_ahead ["row", "thing", "place"] (spAh (m + 1)) := by
  refine O_often_ahead.F.ok sc_often_ahead (fun vs H Q E h => by obtain ⟨x, d, z, p, rfl, _⟩ := h; rfl) (fun cdv A outer s H vs Q E hr h => ?_)
  obtain ⟨x, d, z, p, rfl, hd, hrow, hdm, hdp, hwd, p0, pm, q⟩ := h
  refine ⟨_, (pss_cons (ps_asg (pe_call G_part_with (hr.mono (by omega)) rfl O_part_with.m O_part_with.F.kp O_part_with.b .nil pass0 (pa_cons (pv 0) (pa_cons (pv 2) pa_nil))) (pg_tup rfl (pgs_cons (pg_name (i := 3) sc_often_ahead.nd rfl (Or.inl rfl)) (pgs_cons (pg_name (i := 4) sc_often_ahead.nd rfl (Or.inl rfl)) pgs_nil))))
    (pss_cons (ps_set (i := 5) sc_often_ahead.nd rfl (Or.inl rfl) (pe_call G_often_in (hr.mono (by omega)) rfl O_often_in.m O_often_in.F.kp O_often_in.b .nil pass0 (pa_cons (pe_slice (k_sl_seq (K := K) rfl) (pv 0) po_none (po_some (pv 3))) (pa_cons (pv 1) pa_nil))))
    (pss_cons (ps_if (pt_cmpR op_eq (pv 4) pe_int (nomark _))
    (pss_one (ps_ret (pv 5)))
    pss_nil)
    (pss_cons (ps_set (i := 6) sc_often_ahead.nd rfl (Or.inl rfl) (pe_ix (k_ix_tup (K := K) rfl) (pe_ix (k_ix_seq (K := K) rfl) (pv 0) (pv 3) (fun _ _ => rfl)) pe_int (fun _ _ => rfl)))
    (pss_cons (ps_asg (pe_callB call_divmodW (by rfl) T.n_divmod (by decide +kernel) (pa_cons (pv 4) (pa_cons (pe_call G_count_asks (hr.mono (by omega)) rfl O_count_asks.m O_count_asks.F.kp O_count_asks.b .nil pass0 (pa_cons (pv 6) pa_nil)) pa_nil))) (pg_tup rfl (pgs_cons (pg_name (i := 7) sc_often_ahead.nd rfl (Or.inl rfl)) (pgs_cons (pg_name (i := 8) sc_often_ahead.nd rfl (Or.inl rfl)) pgs_nil))))
    (pss_one (ps_ret (pe_op op_add (pe_op op_add (pv 5) (pe_op op_mulW (pv 7) (pe_call G_often_in (hr.mono (by omega)) rfl O_often_in.m O_often_in.F.kp O_often_in.b .nil pass0 (pa_cons (pv 6) (pa_cons (pv 1) pa_nil))))) (pe_call G_often_ahead (hr.mono (by omega)) rfl O_often_ahead.m O_often_ahead.F.kp O_often_ahead.b .nil pass0 (pa_cons (pv 6) (pa_cons (pv 1) (pa_cons (pv 8) pa_nil)))))))))))), ?_⟩
  refine ⟨_, rfl, _, rfl, x, d, p, rfl, hd, hrow, by omega, by omega, by omega, p0, pm, fun H1 a i rest s1 ha r0 re rl rz => ?_⟩
  refine ⟨a, _, rfl, SqT.of ha, rfl, _, _, rfl, _, _, rfl, rfl, ?_⟩
  have k0 := rowD_is hrow
  have hrow2 := hrow
  rw [rowD_elems k0] at hrow2
  obtain ⟨b, xs, rfl, hx, hxs⟩ := (hd.mono s1).seq k0
  have we := wD_elems d
  have de := depth_elems k0
  have ln := hxs.length
  -- many
  refine ⟨_, rfl, _, rfl, _, rfl, cut_front hx hxs fun c d' H2 s2 hd' ks' ke' => ?_⟩
  obtain ⟨b1, b2⟩ := seq_bounds ks' ke'
  have hrow' : rowD d' = true := by rw [rowD_elems ks', ke']; exact (parts_split hrow2 i).1
  have cz : cntR d' z = cntPs ((elemsD d).take i) z := by rw [cntR_elems ks', ke']
  refine ⟨_, rfl, .ref c, d', z, rfl, hd', hrow', by omega, by omega, by omega, fun H3 s3 => ?_⟩
  rw [cz]
  refine ⟨_, rfl, rfl, _, rfl, ?_⟩
  have s13 := s1.trans (s2.trans s3)
  refine ite2 (fun c1 => ?_) (fun c1 => ?_)
  · have rz0 : rest = 0 := by simpa using c1
    have q := q H3 s13
    rw [ahd_split k0 hrow2 z re r0, rz0, show (0 : Int).toNat = 0 from rfl, aheadL_zero] at q
    refine ⟨_, rfl, ?_⟩
    rw [show cntPs ((elemsD d).take i) z + ((0 : Nat) : Int) = cntPs ((elemsD d).take i) z from Int.add_zero _] at q
    exact q
  have rp : 0 < rest := by
    have : ¬ rest = 0 := by simpa using c1
    omega
  -- within an again
  obtain ⟨part, hi⟩ : ∃ part, (elemsD d)[i]? = some part := by
    cases e : (elemsD d)[i]? with
    | some part => exact ⟨part, rfl⟩
    | none =>
      exfalso
      have il := List.getElem?_eq_none_iff.mp e
      have ea : (elemsD d).take i = elemsD d := List.take_of_length_le il
      rw [ea, ← manyR_elems k0] at re
      omega
  have lt := rl part hi
  have wv := wD_le hi
  have dv := depth_le hi
  rcases partD_cases (partsD_get hrow2 hi) with ⟨y, rfl, _⟩ | ⟨r, t, rfl, t1, t2, hn, hrr⟩
  · exfalso
    have : manyP (.str y) = 1 := rfl
    omega
  have il := (List.getElem?_eq_some_iff.mp hi).1
  have hxi := List.getElem?_eq_getElem (l := xs) (i := i) (by omega)
  obtain ⟨part', hp', hpd⟩ := hxs.get hxi
  rw [hi] at hp'
  cases hp'
  generalize xs[i] = xi at hxi hpd
  cases hpd with
  | @tup ap ys _ hap hys =>
    match ys, hys with
    | [v1, v2], .cons h1 (.cons h2 .nil) =>
      have dp : r.depth < m ∧ r.depth ≤ 11 := by simp only [PyData.depth, PyData.depthAll] at dv; omega
      have wp : wD r ≤ 1000 := by simp only [wD, wDs] at wv; omega
      have mb := (manyR_bound r hrr).2.1 hn
      have mbits := many_bits hrr (by omega : wD r ≤ 2000) (by omega)
      have s23 := s2.trans s3
      have hx3 : SqX H3 b xs := hx.mono s23
      have h13 := h1.mono s23
      refine ⟨_, rfl, _, rfl, rd_ix hx3 hxi ⟨_, _, _, _, rfl, rfl, SqT.of (s23 _ _ hap), atI_nat (j := 0) rfl, ?_⟩⟩
      refine ⟨_, rfl, _, rfl, v1, r, rfl, h13, hrr, by omega, by omega, by omega, fun H4 s4 => ⟨_, _, rfl, divp_of (by omega) mbits, fun tp htp => ?_⟩⟩
      have st := same_new htp (.tup [.int (rest / manyR r), .int (rest % manyR r)])
      refine ⟨tp, _, rfl, SqT.of upd_same, rfl, _, _, rfl, _, _, rfl, rfl, ?_⟩
      have h15 := h13.mono (s4.trans st)
      have rbits : (rest / manyR r).natAbs < 2 ^ 6100 := by
        have hb := many_bits hrow (by omega : wD d ≤ 2000) (by omega)
        have h0 := Int.ediv_nonneg r0 (show 0 ≤ manyR r by omega)
        have h2' := Int.ediv_le_self (a := rest) (manyR r) r0
        have h3' : rest ≤ manyR d := by
          have := (many_take hrow2 i).1
          omega
        omega
      refine ⟨_, rfl, _, rfl, _, rfl, _, rfl, v1, r, z, rfl, h15, hrr, by omega, by omega, by omega, fun H5 s5 => ⟨_, _, rfl, rfl, wide_mul rbits (cnt_bits hrr (by omega) (by omega) z) (by decide) (by decide) (by decide), _, _, rfl, rfl, ?_⟩⟩
      refine ⟨_, rfl, _, rfl, _, rfl, v1, r, z, _, rfl, h15.mono s5, hrr, dp.1, dp.2, wp, Int.emod_nonneg _ (by omega), Int.le_of_lt (Int.emod_lt_of_pos _ (by omega)), fun H6 s6 => ⟨_, _, rfl, rfl, ?_⟩⟩
      have q := q H6 (s13.trans (s4.trans (st.trans (s5.trans s6))))
      rw [ahd_more k0 hrow2 z re rp hi lt] at q
      exact q
theorem ahead_all (T : Txt K mg) (O_count_asks : Own K mg "count_asks" s_count_asks f_count_asks fd_count_asks ["row"]) (O_part_with : Own K mg "_part_with" s_part_with f_part_with fd_part_with ["row", "place"]) (O_often_in : Own K mg "_often_in" s_often_in f_often_in fd_often_in ["row", "thing"]) (O_often_ahead : Own K mg "_often_ahead" s_often_ahead f_often_ahead fd_often_ahead ["row", "thing", "place"]) (G_count_asks : FnOk P w K mg base CX0 14 f_count_asks fd_count_asks ["row"] (spCnt 13 rowD manyR)) (G_part_with : FnOk P w K mg base CX0 14 f_part_with fd_part_with ["row", "place"] (spPwE 12))
    (G_often_in : FnOk P w K mg base CX0 14 f_often_in fd_often_in ["row", "thing"] (spOf 13 rowD cntR)) : ∀ m, FnOk P w K mg base CX0 (m + 15) f_often_ahead fd_often_ahead ["row", "thing", "place"] (spAh m)
  | 0 => ahead_none
  | m + 1 => ahead_step T O_count_asks O_part_with O_often_in O_often_ahead G_count_asks G_part_with G_often_in (ahead_all T O_count_asks O_part_with O_often_in O_often_ahead G_count_asks G_part_with G_often_in m)
end
end K03

set_option Elab.async false
set_option linter.all false
set_option maxRecDepth 100000
set_option maxHeartbeats 4000000
set_option exponentiation.threshold 20000
namespace MC
open PySem PySem.Spec L2
theorem nth_at {d : PyData} (k : dSeq d = true) (hr : partsD (elemsD d) = true) {i : Nat} {part : PyData} (hi : (elemsD d)[i]? = some part) {z : Str} {n c : Int} (e : cntPs ((elemsD d).take i) z + c = n) (c0 : 0 ≤ c)
    {q : Nat} (h : IsNth (outP part) z c.toNat q) : IsNth (outR d) z n.toNat ((manyPs ((elemsD d).take i)).toNat + q) := by
  have hl := (outPs_get _ (parts_split hr i).1).1
  have a := isNth_after (a := outPs ((elemsD d).take i)) (isNth_before (b := outPs ((elemsD d).drop (i + 1))) h)
  rw [outR_elems k, out_split _ i, drop_at hi]
  have e1 : n.toNat = (outPs ((elemsD d).take i)).count z + c.toNat := by unfold cntPs at e; omega
  have e2 : (manyPs ((elemsD d).take i)).toNat = (outPs ((elemsD d).take i)).length := by omega
  rw [e1, e2]
  exact a
theorem cntPs_all {xs : List PyData} (i : Nat) (z : Str) : cntPs (xs.take i) z ≤ cntPs xs z := by
  unfold cntPs
  rw [out_split xs i, List.count_append]
  omega
end MC
namespace K03
open PySem PySem.Spec L2 MC
open PyProof.Rows hiding St
def spPo (m : Nat) : Sp := fun vs H Q _ => ∃ (x : V) (d : PyData) (z : Str) (n : Int), vs = [x, .str z, .int n] ∧ DD H x d ∧ rowD d = true ∧ d.depth < m ∧ d.depth ≤ 11 ∧ wD d ≤ 1000 ∧ 0 ≤ n ∧ n < cntR d z ∧
  ∀ H' (p : Nat), Same H H' → IsNth (outR d) z n.toNat p → Q (.int (p : Nat)) H'
section
variable {P : Program} {w : World} {K : PySem.W.Frag} {mg : Str → Option Value} {base : Heap}
variable {f_count_asks f_part_often f_often_in f_place_of : Addr} {fd_count_asks fd_part_often fd_often_in fd_place_of : FuncData}
theorem place_none : FnOk P w K mg base CX0 15 f_place_of fd_place_of ["row", "thing", "number"] (spPo 0) := by
  have no : ∀ vs H Q E, ¬ spPo 0 vs H Q E := fun vs H Q E h => by
    obtain ⟨x, d, z, n, _, _, _, h0, _⟩ := h
    exact absurd h0 (Nat.not_lt_zero _)
  exact ⟨fun vs H Q E h => absurd h (no vs H Q E), fun A outer s H args us vs Q E _ _ _ _ h => absurd h (no vs H Q E)⟩
theorem place_step {m : Nat} (T : Txt K mg) (O_count_asks : Own K mg "count_asks" s_count_asks f_count_asks fd_count_asks ["row"]) (O_part_often : Own K mg "_part_often" s_part_often f_part_often fd_part_often ["part", "thing"]) (O_often_in : Own K mg "_often_in" s_often_in f_often_in fd_often_in ["row", "thing"]) (O_place_of : Own K mg "_place_of" s_place_of f_place_of fd_place_of ["row", "thing", "number"]) (G_count_asks : FnOk P w K mg base CX0 14 f_count_asks fd_count_asks ["row"] (spCnt 13 rowD manyR))
    (G_part_often : FnOk P w K mg base CX0 14 f_part_often fd_part_often ["part", "thing"] (spOf 13 partD cntP)) (G_often_in : FnOk P w K mg base CX0 14 f_often_in fd_often_in ["row", "thing"] (spOf 13 rowD cntR))
    (G_place_of : FnOk P w K mg base CX0 (m + 15) f_place_of fd_place_of ["row", "thing", "number"] (spPo m)) : FnOk P w K mg base CX0 (m + 15 + 1) f_place_of fd_place_of ["row", "thing", "number"] (spPo (m + 1)) := by
  refine O_place_of.F.ok sc_place_of (fun vs H Q E h => by obtain ⟨x, d, z, n, rfl, _⟩ := h; rfl) (fun cdv A outer s H vs Q E hr h => ?_)
  obtain ⟨x, d, z, n, rfl, hd, hrow, hdm, hdp, hwd, n0, nm, q⟩ := h
  refine ⟨_, (pss_cons (ps_set (i := 3) sc_place_of.nd rfl (Or.inl rfl) pe_int)
    (pss_cons (ps_while PassesOwn.never (pt_cmpR op_ge (pv 2) (pe_call G_part_often (hr.mono (by omega)) rfl O_part_often.m O_part_often.F.kp O_part_often.b .nil pass0 (pa_cons (pe_ix (k_ix_seq (K := K) rfl) (pv 0) (pv 3) (fun _ _ => rfl)) (pa_cons (pv 1) pa_nil))) (nomark _))
    (pss_cons (ps_aug (i := 2) sc_place_of.nd rfl (Or.inl rfl) (pe_call G_part_often (hr.mono (by omega)) rfl O_part_often.m O_part_often.F.kp O_part_often.b .nil pass0 (pa_cons (pe_ix (k_ix_seq (K := K) rfl) (pv 0) (pv 3) (fun _ _ => rfl)) (pa_cons (pv 1) pa_nil))) ip_sub)
    (pss_one (ps_aug (i := 3) sc_place_of.nd rfl (Or.inl rfl) pe_int ip_add))))
    (pss_cons (ps_set (i := 4) sc_place_of.nd rfl (Or.inl rfl) (pe_call G_count_asks (hr.mono (by omega)) rfl O_count_asks.m O_count_asks.F.kp O_count_asks.b .nil pass0 (pa_cons (pe_slice (k_sl_seq (K := K) rfl) (pv 0) po_none (po_some (pv 3))) pa_nil)))
    (pss_cons (ps_if (pt_val (pe_callB (k_isi (K := K) rfl) (by rfl) T.n_isinstance (by decide +kernel) (pa_cons (pe_ix (k_ix_seq (K := K) rfl) (pv 0) (pv 3) (fun _ _ => rfl)) (pa_cons (pe_bltn (v := .ty "str") (by rfl) T.n_str (by decide +kernel) rfl) pa_nil))))
    (pss_one (ps_ret (pv 4)))
    pss_nil)
    (pss_cons (ps_set (i := 5) sc_place_of.nd rfl (Or.inl rfl) (pe_ix (k_ix_tup (K := K) rfl) (pe_ix (k_ix_seq (K := K) rfl) (pv 0) (pv 3) (fun _ _ => rfl)) pe_int (fun _ _ => rfl)))
    (pss_cons (ps_asg (pe_callB call_divmodW (by rfl) T.n_divmod (by decide +kernel) (pa_cons (pv 2) (pa_cons (pe_call G_often_in (hr.mono (by omega)) rfl O_often_in.m O_often_in.F.kp O_often_in.b .nil pass0 (pa_cons (pv 5) (pa_cons (pv 1) pa_nil))) pa_nil))) (pg_tup rfl (pgs_cons (pg_name (i := 6) sc_place_of.nd rfl (Or.inl rfl)) (pgs_cons (pg_name (i := 7) sc_place_of.nd rfl (Or.inl rfl)) pgs_nil))))
    (pss_one (ps_ret (pe_op op_add (pe_op op_add (pv 4) (pe_op op_mulW (pv 6) (pe_call G_count_asks (hr.mono (by omega)) rfl O_count_asks.m O_count_asks.F.kp O_count_asks.b .nil pass0 (pa_cons (pv 5) pa_nil)))) (pe_call G_place_of (hr.mono (by omega)) rfl O_place_of.m O_place_of.F.kp O_place_of.b .nil pass0 (pa_cons (pv 5) (pa_cons (pv 1) (pa_cons (pv 7) pa_nil))))))))))))), ?_⟩
  have k0 := rowD_is hrow
  have hrow2 := hrow
  rw [rowD_elems k0] at hrow2
  obtain ⟨b, xs, rfl, hx, hxs⟩ := hd.seq k0
  have we := wD_elems d
  have de := depth_elems k0
  have ln := hxs.length
  have nm2 : n < cntPs (elemsD d) z := by rw [← cntR_elems k0]; exact nm
  refine ⟨fun v σ H' => ∃ (i : Nat) (c : Int) (s4 s5 s6 s7 : Option V), v = (elemsD d).length - i ∧ σ = [some (.ref b), some (.str z), some (.int c), some (.int (i : Nat)), s4, s5, s6, s7] ∧ Same H H' ∧ 0 ≤ c ∧ cntPs ((elemsD d).take i) z + c = n ∧ i ≤ (elemsD d).length,
    ⟨_, 0, n, _, _, _, _, rfl, rfl, Same.refl _, n0, by simp [cntPs, outPs], Nat.zero_le _⟩, ?_⟩
  rintro v σ H1 ⟨i, c, s4, s5, s6, s7, rfl, rfl, s1, c0, ce, il⟩
  -- there is a part at i
  obtain ⟨part, hi⟩ : ∃ part, (elemsD d)[i]? = some part := by
    cases e : (elemsD d)[i]? with
    | some part => exact ⟨part, rfl⟩
    | none =>
      exfalso
      have ea : (elemsD d).take i = elemsD d := List.take_of_length_le (List.getElem?_eq_none_iff.mp e)
      rw [ea] at ce
      omega
  have il2 := (List.getElem?_eq_some_iff.mp hi).1
  have hxi := List.getElem?_eq_getElem (l := xs) (i := i) (by omega)
  obtain ⟨part', hp', hpd⟩ := hxs.get hxi
  rw [hi] at hp'
  cases hp'
  have wv := wD_le hi
  have dv := depth_le hi
  have pk := partsD_get hrow2 hi
  have tk := cntPs_more hi z
  refine ⟨_, rfl, _, rfl, _, rfl, rd_ix (hx.mono s1) hxi ⟨_, rfl, xs[i], part, z, rfl, hpd.mono s1, pk, by omega, by omega, by omega, fun H2 s2 => ⟨_, _, rfl, rfl, _, rfl, ?_⟩⟩⟩
  refine ite2 (fun c1 => ?_) (fun c1 => ?_)
  · -- behind this part
    have ge : cntP part z ≤ c := by simpa using c1
    refine ⟨fun σ' H' => ∃ m', m' < (elemsD d).length - i ∧ _, fun _ _ z => z, ?_⟩
    refine ⟨_, rfl, _, rfl, _, rfl, rd_ix (hx.mono (s1.trans s2)) hxi ⟨_, rfl, xs[i], part, z, rfl, hpd.mono (s1.trans s2), pk, by omega, by omega, by omega, fun H3 s3 => ⟨_, _, rfl, rfl, ?_⟩⟩⟩
    refine ⟨_, rfl, _, _, rfl, rfl, ?_⟩
    exact ⟨(elemsD d).length - (i + 1), by omega, i + 1, c - cntP part z, s4, s5, s6, s7, rfl, rfl, s1.trans (s2.trans s3), by omega, by rw [tk]; omega, by omega⟩
  have lt : c < cntP part z := by
    have : ¬ cntP part z ≤ c := by simpa using c1
    omega
  have s12 := s1.trans s2
  -- the asks ahead of the part
  refine ⟨_, rfl, _, rfl, _, rfl, cut_front (hx.mono s12) (hxs.mono s12) fun cc d' H3 s3 hd' ks' ke' => ?_⟩
  obtain ⟨b1, b2⟩ := seq_bounds ks' ke'
  have hrow' : rowD d' = true := by rw [rowD_elems ks', ke']; exact (parts_split hrow2 i).1
  have mz : manyR d' = manyPs ((elemsD d).take i) := by rw [manyR_elems ks', ke']
  have mt := (many_take hrow2 i).1
  refine ⟨.ref cc, d', rfl, hd', hrow', by omega, by omega, by omega, fun H4 s4' => ?_⟩
  rw [mz]
  have s14 := s12.trans (s3.trans s4')
  have hx4 := hx.mono s14
  refine ⟨_, rfl, _, rfl, rd_ix hx4 hxi ⟨_, _, _, _, _, rfl, .ty _, ty_of (hpd.mono s14), kI_str, _, rfl, ?_⟩⟩
  refine ite2 (fun c2 => ?_) (fun c2 => ?_)
  · rcases partD_cases pk with ⟨y, rfl, _⟩ | ⟨r, t, rfl, _⟩
    · rw [cntP_str] at lt
      have e : y = z := by
        by_cases e : y = z
        · exact e
        · rw [if_neg e] at lt; omega
      subst e
      rw [if_pos rfl] at lt
      have cz : c = 0 := by omega
      have nth := nth_at k0 hrow2 hi ce c0 (q := 0) (by rw [cz]; exact ⟨rfl, rfl⟩)
      have q := q H4 _ s14 nth
      rw [show (((manyPs ((elemsD d).take i)).toNat + 0 : Nat) : Int) = manyPs ((elemsD d).take i) by omega] at q
      exact ⟨_, rfl, q⟩
    · cases c2
  rcases partD_cases pk with ⟨y, rfl, _⟩ | ⟨r, t, rfl, t1, t2, hn, hrr⟩
  · exact absurd rfl c2
  have hpd4 := hpd.mono s14
  generalize xs[i] = xi at hxi hpd4
  cases hpd4 with
  | @tup ap ys _ hap hys =>
    match ys, hys with
    | [v1, v2], .cons h1 (.cons h2 .nil) =>
      have dp : r.depth < m ∧ r.depth ≤ 11 := by simp only [PyData.depth, PyData.depthAll] at dv; omega
      have wp : wD r ≤ 1000 := by simp only [wD, wDs] at wv; omega
      have mb := (manyR_bound r hrr).2.1 hn
      rw [cntP_tup t1] at lt
      have cl := cntR_le hrr z
      have cp : 0 < cntR r z := by
        rcases Int.lt_or_eq_of_le cl.1 with h | h
        · exact h
        · rw [← h] at lt; omega
      have cbits := cnt_bits hrr (by omega : wD r ≤ 2000) (by omega) z
      have tl : c / cntR r z < t := Int.ediv_lt_of_lt_mul cp (by rw [Int.mul_comm]; exact lt)
      have t0 := Int.ediv_nonneg c0 (show 0 ≤ cntR r z by omega)
      have hl := (outR_get r hrr).1
      refine ⟨_, rfl, _, rfl, rd_ix hx4 hxi ⟨_, _, _, _, rfl, rfl, SqT.of hap, atI_nat (j := 0) rfl, ?_⟩⟩
      refine ⟨_, rfl, _, rfl, _, rfl, v1, r, z, rfl, h1, hrr, by omega, by omega, by omega, fun H5 s5 => ⟨_, _, rfl, divp_of cp cbits, fun tp htp => ?_⟩⟩
      have st := same_new htp (.tup [.int (c / cntR r z), .int (c % cntR r z)])
      refine ⟨tp, _, rfl, SqT.of upd_same, rfl, _, _, rfl, _, _, rfl, rfl, ?_⟩
      have h15 := h1.mono (s5.trans st)
      refine ⟨_, rfl, _, rfl, _, rfl, v1, r, rfl, h15, hrr, by omega, by omega, by omega, fun H6 s6 => ⟨_, _, rfl, rfl, wide_mul (a := 200) (Nat.lt_of_le_of_lt (show (c / cntR r z).natAbs ≤ 10 ^ 30 by omega) (by decide)) (many_bits hrr (by omega) (by omega)) (by decide) (by decide) (by decide), _, _, rfl, rfl, ?_⟩⟩
      refine ⟨_, rfl, _, rfl, _, rfl, v1, r, z, _, rfl, h15.mono s6, hrr, dp.1, dp.2, wp, Int.emod_nonneg _ (by omega), Int.emod_lt_of_pos _ cp, fun H7 p s7' nth => ⟨_, _, rfl, rfl, ?_⟩⟩
      have kt : (c / cntR r z).toNat < t.toNat := by omega
      have rep := isNth_rep kt nth
      have e1 : (c / cntR r z).toNat * (outR r).count z + (c % cntR r z).toNat = c.toNat := by
        have h1 := Int.mul_ediv_add_emod c (cntR r z)
        have h2' : (((c / cntR r z).toNat * (outR r).count z : Nat) : Int) = cntR r z * (c / cntR r z) := by
          rw [Int.natCast_mul, show (((c / cntR r z).toNat : Nat) : Int) = c / cntR r z by omega, Int.mul_comm]; rfl
        have h3 := Int.emod_nonneg c (show cntR r z ≠ 0 by omega)
        omega
      rw [e1] at rep
      have nth2 := nth_at k0 hrow2 hi ce c0 rep
      have q := q H7 _ (s14.trans (s5.trans (st.trans (s6.trans s7')))) nth2
      have e2 : (((manyPs ((elemsD d).take i)).toNat + ((c / cntR r z).toNat * (outR r).length + p) : Nat) : Int) = manyPs ((elemsD d).take i) + c / cntR r z * manyR r + (p : Nat) := by
        rw [Int.natCast_add, Int.natCast_add, Int.natCast_mul, hl, show (((c / cntR r z).toNat : Nat) : Int) = c / cntR r z by omega, show (((manyPs ((elemsD d).take i)).toNat : Nat) : Int) = manyPs ((elemsD d).take i) by omega, Int.add_assoc]
      rw [e2] at q
      exact q
theorem place_all (T : Txt K mg) (O_count_asks : Own K mg "count_asks" s_count_asks f_count_asks fd_count_asks ["row"]) (O_part_often : Own K mg "_part_often" s_part_often f_part_often fd_part_often ["part", "thing"]) (O_often_in : Own K mg "_often_in" s_often_in f_often_in fd_often_in ["row", "thing"]) (O_place_of : Own K mg "_place_of" s_place_of f_place_of fd_place_of ["row", "thing", "number"]) (G_count_asks : FnOk P w K mg base CX0 14 f_count_asks fd_count_asks ["row"] (spCnt 13 rowD manyR))
    (G_part_often : FnOk P w K mg base CX0 14 f_part_often fd_part_often ["part", "thing"] (spOf 13 partD cntP)) (G_often_in : FnOk P w K mg base CX0 14 f_often_in fd_often_in ["row", "thing"] (spOf 13 rowD cntR)) : ∀ m, FnOk P w K mg base CX0 (m + 15) f_place_of fd_place_of ["row", "thing", "number"] (spPo m)
  | 0 => place_none
  | m + 1 => place_step T O_count_asks O_part_often O_often_in O_place_of G_count_asks G_part_often G_often_in (place_all T O_count_asks O_part_often O_often_in O_place_of G_count_asks G_part_often G_often_in m)
end
end K03

set_option Elab.async false
set_option linter.all false
set_option maxRecDepth 100000
set_option maxHeartbeats 4000000
set_option exponentiation.threshold 20000
namespace MC
open PySem PySem.Spec L2
theorem ahd_le {d : PyData} (z : Str) (p : Int) : 0 ≤ ahd d z p ∧ ahd d z p ≤ cntR d z := by
  have := aheadL_le (outR d) z p.toNat
  unfold ahd cntR
  omega
/-- an ask of z: one less stands ahead than in all -/
theorem ahd_lt {d : PyData} (h : rowD d = true) {p : Int} (h0 : 0 ≤ p) (h1 : p < manyR d) : IsNth (outR d) (atR d p) (ahd d (atR d p) p).toNat p.toNat ∧ ahd d (atR d p) p < cntR d (atR d p) := by
  have g := (outR_get d h).2 p.toNat (by omega)
  rw [show ((p.toNat : Nat) : Int) = p by omega] at g
  refine ⟨⟨g, by unfold ahd; omega⟩, ?_⟩
  have a := aheadL_succ g (atR d p)
  rw [if_pos rfl] at a
  have b := aheadL_le (outR d) (atR d p) (p.toNat + 1)
  unfold ahd cntR
  omega
theorem part_ahead {r : PyData} {t : Int} (hrr : rowD r = true) (hn : dNil r = false) (t1 : 1 ≤ t) (z : Str) {c : Int} (c0 : 0 ≤ c) (cm : c ≤ manyR r * t) :
    ((aheadL (outP (.tuple [r, .int t])) z c.toNat : Nat) : Int) = c / manyR r * cntR r z + ahd r z (c % manyR r) := by
  have m1 := (manyR_bound r hrr).2.1 hn
  have hl := (outR_get r hrr).1
  have tt : ((t.toNat : Nat) : Int) = t := by omega
  have le : c.toNat ≤ t.toNat * (outR r).length := by
    have : ((t.toNat * (outR r).length : Nat) : Int) = manyR r * t := by rw [Int.natCast_mul, hl, tt, Int.mul_comm]
    omega
  rw [show outP (.tuple [r, .int t]) = (List.replicate t.toNat (outR r)).flatten from rfl, aheadL_rep (by omega) le]
  unfold ahd cntR
  have e1 : ((c.toNat / (outR r).length : Nat) : Int) = c / manyR r := by rw [Int.natCast_ediv, hl, show ((c.toNat : Nat) : Int) = c by omega]
  have e2 : c.toNat % (outR r).length = (c % manyR r).toNat := by
    have : ((c.toNat % (outR r).length : Nat) : Int) = c % manyR r := by rw [Int.natCast_emod, hl, show ((c.toNat : Nat) : Int) = c by omega]
    omega
  rw [Int.natCast_add, Int.natCast_mul, e1, e2]
end MC
namespace K03
open PySem PySem.Spec L2 MC
open PyProof.Rows hiding St
def spCkT : Sp := fun vs H Q _ => ∃ z, vs = [.str z] ∧ isThingS z = true ∧ ∀ H', Same H H' → Q .non H'
def spAA : Sp := fun vs H Q _ => ∃ (x : V) (d : PyData) (z : Str) (p : Int), vs = [x, .str z, .int p] ∧ DD H x d ∧ okD d = true ∧ isThingS z = true ∧ rowD d = true ∧ d.depth ≤ 11 ∧ wD d ≤ 1000 ∧ 0 ≤ p ∧ p ≤ manyR d ∧ ∀ H', Same H H' → Q (.int (ahd d z p)) H'
def spSo : Sp := fun vs H Q _ => ∃ (x : V) (d : PyData) (z : Str) (n : Int), vs = [x, .str z, .int n] ∧ DD H x d ∧ okD d = true ∧ isThingS z = true ∧ rowD d = true ∧ d.depth ≤ 11 ∧ wD d ≤ 1000 ∧ 0 ≤ n ∧
  (cntR d z ≤ n → ∀ H', Same H H' → Q .non H') ∧ (n < cntR d z → ∀ H' (p : Nat), Same H H' → IsNth (outR d) z n.toNat p → Q (.int (p : Nat)) H')
def spBe : Sp := fun vs H Q _ => ∃ (x : V) (d : PyData) (p : Int), vs = [x, .int p] ∧ DD H x d ∧ okD d = true ∧ rowD d = true ∧ d.depth ≤ 11 ∧ wD d ≤ 1000 ∧ 0 ≤ p ∧ p < manyR d ∧
  (ahd d (atR d p) p = 0 → ∀ H', Same H H' → Q .non H') ∧ (0 < ahd d (atR d p) p → ∀ H' (q : Nat), Same H H' → IsNth (outR d) (atR d p) (ahd d (atR d p) p - 1).toNat q → Q (.int (q : Nat)) H')
section
variable {P : Program} {w : World} {K : PySem.W.Frag} {mg : Str → Option Value} {base : Heap}
variable {f_is_whole f_is_thing f_check_row f_check_thing f_check_place f_count_asks f_thing_at f_often_in f_often_ahead f_place_of f_asked_ahead f_so_manieth f_asked_before f_l_many f_l_counted f_l_ahead : Addr} {fd_is_whole fd_is_thing fd_check_row fd_check_thing fd_check_place fd_count_asks fd_thing_at fd_often_in fd_often_ahead fd_place_of fd_asked_ahead fd_so_manieth fd_asked_before fd_l_many fd_l_counted fd_l_ahead : FuncData}
theorem ok_check_thing (T : Txt K mg) (O_is_thing : Own K mg "is_thing" s_is_thing f_is_thing fd_is_thing ["thing"]) (O_check_thing : Own K mg "check_thing" s_check_thing f_check_thing fd_check_thing ["thing"]) (G_is_thing : FnOk P w K mg base CX0 2 f_is_thing fd_is_thing ["thing"] (spD thingD)) : FnOk P w K mg base CX0 3 f_check_thing fd_check_thing ["thing"] spCkT := by
  refine O_check_thing.F.ok sc_check_thing (fun vs H Q E h => by obtain ⟨z, rfl, _⟩ := h; rfl) (fun cdv A outer s H vs Q E hr h => ?_)
  obtain ⟨z, rfl, hz, q⟩ := h
  refine ⟨_, (pss_one (ps_if (pt_not (pt_val (pe_call G_is_thing (hr.mono (by omega)) rfl O_is_thing.m O_is_thing.F.kp O_is_thing.b .nil pass0 (pa_cons (pv 0) pa_nil))))
    pss_never
    pss_nil)), ?_⟩
  refine ⟨_, rfl, .str z, .str z, rfl, .str z, okS hz, (by show (0 : Nat) ≤ 60; decide), (by show (1 : Nat) ≤ 2000; decide), fun H' s' => ⟨_, rfl, ?_⟩⟩
  rw [show thingD (.str z) = true from hz]
  exact q H' s'
theorem ok_asked_ahead (T : Txt K mg) (O_check_row : Own K mg "check_row" s_check_row f_check_row fd_check_row ["row"]) (O_check_thing : Own K mg "check_thing" s_check_thing f_check_thing fd_check_thing ["thing"]) (O_check_place : Own K mg "check_place" s_check_place f_check_place fd_check_place ["place", "many"]) (O_count_asks : Own K mg "count_asks" s_count_asks f_count_asks fd_count_asks ["row"]) (O_often_ahead : Own K mg "_often_ahead" s_often_ahead f_often_ahead fd_often_ahead ["row", "thing", "place"]) (O_asked_ahead : Own K mg "asked_ahead" s_asked_ahead f_asked_ahead fd_asked_ahead ["row", "thing", "place"]) (G_check_row : FnOk P w K mg base CX0 4 f_check_row fd_check_row ["row"] spChk) (G_check_thing : FnOk P w K mg base CX0 3 f_check_thing fd_check_thing ["thing"] spCkT) (G_check_place : FnOk P w K mg base CX0 2 f_check_place fd_check_place ["place", "many"] spPlc)
    (G_count_asks : FnOk P w K mg base CX0 14 f_count_asks fd_count_asks ["row"] (spCnt 13 rowD manyR)) (G_often_ahead : FnOk P w K mg base CX0 27 f_often_ahead fd_often_ahead ["row", "thing", "place"] (spAh 12)) : FnOk P w K mg base CX0 28 f_asked_ahead fd_asked_ahead ["row", "thing", "place"] spAA := by
  refine O_asked_ahead.F.ok sc_asked_ahead (fun vs H Q E h => by obtain ⟨x, d, z, p, rfl, _⟩ := h; rfl) (fun cdv A outer s H vs Q E hr h => ?_)
  obtain ⟨x, d, z, p, rfl, hd, hok, hz, hrow, hdp, hwd, p0, pm, q⟩ := h
  refine ⟨_, (pss_cons (ps_expr (pe_call G_check_row (hr.mono (by omega)) rfl O_check_row.m O_check_row.F.kp O_check_row.b .nil pass0 (pa_cons (pv 0) pa_nil)))
    (pss_cons (ps_expr (pe_call G_check_thing (hr.mono (by omega)) rfl O_check_thing.m O_check_thing.F.kp O_check_thing.b .nil pass0 (pa_cons (pv 1) pa_nil)))
    (pss_cons (ps_expr (pe_call G_check_place (hr.mono (by omega)) rfl O_check_place.m O_check_place.F.kp O_check_place.b .nil pass0 (pa_cons (pv 2) (pa_cons (pe_op op_add (pe_call G_count_asks (hr.mono (by omega)) rfl O_count_asks.m O_count_asks.F.kp O_count_asks.b .nil pass0 (pa_cons (pv 0) pa_nil)) pe_int) pa_nil))))
    (pss_one (ps_ret (pe_call G_often_ahead (hr.mono (by omega)) rfl O_often_ahead.m O_often_ahead.F.kp O_often_ahead.b .nil pass0 (pa_cons (pv 0) (pa_cons (pv 1) (pa_cons (pv 2) pa_nil))))))))), ?_⟩
  refine ⟨_, rfl, x, d, rfl, hd, hok, by omega, by omega, hrow, fun H1 s1 => ?_⟩
  refine ⟨_, rfl, z, rfl, hz, fun H2 s2 => ?_⟩
  have s12 := s1.trans s2
  refine ⟨_, rfl, _, rfl, x, d, rfl, hd.mono s12, hrow, by omega, by omega, by omega, fun H3 s3 => ⟨_, _, rfl, rfl, p, _, rfl, p0, by omega, fun H4 s4 => ?_⟩⟩
  have s14 := s12.trans (s3.trans s4)
  exact ⟨_, rfl, _, rfl, _, rfl, x, d, z, p, rfl, hd.mono s14, hrow, by omega, hdp, hwd, p0, pm, fun H5 s5 => q H5 (s14.trans s5)⟩
theorem ok_so_manieth (T : Txt K mg) (O_is_whole : Own K mg "is_whole" s_is_whole f_is_whole fd_is_whole ["value"]) (O_check_row : Own K mg "check_row" s_check_row f_check_row fd_check_row ["row"]) (O_check_thing : Own K mg "check_thing" s_check_thing f_check_thing fd_check_thing ["thing"]) (O_often_in : Own K mg "_often_in" s_often_in f_often_in fd_often_in ["row", "thing"]) (O_place_of : Own K mg "_place_of" s_place_of f_place_of fd_place_of ["row", "thing", "number"]) (O_so_manieth : Own K mg "so_manieth" s_so_manieth f_so_manieth fd_so_manieth ["row", "thing", "number"]) (G_is_whole : FnOk P w K mg base CX0 1 f_is_whole fd_is_whole ["value"] (spD0 wholeD)) (G_check_row : FnOk P w K mg base CX0 4 f_check_row fd_check_row ["row"] spChk) (G_check_thing : FnOk P w K mg base CX0 3 f_check_thing fd_check_thing ["thing"] spCkT)
    (G_often_in : FnOk P w K mg base CX0 14 f_often_in fd_often_in ["row", "thing"] (spOf 13 rowD cntR)) (G_place_of : FnOk P w K mg base CX0 27 f_place_of fd_place_of ["row", "thing", "number"] (spPo 12)) : FnOk P w K mg base CX0 28 f_so_manieth fd_so_manieth ["row", "thing", "number"] spSo := by
  refine O_so_manieth.F.ok sc_so_manieth (fun vs H Q E h => by obtain ⟨x, d, z, n, rfl, _⟩ := h; rfl) (fun cdv A outer s H vs Q E hr h => ?_)
  obtain ⟨x, d, z, n, rfl, hd, hok, hz, hrow, hdp, hwd, n0, q1, q2⟩ := h
  refine ⟨_, (pss_cons (ps_expr (pe_call G_check_row (hr.mono (by omega)) rfl O_check_row.m O_check_row.F.kp O_check_row.b .nil pass0 (pa_cons (pv 0) pa_nil)))
    (pss_cons (ps_expr (pe_call G_check_thing (hr.mono (by omega)) rfl O_check_thing.m O_check_thing.F.kp O_check_thing.b .nil pass0 (pa_cons (pv 1) pa_nil)))
    (pss_cons (ps_if (PW.pt (pw_or (pt_not (pt_val (pe_call G_is_whole (hr.mono (by omega)) rfl O_is_whole.m O_is_whole.F.kp O_is_whole.b .nil pass0 (pa_cons (pv 2) pa_nil)))) (pw_or1 (pt_cmpR op_lt (pv 2) pe_int (nomark _)))))
    pss_never
    pss_nil)
    (pss_cons (ps_if (pt_cmpR op_ge (pv 2) (pe_call G_often_in (hr.mono (by omega)) rfl O_often_in.m O_often_in.F.kp O_often_in.b .nil pass0 (pa_cons (pv 0) (pa_cons (pv 1) pa_nil))) (nomark _))
    (pss_one (ps_ret pe_non))
    pss_nil)
    (pss_one (ps_ret (pe_call G_place_of (hr.mono (by omega)) rfl O_place_of.m O_place_of.F.kp O_place_of.b .nil pass0 (pa_cons (pv 0) (pa_cons (pv 1) (pa_cons (pv 2) pa_nil)))))))))), ?_⟩
  refine ⟨_, rfl, x, d, rfl, hd, hok, by omega, by omega, hrow, fun H1 s1 => ?_⟩
  refine ⟨_, rfl, z, rfl, hz, fun H2 s2 => ?_⟩
  have s12 := s1.trans s2
  refine ⟨_, rfl, .int n, .int n, rfl, .int n, fun H3 s3 => ⟨_, rfl, ?_⟩⟩
  refine ite2 (fun z => nomatch z) (fun _ => ?_)
  refine ⟨_, rfl, _, _, rfl, rfl, _, rfl, ?_⟩
  refine ite2 (fun c => absurd n0 (by have : n < 0 := by simpa using c
                                      omega)) (fun _ => ?_)
  have s13 := s12.trans s3
  refine ⟨_, rfl, _, rfl, _, rfl, x, d, z, rfl, hd.mono s13, hrow, by omega, by omega, by omega, fun H4 s4 => ⟨_, _, rfl, rfl, _, rfl, ?_⟩⟩
  have s14 := s13.trans s4
  refine ite2 (fun c => ?_) (fun c => ?_)
  · exact q1 (by simpa using c) H4 s14
  · have lt : n < cntR d z := by
      have : ¬ cntR d z ≤ n := by simpa using c
      omega
    exact ⟨_, rfl, _, rfl, _, rfl, x, d, z, n, rfl, hd.mono s14, hrow, by omega, hdp, hwd, n0, lt, fun H5 p s5 nth => q2 lt H5 p (s14.trans s5) nth⟩
theorem ok_asked_before (T : Txt K mg) (O_check_row : Own K mg "check_row" s_check_row f_check_row fd_check_row ["row"]) (O_check_place : Own K mg "check_place" s_check_place f_check_place fd_check_place ["place", "many"]) (O_count_asks : Own K mg "count_asks" s_count_asks f_count_asks fd_count_asks ["row"]) (O_thing_at : Own K mg "thing_at" s_thing_at f_thing_at fd_thing_at ["row", "place"]) (O_often_ahead : Own K mg "_often_ahead" s_often_ahead f_often_ahead fd_often_ahead ["row", "thing", "place"]) (O_place_of : Own K mg "_place_of" s_place_of f_place_of fd_place_of ["row", "thing", "number"]) (O_asked_before : Own K mg "asked_before" s_asked_before f_asked_before fd_asked_before ["row", "place"]) (G_check_row : FnOk P w K mg base CX0 4 f_check_row fd_check_row ["row"] spChk) (G_check_place : FnOk P w K mg base CX0 2 f_check_place fd_check_place ["place", "many"] spPlc)
    (G_count_asks : FnOk P w K mg base CX0 14 f_count_asks fd_count_asks ["row"] (spCnt 13 rowD manyR)) (G_thing_at : FnOk P w K mg base CX0 27 f_thing_at fd_thing_at ["row", "place"] (spTa 13)) (G_often_ahead : FnOk P w K mg base CX0 27 f_often_ahead fd_often_ahead ["row", "thing", "place"] (spAh 12))
    (G_place_of : FnOk P w K mg base CX0 27 f_place_of fd_place_of ["row", "thing", "number"] (spPo 12)) : FnOk P w K mg base CX0 28 f_asked_before fd_asked_before ["row", "place"] spBe := by
  refine O_asked_before.F.ok sc_asked_before (fun vs H Q E h => by obtain ⟨x, d, p, rfl, _⟩ := h; rfl) (fun cdv A outer s H vs Q E hr h => ?_)
  obtain ⟨x, d, p, rfl, hd, hok, hrow, hdp, hwd, p0, pm, q1, q2⟩ := h
  refine ⟨_, (pss_cons (ps_expr (pe_call G_check_row (hr.mono (by omega)) rfl O_check_row.m O_check_row.F.kp O_check_row.b .nil pass0 (pa_cons (pv 0) pa_nil)))
    (pss_cons (ps_expr (pe_call G_check_place (hr.mono (by omega)) rfl O_check_place.m O_check_place.F.kp O_check_place.b .nil pass0 (pa_cons (pv 1) (pa_cons (pe_call G_count_asks (hr.mono (by omega)) rfl O_count_asks.m O_count_asks.F.kp O_count_asks.b .nil pass0 (pa_cons (pv 0) pa_nil)) pa_nil))))
    (pss_cons (ps_set (i := 2) sc_asked_before.nd rfl (Or.inl rfl) (pe_call G_thing_at (hr.mono (by omega)) rfl O_thing_at.m O_thing_at.F.kp O_thing_at.b .nil pass0 (pa_cons (pv 0) (pa_cons (pv 1) pa_nil))))
    (pss_cons (ps_set (i := 3) sc_asked_before.nd rfl (Or.inl rfl) (pe_call G_often_ahead (hr.mono (by omega)) rfl O_often_ahead.m O_often_ahead.F.kp O_often_ahead.b .nil pass0 (pa_cons (pv 0) (pa_cons (pv 2) (pa_cons (pv 1) pa_nil)))))
    (pss_cons (ps_if (pt_cmpR op_eq (pv 3) pe_int (nomark _))
    (pss_one (ps_ret pe_non))
    pss_nil)
    (pss_one (ps_ret (pe_call G_place_of (hr.mono (by omega)) rfl O_place_of.m O_place_of.F.kp O_place_of.b .nil pass0 (pa_cons (pv 0) (pa_cons (pv 2) (pa_cons (pe_op op_sub (pv 3) pe_int) pa_nil))))))))))), ?_⟩
  refine ⟨_, rfl, x, d, rfl, hd, hok, by omega, by omega, hrow, fun H1 s1 => ?_⟩
  refine ⟨_, rfl, _, rfl, x, d, rfl, hd.mono s1, hrow, by omega, by omega, by omega, fun H2 s2 => ⟨p, _, rfl, p0, pm, fun H3 s3 => ?_⟩⟩
  have s13 := s1.trans (s2.trans s3)
  refine ⟨_, rfl, _, rfl, x, d, p, rfl, hd.mono s13, hrow, by omega, by omega, by omega, p0, pm, fun H4 s4 => ?_⟩
  have s14 := s13.trans s4
  refine ⟨_, rfl, _, rfl, _, rfl, x, d, atR d p, p, rfl, hd.mono s14, hrow, by omega, hdp, hwd, p0, by omega, fun H5 s5 => ?_⟩
  have s15 := s14.trans s5
  have al := ahd_le (d := d) (atR d p) p
  have lt := (ahd_lt hrow p0 pm).2
  refine ⟨_, rfl, rfl, _, rfl, ?_⟩
  refine ite2 (fun c => ?_) (fun c => ?_)
  · exact q1 (by simpa using c) H5 s15
  · have ap : 0 < ahd d (atR d p) p := by
      have : ¬ ahd d (atR d p) p = 0 := by simpa using c
      omega
    exact ⟨_, rfl, _, rfl, _, rfl, _, _, rfl, rfl, x, d, atR d p, ahd d (atR d p) p - 1, rfl, hd.mono s15, hrow, by omega, hdp, hwd, by omega, by omega, fun H6 r s6 nth => q2 ap H6 r (s15.trans s6) nth⟩
theorem l_ahead_step {m : Nat} (T : Txt K mg) (O_l_many : Own K mg "_law_many" s_l_many f_l_many fd_l_many ["_law_line"]) (O_l_counted : Own K mg "_law_counted" s_l_counted f_l_counted fd_l_counted ["_law_line", "_law_name"]) (O_l_ahead : Own K mg "_law_ahead" s_l_ahead f_l_ahead fd_l_ahead ["_law_line", "_law_name", "_law_place"]) (G_l_many : FnOk P w K mg base CX0 15 f_l_many fd_l_many ["_law_line"] (spCnt 14 rowD manyR)) (G_l_counted : FnOk P w K mg base CX0 15 f_l_counted fd_l_counted ["_law_line", "_law_name"] (spOf 14 rowD cntR))
    (G_l_ahead : FnOk P w K mg base CX0 (m + 15) f_l_ahead fd_l_ahead ["_law_line", "_law_name", "_law_place"] (spAh m)) : FnOk P w K mg base CX0 (m + 15 + 1) f_l_ahead fd_l_ahead ["_law_line", "_law_name", "_law_place"] (spAh (m + 1)) := by
  refine O_l_ahead.F.ok sc_l_ahead (fun vs H Q E h => by obtain ⟨x, d, z, p, rfl, _⟩ := h; rfl) (fun cdv A outer s H vs Q E hr h => ?_)
  obtain ⟨x, d, z, p, rfl, hd, hrow, hdm, hdp, hwd, p0, pm, q⟩ := h
  refine ⟨_, (pss_cons (ps_set (i := 3) sc_l_ahead.nd rfl (Or.inl rfl) pe_int)
    (pss_cons (ps_for PassesOwn.never rfl (k_seq (K := K) rfl (pv 0)) (pg_name (i := 4) sc_l_ahead.nd rfl (Or.inl rfl))
    (pss_cons (ps_set (i := 5) sc_l_ahead.nd rfl (Or.inl rfl) (pe_call G_l_many (hr.mono (by omega)) rfl O_l_many.m O_l_many.F.kp O_l_many.b .nil pass0 (pa_cons (pe_lst (pa_cons (pv 4) pa_nil)) pa_nil)))
    (pss_cons (ps_if (pt_cmpR op_ge (pv 2) (pv 5) (nomark _))
    (pss_one (ps_set (i := 3) sc_l_ahead.nd rfl (Or.inl rfl) (pe_op op_add (pv 3) (pe_call G_l_counted (hr.mono (by omega)) rfl O_l_counted.m O_l_counted.F.kp O_l_counted.b .nil pass0 (pa_cons (pe_lst (pa_cons (pv 4) pa_nil)) (pa_cons (pv 1) pa_nil))))))
    (pss_one (ps_if (pt_cmpR op_gt (pv 2) pe_int (nomark _))
    (pss_cons (ps_set (i := 6) sc_l_ahead.nd rfl (Or.inl rfl) (pe_op op_fdivW (pv 5) (pe_ix (k_ix_tup (K := K) rfl) (pv 4) pe_int (fun _ _ => rfl))))
    (pss_cons (ps_set (i := 3) sc_l_ahead.nd rfl (Or.inl rfl) (pe_op op_add (pv 3) (pe_op op_mulW (pe_op op_fdivW (pv 2) (pv 6)) (pe_call G_l_counted (hr.mono (by omega)) rfl O_l_counted.m O_l_counted.F.kp O_l_counted.b .nil pass0 (pa_cons (pe_ix (k_ix_tup (K := K) rfl) (pv 4) pe_int (fun _ _ => rfl)) (pa_cons (pv 1) pa_nil))))))
    (pss_one (ps_set (i := 3) sc_l_ahead.nd rfl (Or.inl rfl) (pe_op op_add (pv 3) (pe_call G_l_ahead (hr.mono (by omega)) rfl O_l_ahead.m O_l_ahead.F.kp O_l_ahead.b .nil pass0 (pa_cons (pe_ix (k_ix_tup (K := K) rfl) (pv 4) pe_int (fun _ _ => rfl)) (pa_cons (pv 1) (pa_cons (pe_op op_mod (pv 2) (pv 6)) pa_nil)))))))))
    pss_nil)))
    (pss_one (ps_set (i := 2) sc_l_ahead.nd rfl (Or.inl rfl) (pe_callB (call_max2 rfl) (by rfl) T.n_max (by decide +kernel) (pa_cons pe_int (pa_cons (pe_op op_sub (pv 2) (pv 5)) pa_nil))))))))
    (pss_one (ps_ret (pv 3))))), ?_⟩
  have k0 := rowD_is hrow
  have hrow2 := hrow
  rw [rowD_elems k0] at hrow2
  obtain ⟨a, xs, rfl, hx, hxs⟩ := hd.seq k0
  have we := wD_elems d
  have de := depth_elems k0
  have ln := hxs.length
  have hW : wD d = 1 + wDs (elemsD d) := by cases d <;> first | (simp only [elemsD, wD]; done) | cases k0
  refine ⟨_, rfl, for_seq (xs := xs) hx (fun i σ H' => ∃ (c : Int) (s4 s5 s6 : Option V), σ = [some (.ref a), some (.str z), some (.int c), some (.int ((aheadL (outPs ((elemsD d).take i)) z p.toNat : Nat) : Int)), s4, s5, s6] ∧ Same H H' ∧
      0 ≤ c ∧ c.toNat = p.toNat - (outPs ((elemsD d).take i)).length) ⟨p, _, _, _, by simp [outPs, aheadL]; rfl, Same.refl _, p0, by simp [outPs]⟩ ?_ ?_ ?_⟩
  · rintro i σ' H' hi ⟨c, s4, s5, s6, _, s1, _⟩
    exact hx.keep s1
  · rintro i xv σ H2 hi ⟨c, s4, s5, s6, rfl, s1, c0, ce⟩
    obtain ⟨dv, hdv, hdd⟩ := hxs.get hi
    have wv := wD_le hdv
    have dv1 := depth_le hdv
    have pk := partsD_get hrow2 hdv
    have hdd2 := hdd.mono s1
    have one : rowD (.list [dv]) = true := by show partsD [dv] = true; simp only [partsD, pk, Bool.and_self]
    have mone : manyR (.list [dv]) = manyP dv := by show manyPs [dv] = _; simp only [manyPs]; omega
    have cone : cntR (.list [dv]) z = cntP dv z := by unfold cntR cntP; rw [show outR (.list [dv]) = outP dv ++ [] from rfl, List.append_nil]
    have lp := (outP_get dv pk).1
    have tk : outPs ((elemsD d).take (i + 1)) = outPs ((elemsD d).take i) ++ outP dv := by rw [take_more hdv, outPs_append]; simp [outPs]
    have ah : ((aheadL (outPs ((elemsD d).take (i + 1))) z p.toNat : Nat) : Int) = ((aheadL (outPs ((elemsD d).take i)) z p.toNat : Nat) : Int) + ((aheadL (outP dv) z c.toNat : Nat) : Int) := by
      rw [tk, aheadL_append, Int.natCast_add, ce]
    have nl : (outPs ((elemsD d).take (i + 1))).length = (outPs ((elemsD d).take i)).length + (outP dv).length := by rw [tk, List.length_append]
    -- size
    refine ⟨_, rfl, (by show 1 ≤ sizeLine; decide), fun l hl => ?_⟩
    have sl := same_new hl (.lst [xv])
    refine ⟨_, _, rfl, .lst upd_same (.cons (hdd2.mono sl) .nil), one, by simp only [PyData.depth, PyData.depthAll]; omega, by simp only [PyData.depth, PyData.depthAll]; omega, by simp only [wD, wDs]; omega, fun H3 s3 => ?_⟩
    rw [mone]
    have s13 := s1.trans (sl.trans s3)
    have hdd3 := hdd2.mono (sl.trans s3)
    have pv : ∀ {v : Int} (u4 u5 u6 : Option V) {H' : Hp}, Same H H' → v = ((aheadL (outPs ((elemsD d).take (i + 1))) z p.toNat : Nat) : Int) →
        ∃ (c' : Int) (s4 s5 s6 : Option V), [some (V.ref a), some (V.str z), some (V.int (if c - manyP dv > 0 then c - manyP dv else 0)), some (V.int v), u4, u5, u6] = [some (.ref a), some (.str z), some (.int c'), some (.int ((aheadL (outPs ((elemsD d).take (i + 1))) z p.toNat : Nat) : Int)), s4, s5, s6] ∧ Same H H' ∧
          0 ≤ c' ∧ c'.toNat = p.toNat - (outPs ((elemsD d).take (i + 1))).length := fun {v} u4 u5 u6 {H'} e hv => by
      refine ⟨if c - manyP dv > 0 then c - manyP dv else 0, u4, u5, u6, by rw [hv], e, ?_, ?_⟩
      · by_cases g : c - manyP dv > 0
        · rw [if_pos g]; omega
        · rw [if_neg g]; omega
      · rw [nl]
        by_cases g : c - manyP dv > 0
        · rw [if_pos g]; omega
        · rw [if_neg g]; omega
    refine ⟨_, rfl, _, rfl, _, _, rfl, rfl, _, rfl, ?_⟩
    refine ite2 (fun c1 => ?_) (fun c1 => ?_)
    · -- all of the part
      have ge : manyP dv ≤ c := by simpa using c1
      refine ⟨_, rfl, _, rfl, (by show 1 ≤ sizeLine; decide), fun l2 hl2 => ?_⟩
      have sl2 := same_new hl2 (.lst [xv])
      refine ⟨_, rfl, _, _, z, rfl, .lst upd_same (.cons (hdd3.mono sl2) .nil), one, by simp only [PyData.depth, PyData.depthAll]; omega, by simp only [PyData.depth, PyData.depthAll]; omega, by simp only [wD, wDs]; omega, fun H4 s4' => ?_⟩
      rw [cone]
      refine ⟨_, _, rfl, rfl, ?_⟩
      refine ⟨_, rfl, _, rfl, _, _, rfl, rfl, _, _, rfl, ?_⟩
      exact pv _ _ _ (s13.trans (sl2.trans s4')) (by rw [ah, aheadL_all (l := outP dv) (z := z) (p := c.toNat) (by omega)]; rfl)
    have lt : c < manyP dv := by
      have : ¬ manyP dv ≤ c := by simpa using c1
      omega
    refine ⟨_, rfl, _, _, rfl, rfl, _, rfl, ?_⟩
    refine ite2 (fun c2 => ?_) (fun c2 => ?_)
    · have cp : 0 < c := by simpa using c2
      rcases partD_cases pk with ⟨y, rfl, _⟩ | ⟨r, t, rfl, t1, t2, hn, hrr⟩
      · exfalso
        have : manyP (.str y) = 1 := rfl
        omega
      have dp : r.depth < m ∧ r.depth ≤ 11 := by simp only [PyData.depth, PyData.depthAll] at dv1; omega
      have wp : wD r ≤ 1000 := by simp only [wD, wDs] at wv; omega
      have mb := (manyR_bound r hrr).2.1 hn
      have mbits := many_bits hrr (by omega : wD r ≤ 2000) (by omega)
      have dq : manyP (.tuple [r, .int t]) / t = manyR r := Int.mul_ediv_cancel _ (by omega)
      have lt2 : c < manyR r * t := lt
      cases hdd3 with
      | @tup ap ys _ hap hys =>
        match ys, hys with
        | [v1, v2], .cons h1 (.cons h2 .nil) =>
          cases h2
          refine ⟨_, rfl, _, rfl, _, _, _, _, rfl, rfl, SqT.of hap, atI_nat (j := 1) rfl, _, _, rfl, rfl, wide_div (by omega) (bits30 t1 t2) (by decide) (by decide), ?_⟩
          have cbits : (c / manyR r).natAbs < 2 ^ 200 := by
            have h0 := Int.ediv_nonneg c0 (show 0 ≤ manyR r by omega)
            have h2' : c / manyR r < t := Int.ediv_lt_of_lt_mul (by omega) (by rw [Int.mul_comm]; exact lt2)
            exact Nat.lt_of_le_of_lt (show (c / manyR r).natAbs ≤ 10 ^ 30 by omega) (by decide)
          refine ⟨_, rfl, _, rfl, _, rfl, c, manyR r, rfl, congrArg V.int dq, wide_div (by omega) mbits (by decide) (by decide), _, rfl, _, _, _, _, rfl, rfl, SqT.of hap, atI_nat (j := 0) rfl, _, rfl, v1, r, z, rfl, h1, hrr, by omega, by omega, by omega, fun H4 s4' => ?_⟩
          refine ⟨_, _, rfl, rfl, wide_mul cbits (cnt_bits hrr (by omega) (by omega) z) (by decide) (by decide) (by decide), _, _, rfl, rfl, ?_⟩
          refine ⟨_, rfl, _, rfl, _, _, _, _, rfl, rfl, SqT.of (s4' _ _ hap), atI_nat (j := 0) rfl, _, rfl, _, rfl, _, rfl, c, manyR r, rfl, congrArg V.int dq, mb, v1, r, z, _, rfl, h1.mono s4', hrr, dp.1, dp.2, wp, Int.emod_nonneg _ (by omega), Int.le_of_lt (Int.emod_lt_of_pos _ (by omega)), fun H5 s5' => ⟨_, _, rfl, rfl, ?_⟩⟩
          refine ⟨_, rfl, _, rfl, _, _, rfl, rfl, _, _, rfl, ?_⟩
          exact pv _ _ _ (s13.trans (s4'.trans s5')) (by rw [ah, part_ahead hrr hn t1 z c0 (Int.le_of_lt lt2), Int.add_assoc])
    · have cz : c = 0 := by
        have : ¬ 0 < c := by simpa using c2
        omega
      refine ⟨_, rfl, _, rfl, _, _, rfl, rfl, _, _, rfl, ?_⟩
      exact pv _ _ _ s13 (by rw [ah, cz, show (0 : Int).toNat = 0 from rfl, aheadL_zero]; omega)
  · rintro σ H2 ⟨c, s4, s5, s6, rfl, s1, c0, ce⟩
    have full : (elemsD d).take xs.length = elemsD d := List.take_of_length_le (by rw [ln]; exact Nat.le_refl _)
    rw [full]
    have q := q H2 s1
    unfold ahd at q
    rw [outR_elems k0] at q
    exact ⟨_, rfl, q⟩
theorem l_ahead_all (T : Txt K mg) (O_l_many : Own K mg "_law_many" s_l_many f_l_many fd_l_many ["_law_line"]) (O_l_counted : Own K mg "_law_counted" s_l_counted f_l_counted fd_l_counted ["_law_line", "_law_name"]) (O_l_ahead : Own K mg "_law_ahead" s_l_ahead f_l_ahead fd_l_ahead ["_law_line", "_law_name", "_law_place"]) (G_l_many : FnOk P w K mg base CX0 15 f_l_many fd_l_many ["_law_line"] (spCnt 14 rowD manyR)) (G_l_counted : FnOk P w K mg base CX0 15 f_l_counted fd_l_counted ["_law_line", "_law_name"] (spOf 14 rowD cntR)) : ∀ m, FnOk P w K mg base CX0 (m + 15) f_l_ahead fd_l_ahead ["_law_line", "_law_name", "_law_place"] (spAh m)
  | 0 => by
    have no : ∀ vs H Q E, ¬ spAh 0 vs H Q E := fun vs H Q E h => by
      obtain ⟨x, d, z, p, _, _, _, h0, _⟩ := h
      exact absurd h0 (Nat.not_lt_zero _)
    exact ⟨fun vs H Q E h => absurd h (no vs H Q E), fun A outer s H args us vs Q E _ _ _ _ h => absurd h (no vs H Q E)⟩
  | m + 1 => l_ahead_step T O_l_many O_l_counted O_l_ahead G_l_many G_l_counted (l_ahead_all T O_l_many O_l_counted O_l_ahead G_l_many G_l_counted m)
end
end K03

set_option Elab.async false
set_option linter.all false
set_option maxRecDepth 100000
set_option maxHeartbeats 4000000
set_option exponentiation.threshold 20000
namespace MC
open PySem PySem.Spec L2
theorem at_out {d e : PyData} (hd : rowD d = true) (he : rowD e = true) (eo : outR d = outR e) {p : Int} (h0 : 0 ≤ p) (h1 : p < manyR d) : atR d p = atR e p := by
  have a := outR_get d hd
  have b := outR_get e he
  have ga := a.2 p.toNat (by omega)
  have gb := b.2 p.toNat (by rw [← b.1, ← eo, a.1]; omega)
  rw [show ((p.toNat : Nat) : Int) = p by omega] at ga gb
  rw [eo, gb] at ga
  exact (Option.some.inj ga).symm
theorem log_succ {k : Int} (h0 : 0 ≤ k) (h1 : k.natAbs < 2 ^ 6100) : (k + 1).natAbs.log2 < 9000 := by
  have h2 : (k + 1).natAbs < 2 ^ 6101 := by
    have e : (2 : Nat) ^ 6101 = 2 ^ 6100 * 2 := by rw [show (6101 : Nat) = 6100 + 1 from rfl, Nat.pow_succ]
    have p : 0 < (2 : Nat) ^ 6100 := Nat.pow_pos (by decide)
    generalize (2 : Nat) ^ 6100 = A at h1 e p
    generalize (2 : Nat) ^ 6101 = B at e ⊢
    omega
  exact Nat.lt_of_lt_of_le (PySem.Flt.log2_lt_of (by decide) h2) (by decide)
end MC
namespace K03
open PySem PySem.Spec L2 MC
open PyProof.Rows hiding St
def spTR : Sp := fun vs H Q _ => ∃ (d d0 : Addr) (N : Nat) (x y : V) (dx dy : PyData) (z : Str), vs = [.ref d, x, y, .str z] ∧ Dice H d d0 N ∧ N ≤ 10 ^ 11 ∧ DD (Hid [d, d0] H) x dx ∧ DD (Hid [d, d0] H) y dy ∧ okD dx = true ∧ rowD dx = true ∧ rowD dy = true ∧
  dx.depth ≤ 9 ∧ dy.depth ≤ 9 ∧ wD dx ≤ 900 ∧ wD dy ≤ 900 ∧ outR dx = outR dy ∧ isThingS z = true ∧ ∀ H', Chg d d0 H H' → Dice H' d d0 (N + 6) → Q (.bl true) H'
section
variable {P : Program} {w : World} {K : PySem.W.Frag} {mg : Str → Option Value} {base : Heap}
variable {f_l_roll f_l_many f_l_same f_l_counted f_l_ahead f_asked_ahead f_so_manieth f_asked_before f_ask_at f_l_thing_right : Addr} {fd_l_roll fd_l_many fd_l_same fd_l_counted fd_l_ahead fd_asked_ahead fd_so_manieth fd_asked_before fd_ask_at fd_l_thing_right : FuncData}
theorem ok_thing_right (T : Txt K mg) (O_l_roll : Own K mg "_law_roll" s_l_roll f_l_roll fd_l_roll ["_law_dice_here", "_law_many_here"]) (O_l_many : Own K mg "_law_many" s_l_many f_l_many fd_l_many ["_law_line"]) (O_l_same : Own K mg "_law_same" s_l_same f_l_same fd_l_same ["_law_found", "_law_due"]) (O_l_counted : Own K mg "_law_counted" s_l_counted f_l_counted fd_l_counted ["_law_line", "_law_name"]) (O_l_ahead : Own K mg "_law_ahead" s_l_ahead f_l_ahead fd_l_ahead ["_law_line", "_law_name", "_law_place"]) (O_asked_ahead : Own K mg "asked_ahead" s_asked_ahead f_asked_ahead fd_asked_ahead ["row", "thing", "place"]) (O_so_manieth : Own K mg "so_manieth" s_so_manieth f_so_manieth fd_so_manieth ["row", "thing", "number"]) (O_asked_before : Own K mg "asked_before" s_asked_before f_asked_before fd_asked_before ["row", "place"]) (O_ask_at : Own K mg "ask_at" s_ask_at f_ask_at fd_ask_at ["row", "place"]) (O_l_thing_right : Own K mg "_law_thing_right" s_l_thing_right f_l_thing_right fd_l_thing_right ["_law_dice_here", "_law_handed", "_law_line", "_law_name"])
    (G_l_roll : FnOk P w K mg base CX0 1 f_l_roll fd_l_roll ["_law_dice_here", "_law_many_here"] spRollW) (G_l_many : FnOk P w K mg base CX0 15 f_l_many fd_l_many ["_law_line"] (spCnt 14 rowD manyR)) (G_l_same : FnOk P w K mg base CX0 4 f_l_same fd_l_same ["_law_found", "_law_due"] (spSame 3))
    (G_l_counted : FnOk P w K mg base CX0 15 f_l_counted fd_l_counted ["_law_line", "_law_name"] (spOf 14 rowD cntR)) (G_l_ahead : FnOk P w K mg base CX0 27 f_l_ahead fd_l_ahead ["_law_line", "_law_name", "_law_place"] (spAh 12)) (G_asked_ahead : FnOk P w K mg base CX0 28 f_asked_ahead fd_asked_ahead ["row", "thing", "place"] spAA)
    (G_so_manieth : FnOk P w K mg base CX0 28 f_so_manieth fd_so_manieth ["row", "thing", "number"] spSo) (G_asked_before : FnOk P w K mg base CX0 28 f_asked_before fd_asked_before ["row", "place"] spBe) (G_ask_at : FnOk P w K mg base CX0 28 f_ask_at fd_ask_at ["row", "place"] spAt) :
    FnOk P w K mg base CX0 29 f_l_thing_right fd_l_thing_right ["_law_dice_here", "_law_handed", "_law_line", "_law_name"] spTR := by
  refine O_l_thing_right.F.ok sc_l_thing_right (fun vs H Q E h => by obtain ⟨d, d0, N, x, y, dx, dy, z, rfl, _⟩ := h; rfl) (fun cdv A outer s H vs Q E hr h => ?_)
  obtain ⟨d, d0, N, x, y, dx, dy, z, rfl, hD, hN, hx, hy, okx, rx, ry, depx, depy, wx, wy, eo, tz, q⟩ := h
  refine ⟨_, (pss_cons (ps_set (i := 4) sc_l_thing_right.nd rfl (Or.inl rfl) (pe_call G_l_many (hr.mono (by omega)) rfl O_l_many.m O_l_many.F.kp O_l_many.b .nil pass0 (pa_cons (pv 2) pa_nil)))
    (pss_cons (ps_for PassesOwn.never rfl (k_list (K := K) rfl (pe_lst (pa_cons pe_int (pa_cons (pv 4) (pa_cons (pe_call G_l_roll (hr.mono (by omega)) rfl O_l_roll.m O_l_roll.F.kp O_l_roll.b .nil pass0 (pa_cons (pv 0) (pa_cons (pe_op op_add (pv 4) pe_int) pa_nil))) (pa_cons (pe_call G_l_roll (hr.mono (by omega)) rfl O_l_roll.m O_l_roll.F.kp O_l_roll.b .nil pass0 (pa_cons (pv 0) (pa_cons (pe_op op_add (pv 4) pe_int) pa_nil))) pa_nil)))))) (pg_name (i := 5) sc_l_thing_right.nd rfl (Or.inl rfl))
    (pss_one (ps_if (pt_not (pt_val (pe_call G_l_same (hr.mono (by omega)) rfl O_l_same.m O_l_same.F.kp O_l_same.b .nil pass0 (pa_cons (pe_call G_asked_ahead (hr.mono (by omega)) rfl O_asked_ahead.m O_asked_ahead.F.kp O_asked_ahead.b .nil pass0 (pa_cons (pv 1) (pa_cons (pv 3) (pa_cons (pv 5) pa_nil)))) (pa_cons (pe_call G_l_ahead (hr.mono (by omega)) rfl O_l_ahead.m O_l_ahead.F.kp O_l_ahead.b .nil pass0 (pa_cons (pv 2) (pa_cons (pv 3) (pa_cons (pv 5) pa_nil)))) pa_nil)))))
    (pss_one (ps_ret pe_bl))
    pss_nil)))
    (pss_cons (ps_set (i := 6) sc_l_thing_right.nd rfl (Or.inl rfl) (pe_call G_l_counted (hr.mono (by omega)) rfl O_l_counted.m O_l_counted.F.kp O_l_counted.b .nil pass0 (pa_cons (pv 2) (pa_cons (pv 3) pa_nil))))
    (pss_cons (ps_for PassesOwn.never rfl (k_list (K := K) rfl (pe_lst (pa_cons pe_int (pa_cons (pe_op op_sub (pv 6) pe_int) (pa_cons (pe_call G_l_roll (hr.mono (by omega)) rfl O_l_roll.m O_l_roll.F.kp O_l_roll.b .nil pass0 (pa_cons (pv 0) (pa_cons (pe_op op_add (pv 6) pe_int) pa_nil))) (pa_cons (pe_call G_l_roll (hr.mono (by omega)) rfl O_l_roll.m O_l_roll.F.kp O_l_roll.b .nil pass0 (pa_cons (pv 0) (pa_cons (pe_op op_add (pv 6) pe_int) pa_nil))) pa_nil)))))) (pg_name (i := 7) sc_l_thing_right.nd rfl (Or.inl rfl))
    (pss_one (ps_if (pt_chain op_le op_lt pe_int (pv 7) (pv 6))
    (pss_cons (ps_set (i := 5) sc_l_thing_right.nd rfl (Or.inl rfl) (pe_call G_so_manieth (hr.mono (by omega)) rfl O_so_manieth.m O_so_manieth.F.kp O_so_manieth.b .nil pass0 (pa_cons (pv 1) (pa_cons (pv 3) (pa_cons (pv 7) pa_nil)))))
    (pss_cons (ps_if (PW.pt (pw_or (pt_not (pt_val (pe_call G_l_same (hr.mono (by omega)) rfl O_l_same.m O_l_same.F.kp O_l_same.b .nil pass0 (pa_cons (pv 5) (pa_cons (pe_callB (call_max2 rfl) (by rfl) T.n_max (by decide +kernel) (pa_cons pe_int (pa_cons (pv 5) pa_nil))) pa_nil))))) (pw_or (pt_cmpR op_ge (pv 5) (pv 4) (nomark _)) (pw_or1 (pt_cmpR op_ne (pe_call G_ask_at (hr.mono (by omega)) rfl O_ask_at.m O_ask_at.F.kp O_ask_at.b .nil pass0 (pa_cons (pv 1) (pa_cons (pv 5) pa_nil))) (pv 3) (nomark _))))))
    (pss_one (ps_ret pe_bl))
    pss_nil)
    (pss_cons (ps_set (i := 8) sc_l_thing_right.nd rfl (Or.inl rfl) (pe_ifExp (pt_cmpR op_eq (pv 7) pe_int (nomark _)) pe_non (pe_call G_so_manieth (hr.mono (by omega)) rfl O_so_manieth.m O_so_manieth.F.kp O_so_manieth.b .nil pass0 (pa_cons (pv 1) (pa_cons (pv 3) (pa_cons (pe_op op_sub (pv 7) pe_int) pa_nil))))))
    (pss_one (ps_if (PW.pt (pw_or (pt_cmpR op_ne (pe_call G_l_ahead (hr.mono (by omega)) rfl O_l_ahead.m O_l_ahead.F.kp O_l_ahead.b .nil pass0 (pa_cons (pv 2) (pa_cons (pv 3) (pa_cons (pv 5) pa_nil)))) (pv 7) (nomark _)) (pw_or1 (pt_not (pt_val (pe_call G_l_same (hr.mono (by omega)) rfl O_l_same.m O_l_same.F.kp O_l_same.b .nil pass0 (pa_cons (pe_call G_asked_before (hr.mono (by omega)) rfl O_asked_before.m O_asked_before.F.kp O_asked_before.b .nil pass0 (pa_cons (pv 1) (pa_cons (pv 5) pa_nil))) (pa_cons (pv 8) pa_nil))))))))
    (pss_one (ps_ret pe_bl))
    pss_nil)))))
    pss_nil)))
    (pss_cons (ps_set (i := 9) sc_l_thing_right.nd rfl (Or.inl rfl) (pe_op op_add (pv 6) (pe_call G_l_roll (hr.mono (by omega)) rfl O_l_roll.m O_l_roll.F.kp O_l_roll.b .nil pass0 (pa_cons (pv 0) (pa_cons (pe_op op_pow pe_int pe_int) pa_nil)))))
    (pss_one (ps_ret (pe_and (pe_cmpR op_isN (pe_call G_so_manieth (hr.mono (by omega)) rfl O_so_manieth.m O_so_manieth.F.kp O_so_manieth.b .nil pass0 (pa_cons (pv 1) (pa_cons (pv 3) (pa_cons (pv 6) pa_nil)))) pe_non (nomark _)) (pe_one (pe_cmpR op_isN (pe_call G_so_manieth (hr.mono (by omega)) rfl O_so_manieth.m O_so_manieth.F.kp O_so_manieth.b .nil pass0 (pa_cons (pv 1) (pa_cons (pv 3) (pa_cons (pv 9) pa_nil)))) pe_non (nomark _))))))))))), ?_⟩
  have eM : manyR dx = manyR dy := by have a := (outR_get dx rx).1; have b := (outR_get dy ry).1; rw [eo] at a; omega
  have eC : cntR dx z = cntR dy z := by unfold cntR; rw [eo]
  have eA : ∀ p, ahd dx z p = ahd dy z p := fun p => by unfold ahd; rw [eo]
  have mb := many_bits ry (by omega : wD dy ≤ 2000) (by omega)
  have cb := cnt_bits ry (by omega : wD dy ≤ 2000) (by omega) z
  have c0 := cntR_le ry z
  have inS : d ∈ [d, d0] := by simp
  have in0S : d0 ∈ [d, d0] := by simp
  -- how many
  refine ⟨_, rfl, y, dy, rfl, hy.mono hid_same, ry, by omega, by omega, by omega, fun H1 s1 => ?_⟩
  have hD1 := hD.same s1
  have M0 := (manyR_bound dy ry).1
  have lM := log_succ M0 mb
  have lC := log_succ c0.1 cb
  generalize hM : manyR dy = M at eM M0 lM mb c0
  generalize hC : cntR dy z = C at eC lC cb c0
  have rd : ∀ {H' : Hp}, Chg d d0 H H' → DD H' x dx ∧ DD H' y dy := fun {H'} e => ⟨(hx.mono (e.hid (S := [d, d0]) inS in0S)).mono hid_same, (hy.mono (e.hid (S := [d, d0]) inS in0S)).mono hid_same⟩
  have c01 := Chg.of (d := d) (d0 := d0) s1
  -- places
  refine ⟨_, rfl, _, rfl, _, rfl, _, _, rfl, rfl, d, d0, _, _, rfl, hD1, by omega, by omega, lM, fun r1 H2 r10 r11 c2 hD2 => ⟨_, rfl, _, rfl, _, _, rfl, rfl, d, d0, _, _, rfl, hD2, by omega, by omega, lM, fun r2 H3 r20 r21 c3 hD3 => ⟨(by show 4 ≤ sizeLine; decide), fun l1 hl1 => ?_⟩⟩⟩
  have c03 := (c01.trans c2).trans c3
  have t4 := same_new hl1 (.lst [.int 0, .int M, .int r1, .int r2])
  have hl1' : upd H3 l1 (.lst [.int 0, .int M, .int r1, .int r2]) l1 = some (.lst [.int 0, .int M, .int r1, .int r2]) := upd_same
  have hD4 := hD3.same t4
  have c04 := c03.same t4
  have zb : ∀ p ∈ [0, M, r1, r2], 0 ≤ p ∧ p ≤ M := by
    intro p hp
    simp only [List.mem_cons, List.not_mem_nil, or_false] at hp
    rcases hp with rfl | rfl | rfl | rfl <;> omega
  refine ⟨l1, rfl, ⟨_, SqL.of hl1'⟩, ?_⟩
  generalize upd H3 l1 (.lst [.int 0, .int M, .int r1, .int r2]) = H4 at t4 hl1' hD4 c04
  replace hl1' : H4 l1 = some (.lst ([0, M, r1, r2].map V.int)) := hl1'
  generalize [0, M, r1, r2] = zs at hl1' zb
  refine for_list (K := K) (a := l1) (xs := zs.map V.int) (fun j σ H' => ∃ (s5 s6 s7 s8 s9 : Option V), σ = [some (.ref d), some x, some y, some (.str z), some (.int M), s5, s6, s7, s8, s9] ∧ Same H4 H') ⟨_, _, _, _, _, rfl, Same.refl _⟩ (fun j σ H' _ u => ?_) ?_ ?_
  · obtain ⟨_, _, _, _, _, _, u⟩ := u
    exact SqL.of (u _ _ hl1')
  · rintro j v σ H5 hj ⟨s5, s6, s7, s8, s9, rfl, e5⟩
    obtain ⟨p, hp, rfl⟩ : ∃ p ∈ zs, v = V.int p := by
      obtain ⟨p, hp, e⟩ := List.mem_map.mp (List.mem_of_getElem? hj)
      exact ⟨p, hp, e.symm⟩
    obtain ⟨p0, pM⟩ := zb p hp
    obtain ⟨dx5, dy5⟩ := rd (c04.same e5)
    refine ⟨_, rfl, _, rfl, _, rfl, x, dx, z, p, rfl, dx5, okx, tz, rx, by omega, by omega, p0, by rw [eM]; exact pM, fun H6 e6 => ⟨_, rfl, _, rfl, _, rfl, y, dy, z, p, rfl, dy5.mono e6, ry, by omega, by omega, by omega, p0, by rw [hM]; exact pM, fun H7 e7 => ?_⟩⟩
    rw [eA]
    refine ⟨_, _, .int (ahd dy z p), rfl, .int _, .int _, rfl, by show (0 : Nat) < 3; decide, by show (1 : Nat) ≤ 2000; decide, fun H8 e8 => ⟨_, rfl, ?_⟩⟩
    refine ite2 (fun u => nomatch u) (fun _ => ?_)
    exact ⟨_, _, _, _, _, rfl, e5.trans (e6.trans (e7.trans e8))⟩
  rintro σ H5 ⟨s5, s6, s7, s8, s9, rfl, e5⟩
  have c05 := c04.same e5
  have hD5 := hD4.same e5
  -- how often
  refine ⟨_, rfl, _, rfl, y, dy, z, rfl, (rd c05).2, ry, by omega, by omega, by omega, fun H6 e6 => ?_⟩
  rw [hC]
  have hD6 := hD5.same e6
  have c06 := c05.same e6
  refine ⟨_, rfl, _, _, rfl, rfl, _, rfl, _, rfl, _, _, rfl, rfl, d, d0, _, _, rfl, hD6, by omega, by omega, lC, fun r3 H7 r30 r31 c7 hD7 => ⟨_, rfl, _, rfl, _, _, rfl, rfl, d, d0, _, _, rfl, hD7, by omega, by omega, lC, fun r4 H8 r40 r41 c8 hD8 => ⟨(by show 4 ≤ sizeLine; decide), fun l2 hl2 => ?_⟩⟩⟩
  have c08 := (c06.trans c7).trans c8
  have t9 := same_new hl2 (.lst [.int 0, .int (C - 1), .int r3, .int r4])
  have hl2' : upd H8 l2 (.lst [.int 0, .int (C - 1), .int r3, .int r4]) l2 = some (.lst [.int 0, .int (C - 1), .int r3, .int r4]) := upd_same
  have hD9 := hD8.same t9
  have c09 := c08.same t9
  refine ⟨l2, rfl, ⟨_, SqL.of hl2'⟩, ?_⟩
  generalize upd H8 l2 (.lst [.int 0, .int (C - 1), .int r3, .int r4]) = H9 at t9 hl2' hD9 c09
  replace hl2' : H9 l2 = some (.lst ([0, C - 1, r3, r4].map V.int)) := hl2'
  generalize [0, C - 1, r3, r4] = ws at hl2'
  refine for_list (K := K) (a := l2) (xs := ws.map V.int) (fun j σ H' => ∃ (s5 s7 s8 s9 : Option V), σ = [some (.ref d), some x, some y, some (.str z), some (.int M), s5, some (.int C), s7, s8, s9] ∧ Same H9 H') ⟨_, _, _, _, rfl, Same.refl _⟩ (fun j σ H' _ u => ?_) ?_ ?_
  · obtain ⟨_, _, _, _, _, u⟩ := u
    exact SqL.of (u _ _ hl2')
  · rintro j v σ H10 hj ⟨s5, s7, s8, s9, rfl, e10⟩
    obtain ⟨n, _, rfl⟩ : ∃ p ∈ ws, v = V.int p := by
      obtain ⟨p, hp, e⟩ := List.mem_map.mp (List.mem_of_getElem? hj)
      exact ⟨p, hp, e.symm⟩
    obtain ⟨dx10, dy10⟩ := rd (c09.same e10)
    refine ⟨_, rfl, _, _, rfl, rfl, _, rfl, ?_⟩
    refine ite2 (fun k1 => ?_) (fun k1 => ?_)
    case refine_2 =>
      refine ⟨_, rfl, ?_⟩
      refine ite2 (fun u => nomatch u) (fun _ => ?_)
      exact ⟨_, _, _, _, rfl, e10⟩
    have n0 : 0 ≤ n := by simpa using k1
    refine ⟨_, rfl, _, _, rfl, rfl, _, rfl, ?_⟩
    refine ite2 (fun k2 => ?_) (fun k2 => ?_)
    case refine_2 => exact ⟨_, _, _, _, rfl, e10⟩
    have nC : n < C := by simpa using k2
    refine ⟨_, rfl, _, rfl, _, rfl, x, dx, z, n, rfl, dx10, okx, tz, rx, by omega, by omega, n0, fun u => absurd u (by rw [eC]; omega), fun _ H11 p e11 nth => ?_⟩
    have gx := outR_get dx rx
    have pl := isNth_lt nth
    have pM : (p : Int) < M := by omega
    have atz : atR dx (p : Int) = z := by
      have g := gx.2 p (by omega)
      rw [nth.1] at g
      exact (Option.some.inj g).symm
    have ahx : ahd dx z p = n := by
      unfold ahd
      rw [show ((p : Nat) : Int).toNat = p from rfl, nth.2]
      omega
    have ahy : ahd dy z p = n := by rw [← eA]; exact ahx
    have mx : (if ((p : Nat) : Int) > 0 then ((p : Nat) : Int) else 0) = (p : Nat) := by
      by_cases g : ((p : Nat) : Int) > 0
      · rw [if_pos g]
      · rw [if_neg g]; omega
    have d3 : ∀ i : Int, (PyData.int i).depth < 3 := fun i => by show (0 : Nat) < 3; decide
    have w3 : ∀ i : Int, wD (.int i) ≤ 2000 := fun i => by show (1 : Nat) ≤ 2000; decide
    refine ⟨_, rfl, _, rfl, _, _, rfl, ?_⟩
    rw [mx]
    refine ⟨_, _, .int (p : Nat), rfl, .int _, .int _, rfl, d3 _, w3 _, fun H12 e12 => ⟨_, rfl, ?_⟩⟩
    refine ite2 (fun u => nomatch u) (fun _ => ?_)
    refine ⟨_, rfl, _, rfl, _, _, rfl, rfl, _, rfl, ?_⟩
    refine ite2 (fun u => absurd (show M ≤ (p : Int) by simpa using u) (by omega)) (fun _ => ?_)
    have e112 := e11.trans e12
    refine ⟨_, rfl, _, rfl, x, dx, (p : Nat), rfl, dx10.mono e112, okx, by omega, by omega, rx, by omega, by rw [eM]; exact pM, fun H13 e13 => ⟨_, rfl, rfl, _, rfl, ?_⟩⟩
    rw [atz]
    refine ite2 (fun u => absurd u (by simp)) (fun _ => ?_)
    have e113 := e112.trans e13
    refine ⟨_, rfl, rfl, _, rfl, ?_⟩
    refine ite2 (fun k3 => ?_) (fun k3 => ?_)
    · have nz : n = 0 := by simpa using k3
      refine ⟨_, rfl, _, rfl, _, rfl, y, dy, z, (p : Nat), rfl, dy10.mono e113, ry, by omega, by omega, by omega, by omega, by rw [hM]; omega, fun H14 e14 => ⟨_, rfl, rfl, _, rfl, ?_⟩⟩
      rw [ahy]
      refine ite2 (fun u => absurd u (by simp)) (fun _ => ?_)
      have e114 := e113.trans e14
      refine ⟨_, rfl, _, rfl, x, dx, (p : Nat), rfl, dx10.mono e114, okx, rx, by omega, by omega, by omega, by rw [eM]; exact pM, fun _ H15 e15 => ⟨_, rfl, _, _, .none, rfl, .non, .non, rfl, by decide, by decide, fun H16 e16 => ⟨_, rfl, ?_⟩⟩, fun u => absurd u (by rw [atz, ahx]; omega)⟩
      refine ite2 (fun u => nomatch u) (fun _ => ?_)
      exact ⟨_, _, _, _, rfl, e10.trans (e114.trans (e15.trans e16))⟩
    · have nz : 0 < n := by
        have : ¬ n = 0 := by simpa using k3
        omega
      refine ⟨_, rfl, _, rfl, _, rfl, _, _, rfl, rfl, x, dx, z, n - 1, rfl, dx10.mono e113, okx, tz, rx, by omega, by omega, by omega, fun u => absurd u (by rw [eC]; omega), fun _ H14 p2 e14 nth2 => ?_⟩
      have e114 := e113.trans e14
      refine ⟨_, rfl, _, rfl, _, rfl, y, dy, z, (p : Nat), rfl, dy10.mono e114, ry, by omega, by omega, by omega, by omega, by rw [hM]; omega, fun H15 e15 => ⟨_, rfl, rfl, _, rfl, ?_⟩⟩
      rw [ahy]
      refine ite2 (fun u => absurd u (by simp)) (fun _ => ?_)
      have e115 := e114.trans e15
      refine ⟨_, rfl, _, rfl, x, dx, (p : Nat), rfl, dx10.mono e115, okx, rx, by omega, by omega, by omega, by rw [eM]; exact pM, fun u => absurd u (by rw [atz, ahx]; omega), fun _ H16 p3 e16 nth3 => ?_⟩
      rw [atz, ahx] at nth3
      have e32 := isNth_inj nth3 nth2
      subst e32
      refine ⟨_, rfl, _, _, .int (p3 : Nat), rfl, .int _, .int _, rfl, d3 _, w3 _, fun H17 e17 => ⟨_, rfl, ?_⟩⟩
      refine ite2 (fun u => nomatch u) (fun _ => ?_)
      exact ⟨_, _, _, _, rfl, e10.trans (e115.trans (e16.trans e17))⟩
  rintro σ H10 ⟨s5, s7, s8, s9, rfl, e10⟩
  have c010 := c09.same e10
  have hD10 := hD9.same e10
  refine ⟨_, rfl, _, rfl, _, _, rfl, rfl, ⟨by decide, by decide, by decide⟩, d, d0, _, _, rfl, hD10, by omega, by decide, by decide, fun r5 H11 r50 r51 c11 hD11 => ⟨_, _, rfl, rfl, ?_⟩⟩
  have c011 := c010.trans c11
  obtain ⟨dx11, _⟩ := rd c011
  refine ⟨_, rfl, _, rfl, _, rfl, x, dx, z, C, rfl, dx11, okx, tz, rx, by omega, by omega, c0.1, fun _ H12 e12 => ⟨rfl, _, rfl, ?_⟩, fun u => absurd u (by rw [eC]; omega)⟩
  refine ite2 (fun _ => ?_) (fun u => absurd (by decide) u)
  refine ⟨_, rfl, _, rfl, _, rfl, x, dx, z, C + r5, rfl, dx11.mono e12, okx, tz, rx, by omega, by omega, by omega, fun _ H13 e13 => ⟨rfl, ?_⟩, fun u => absurd u (by rw [eC]; omega)⟩
  rw [show decide (V.non = V.non) = true from decide_eq_true rfl]
  exact q H13 ((c011.same e12).same e13) ((hD11.same (e12.trans e13)).mono (by omega))
end
end K03

set_option Elab.async false
set_option linter.all false
set_option maxRecDepth 100000
set_option maxHeartbeats 4000000
set_option exponentiation.threshold 20000
namespace K03
open PySem PySem.Spec L2 MC
open PyProof.Rows hiding St
def spNR : Sp := fun vs H Q _ => ∃ (x : V) (a : Addr) (dx : PyData), vs = [x, .ref a] ∧ DD H x dx ∧ okD dx = true ∧ rowD dx = true ∧ dx.depth ≤ 9 ∧ wD dx ≤ 900 ∧ manyR dx ≤ 4000 ∧ H a = some (.lst ((outR dx).map V.str)) ∧ ∀ H', Same H H' → Q (.bl true) H'
section
variable {P : Program} {w : World} {K : PySem.W.Frag} {mg : Str → Option Value} {base : Heap}
variable {f_asked_before f_l_near_right : Addr} {fd_asked_before fd_l_near_right : FuncData}
theorem ok_near_right (T : Txt K mg) (O_asked_before : Own K mg "asked_before" s_asked_before f_asked_before fd_asked_before ["row", "place"]) (O_l_near_right : Own K mg "_law_near_right" s_l_near_right f_l_near_right fd_l_near_right ["_law_handed", "_law_asks"]) (G_asked_before : FnOk P w K mg base CX0 28 f_asked_before fd_asked_before ["row", "place"] spBe) : FnOk P w K mg base CX0 29 f_l_near_right fd_l_near_right ["_law_handed", "_law_asks"] spNR := by
  refine O_l_near_right.F.ok sc_l_near_right (fun vs H Q E h => by obtain ⟨x, a, dx, rfl, _⟩ := h; rfl) (fun cdv A outer s H vs Q E hr h => ?_)
  obtain ⟨x, a, dx, rfl, hx, okx, rx, depx, wx, my, ha, q⟩ := h
  have hu1 : (A.deeper (envOfC "_law_near_right" (defScope s_l_near_right) s.heap.objs.size f_l_near_right cdv)).units + 1 < cLine := by have := hr.un; omega
  refine ⟨_, (pss_cons (ps_set (i := 2) sc_l_near_right.nd rfl (Or.inl rfl) pe_dnewK)
    (pss_cons (ps_for PassesOwn.never rfl (k_enX (K := K) rfl (by rfl) T.n_enumerate (pa_cons (pv 1) pa_nil)) (pg_tup rfl (pgs_cons (pg_name (i := 3) sc_l_near_right.nd rfl (Or.inl rfl)) (pgs_cons (pg_name (i := 4) sc_l_near_right.nd rfl (Or.inl rfl)) pgs_nil)))
    (pss_cons (ps_if (PW.pt (pw_and (pt_cmpR op_eq (pe_op op_mod (pv 3) (pe_op op_add pe_int (pe_op op_fdivW (pe_callB (k_len_seq (K := K) rfl) (by rfl) T.n_len (by decide +kernel) (pa_cons (pv 1) pa_nil)) pe_int))) pe_int (nomark _)) (pw_and1 (pt_cmpR op_ne (pe_call G_asked_before (hr.mono (by omega)) rfl O_asked_before.m O_asked_before.F.kp O_asked_before.b .nil pass0 (pa_cons (pv 0) (pa_cons (pv 3) pa_nil))) (pe_dget1 hu1 (pv 2) (pv 4) ⟨by rfl, by rfl, by rfl, by rfl⟩) (nomark _)))))
    (pss_one (ps_ret pe_bl))
    pss_nil)
    (pss_one (ps_asg (pv 3) (pg_sub (pv 2) (pv 4) (set_dict hu1))))))
    (pss_one (ps_ret pe_bl)))), ?_⟩
  have gx := outR_get dx rx
  intro kd hkd
  have s0 := same_new hkd (.dK [])
  refine ⟨_, rfl, for_enX (K := K) (xs := (outR dx).map V.str) (.inl (s0 _ _ ha)) (fun i σ H' => ∃ (kvs : List (Key × V)) (s3 s4 : Option V), σ = [some x, some (.ref a), some (.ref kd), s3, s4] ∧ Same H H' ∧ H' kd = some (.dK kvs) ∧ kvs.length ≤ i ∧
      ∀ z, (aheadL (outR dx) z i = 0 → valV kvs (.inr z) = none) ∧ (0 < aheadL (outR dx) z i → ∃ r : Nat, IsNth (outR dx) z (aheadL (outR dx) z i - 1) r ∧ valV kvs (.inr z) = some (.int (r : Nat))))
    ⟨[], _, _, rfl, s0, upd_same, Nat.le_refl _, fun z => ⟨fun _ => rfl, fun u => absurd u (by rw [aheadL_zero]; omega)⟩⟩ ?_ ?_ ?_⟩
  · rintro i σ' H' hi ⟨kvs, s3, s4, _, e, _⟩
    exact (e _ _ ha).trans (s0 _ _ ha).symm
  · rintro i xv tp σ H1 hi ⟨kvs, s3, s4, rfl, e1, hk, lk, inv⟩ htp
    obtain ⟨z, hz, rfl⟩ : ∃ z, (outR dx)[i]? = some z ∧ xv = .str z := by
      rw [List.getElem?_map] at hi
      cases e : (outR dx)[i]? with
      | none => rw [e] at hi; cases hi
      | some z => rw [e] at hi; exact ⟨z, rfl, (Option.some.inj hi).symm⟩
    have il := (List.getElem?_eq_some_iff.mp hz).1
    have st := same_new htp (.tup [.int (i : Nat), .str z])
    have e2 := e1.trans st
    have hk2 := st _ _ hk
    have atz : atR dx (i : Nat) = z := by
      have g := gx.2 i (by omega)
      rw [hz] at g
      exact (Option.some.inj g).symm
    have ahz : ahd dx z (i : Nat) = (aheadL (outR dx) z i : Nat) := rfl
    have ahs : ∀ y, aheadL (outR dx) y (i + 1) = aheadL (outR dx) y i + (if z = y then 1 else 0) := aheadL_succ hz
    -- what is known now
    have more : ∀ {H2 : Hp}, Same (upd H1 tp (.tup [.int (i : Nat), .str z])) H2 → ∃ (kvs' : List (Key × V)) (s3 s4 : Option V), [some x, some (.ref a), some (.ref kd), some (.int (i : Nat)), some (.str z)] = [some x, some (.ref a), some (.ref kd), s3, s4] ∧ Same H (upd H2 kd (.dK (putK kvs (.inr z) (.int (i : Nat))))) ∧
        upd H2 kd (.dK (putK kvs (.inr z) (.int (i : Nat)))) kd = some (.dK kvs') ∧ kvs'.length ≤ i + 1 ∧
        ∀ y, (aheadL (outR dx) y (i + 1) = 0 → valV kvs' (.inr y) = none) ∧ (0 < aheadL (outR dx) y (i + 1) → ∃ r : Nat, IsNth (outR dx) y (aheadL (outR dx) y (i + 1) - 1) r ∧ valV kvs' (.inr y) = some (.int (r : Nat))) := fun {H2} e3 => by
      refine ⟨putK kvs (.inr z) (.int (i : Nat)), _, _, rfl, same_mut (e2.trans e3) hkd _, upd_same, ?_, fun y => ?_⟩
      · have : (putK kvs (.inr z : Key) (V.int (i : Nat))).length ≤ kvs.length + 1 := by
          unfold putK
          split <;> simp
        omega
      · rw [ahs y, valV_put]
        by_cases e : z = y
        · subst e
          rw [if_pos rfl, if_pos rfl]
          refine ⟨fun u => by omega, fun _ => ⟨i, ⟨hz, by omega⟩, rfl⟩⟩
        · rw [if_neg e, if_neg (fun u : (Sum.inr y : Key) = .inr z => e (by injection u with u; exact u.symm)), Nat.add_zero]
          exact inv y
    refine ⟨tp, _, rfl, SqT.of upd_same, rfl, _, _, rfl, _, _, rfl, rfl, ?_⟩
    have ha2 := e2 _ _ ha
    have kl : kvs.length < sizeLine := Nat.lt_of_le_of_lt (show _ ≤ 4000 by omega) (by decide)
    refine ⟨_, rfl, _, rfl, _, _, rfl, .inl (SqL.of ha2), _, _, rfl, rfl, wide_div (b := 10) (by decide) (by decide) (by decide) (by decide), _, _, rfl, rfl, _, _, rfl, rfl, ?_, rfl, _, rfl, ?_⟩
    · show (0 : Int) < 1 + _ / 40
      have := Int.ediv_nonneg (show (0 : Int) ≤ (((outR dx).map V.str).length : Nat) by omega) (show (0 : Int) ≤ 40 by decide)
      omega
    refine ite2 (fun _ => ?_) (fun _ => ?_)
    · refine ⟨_, rfl, _, rfl, x, dx, (i : Nat), rfl, hx.mono e2, okx, rx, by omega, by omega, by omega, by omega, fun u H2 e3 => ?_, fun u H2 r e3 nth => ?_⟩
      · rw [atz, ahz] at u
        have g := (inv z).1 (by omega)
        refine ⟨_, rfl, kd, rfl, .inl ⟨kvs, .inl (e3 _ _ hk2)⟩, _, rfl, none, .inl ⟨kvs, .inr z, .inl (e3 _ _ hk2), rfl, g.symm⟩, rfl, _, rfl, ?_⟩
        refine ite2 (fun v => absurd v (by decide)) (fun _ => ?_)
        exact ⟨_, rfl, _, rfl, _, rfl, kd, _, rfl, .inl ⟨kvs, .inr z, e3 _ _ hk2, rfl, kl, rfl⟩, more e3⟩
      · rw [atz, ahz] at u nth
        obtain ⟨r2, n2, g⟩ := (inv z).2 (by omega)
        rw [show (((aheadL (outR dx) z i : Nat) : Int) - 1).toNat = aheadL (outR dx) z i - 1 by omega] at nth
        have er := isNth_inj nth n2
        subst er
        refine ⟨_, rfl, kd, rfl, .inl ⟨kvs, .inl (e3 _ _ hk2)⟩, _, rfl, some (.int (r : Nat)), .inl ⟨kvs, .inr z, .inl (e3 _ _ hk2), rfl, g.symm⟩, rfl, _, rfl, ?_⟩
        refine ite2 (fun v => absurd v (by simp)) (fun _ => ?_)
        exact ⟨_, rfl, _, rfl, _, rfl, kd, _, rfl, .inl ⟨kvs, .inr z, e3 _ _ hk2, rfl, kl, rfl⟩, more e3⟩
    · exact ⟨_, rfl, _, rfl, _, rfl, kd, _, rfl, .inl ⟨kvs, .inr z, hk2, rfl, kl, rfl⟩, more (Same.refl _)⟩
  · rintro σ H1 ⟨kvs, s3, s4, rfl, e1, _⟩
    exact q H1 e1
end
end K03

set_option Elab.async false
set_option linter.all false
set_option maxRecDepth 100000
set_option maxHeartbeats 4000000
namespace MC
open PySem PySem.Spec L2
theorem sqL_more {K : PySem.W.Frag} {H H' : Hp} {a : Addr} {xs : List V} (e : Same H H') (h : SqL K H a xs) : SqL K H' a xs := by
  rcases h with (h | ⟨o, h⟩) | h
  · exact SqL.of (e _ _ h)
  · exact .inl (.inr ⟨o, e _ _ h⟩)
  · exact .inr h
theorem new_hid {S : List Addr} {H H' : Hp} (hS : ∀ a ∈ S, H a ≠ none) : Same (New H H') (Hid S H') := fun b o h => by
  obtain ⟨h1, h2⟩ := new_some h
  rw [hid_out (fun z => hS b z h1)]; exact h2
theorem cutV_take (xs : List V) (k : Nat) : cutV xs none (some (k : Int)) = xs.take k := by
  unfold cutV
  rw [HT.sIx_none, HT.sIx_nat]
  simp only [Nat.sub_zero, List.drop_zero]
  by_cases h : k ≤ xs.length
  · rw [Nat.min_eq_left h]
  · rw [Nat.min_eq_right (by omega), List.take_of_length_le (Nat.le_refl _), List.take_of_length_le (by omega)]
end MC
namespace K03
open PySem PySem.Spec L2 MC
open PyProof.Rows hiding St
def spLaw (K : PySem.W.Frag) : Sp := fun vs H Q _ => ∃ (a : Addr) (ns : List Int), vs = [.ref a] ∧ SqL K H a (ns.map V.int) ∧ ns.length ≤ 63 ∧ ∀ H', Q (.bl true) H'
section
variable {P : Program} {w : World} {K : PySem.W.Frag} {mg : Str → Option Value} {base : Heap}
variable {f_asked_ahead f_so_manieth f_l_dice f_l_roll f_l_names f_l_row f_l_dressed f_l_many f_l_out f_l_thing_right f_l_near_right f_law : Addr} {fd_asked_ahead fd_so_manieth fd_l_dice fd_l_roll fd_l_names fd_l_row fd_l_dressed fd_l_many fd_l_out fd_l_thing_right fd_l_near_right fd_law : FuncData}
theorem ok_law (T : Txt K mg) (G_asked_ahead : FnOk P w K mg base CX0 28 f_asked_ahead fd_asked_ahead ["row", "thing", "place"] spAA) (G_so_manieth : FnOk P w K mg base CX0 28 f_so_manieth fd_so_manieth ["row", "thing", "number"] spSo)
    (G_l_dice : FnOk P w K mg base CX0 1 f_l_dice fd_l_dice ["_law_script"] (spDice K)) (G_l_roll : FnOk P w K mg base CX0 1 f_l_roll fd_l_roll ["_law_dice_here", "_law_many_here"] spRoll)
    (G_l_names : FnOk P w K mg base CX0 2 f_l_names fd_l_names ["_law_dice_here", "_law_many_here"] spNames) (G_l_row : FnOk P w K mg base CX0 6 f_l_row fd_l_row ["_law_dice_here", "_law_names_here", "_law_plan", "_law_layers"] (spRow 5))
    (G_l_dressed : FnOk P w K mg base CX0 6 f_l_dressed fd_l_dressed ["_law_dice_here", "_law_line"] (spDress 5)) (G_l_many : FnOk P w K mg base CX0 15 f_l_many fd_l_many ["_law_line"] (spCnt 14 rowD manyR))
    (G_l_out : FnOk P w K mg base CX0 15 f_l_out fd_l_out ["_law_line"] (spOut 14)) (G_l_thing_right : FnOk P w K mg base CX0 29 f_l_thing_right fd_l_thing_right ["_law_dice_here", "_law_handed", "_law_line", "_law_name"] spTR) (G_l_near_right : FnOk P w K mg base CX0 29 f_l_near_right fd_l_near_right ["_law_handed", "_law_asks"] spNR)
    (O_asked_ahead : Own K mg "asked_ahead" s_asked_ahead f_asked_ahead fd_asked_ahead ["row", "thing", "place"]) (O_so_manieth : Own K mg "so_manieth" s_so_manieth f_so_manieth fd_so_manieth ["row", "thing", "number"]) (O_l_dice : Own K mg "_law_dice" s_l_dice f_l_dice fd_l_dice ["_law_script"]) (O_l_roll : Own K mg "_law_roll" s_l_roll f_l_roll fd_l_roll ["_law_dice_here", "_law_many_here"]) (O_l_names : Own K mg "_law_names" s_l_names f_l_names fd_l_names ["_law_dice_here", "_law_many_here"]) (O_l_row : Own K mg "_law_row" s_l_row f_l_row fd_l_row ["_law_dice_here", "_law_names_here", "_law_plan", "_law_layers"]) (O_l_dressed : Own K mg "_law_dressed" s_l_dressed f_l_dressed fd_l_dressed ["_law_dice_here", "_law_line"]) (O_l_many : Own K mg "_law_many" s_l_many f_l_many fd_l_many ["_law_line"]) (O_l_out : Own K mg "_law_out" s_l_out f_l_out fd_l_out ["_law_line"]) (O_l_thing_right : Own K mg "_law_thing_right" s_l_thing_right f_l_thing_right fd_l_thing_right ["_law_dice_here", "_law_handed", "_law_line", "_law_name"]) (O_l_near_right : Own K mg "_law_near_right" s_l_near_right f_l_near_right fd_l_near_right ["_law_handed", "_law_asks"]) (O_law : Own K mg "law" s_law f_law fd_law ["_law_script"]) : FnA Clean P w K mg base CX0 30 f_law fd_law ["_law_script"] (spLaw K) := by
  refine FunA.ok O_law.F sc_law (fun vs H Q E h => by obtain ⟨a, ns, rfl, _⟩ := h; rfl) (fun cdv A outer s H vs Q E hg0 hr h => ?_)
  obtain ⟨a, ns, rfl, hS, hl, q⟩ := h
  have hg : (A.deeper (envOfC "law" (defScope s_law) s.heap.objs.size f_law cdv)).guards = some [] := hg0
  have hu : (A.deeper (envOfC "law" (defScope s_law) s.heap.objs.size f_law cdv)).units + 200 < cLine := by have := hr.un; omega
  have hn : ∃ o, K.lookup sysModules = some o := T.sys
  refine ⟨_, (pss_cons (ps_set (i := 1) sc_law.nd rfl (Or.inl rfl) (pe_call G_l_dice (hr.mono (by omega)) rfl O_l_dice.m O_l_dice.F.kp O_l_dice.b .nil pass0 (pa_cons (pv 0) pa_nil)))
    (pss_cons (ps_for PassesOwn.never rfl (pi_range1 (by rfl) T.n_range (pa_cons (pe_op op_add pe_int (pe_callB (call_min2 rfl) (by rfl) T.n_min (by decide +kernel) (pa_cons pe_int (pa_cons (pe_callB (k_len_seq (K := K) rfl) (by rfl) T.n_len (by decide +kernel) (pa_cons (pv 0) pa_nil)) pa_nil)))) pa_nil)) (pg_name (i := 2) sc_law.nd rfl (Or.inl rfl))
    (pss_cons (ps_set (i := 3) sc_law.nd rfl (Or.inl rfl) (pe_call G_l_names (hr.mono (by omega)) rfl O_l_names.m O_l_names.F.kp O_l_names.b .nil pass0 (pa_cons (pv 1) (pa_cons (pe_op op_add pe_int (pe_call G_l_roll (hr.mono (by omega)) rfl O_l_roll.m O_l_roll.F.kp O_l_roll.b .nil pass0 (pa_cons (pv 1) (pa_cons pe_int pa_nil)))) pa_nil))))
    (pss_cons (ps_set (i := 4) sc_law.nd rfl (Or.inl rfl) (pe_cmpR op_eq (pe_call G_l_roll (hr.mono (by omega)) rfl O_l_roll.m O_l_roll.F.kp O_l_roll.b .nil pass0 (pa_cons (pv 1) (pa_cons pe_int pa_nil))) pe_int (nomark _)))
    (pss_cons (ps_set (i := 5) sc_law.nd rfl (Or.inl rfl) (pe_call G_l_row (hr.mono (by omega)) rfl O_l_row.m O_l_row.F.kp O_l_row.b .nil pass0 (pa_cons (pv 1) (pa_cons (pv 3) (pa_cons (pe_ix (k_ix_list (K := K) rfl) (pe_lst (pa_cons (pe_lst (pa_cons pe_int (pa_cons pe_int pa_nil))) (pa_cons (pe_lst (pa_cons pe_int (pa_cons (pe_op op_pow pe_int pe_int) pa_nil))) pa_nil))) (pe_callTy call_int1 (by rfl) T.n_int (by decide +kernel) (pa_cons (pv 4) pa_nil)) (fun _ _ => rfl)) (pa_cons (pe_ix (k_ix_list (K := K) rfl) (pe_lst (pa_cons pe_int (pa_cons pe_int pa_nil))) (pe_callTy call_int1 (by rfl) T.n_int (by decide +kernel) (pa_cons (pv 4) pa_nil)) (fun _ _ => rfl)) pa_nil))))))
    (pss_cons (ps_set (i := 6) sc_law.nd rfl (Or.inl rfl) (pe_call G_l_dressed (hr.mono (by omega)) rfl O_l_dressed.m O_l_dressed.F.kp O_l_dressed.b .nil pass0 (pa_cons (pv 1) (pa_cons (pv 5) pa_nil))))
    (pss_cons (ps_set (i := 7) sc_law.nd rfl (Or.inl rfl) (pe_callB (call_repr hg hu hn) (by rfl) T.n_repr (by decide +kernel) (pa_cons (pv 6) pa_nil)))
    (pss_cons (ps_for PassesOwn.never rfl (k_list (K := K) rfl (pe_op op_cat (pe_slice (k_sl_list (K := K) rfl) (pv 3) po_none (po_some pe_int)) (pe_lst (pa_cons pe_str pa_nil)))) (pg_name (i := 8) sc_law.nd rfl (Or.inl rfl))
    (pss_one (ps_if (pt_not (pt_val (pe_call G_l_thing_right (hr.mono (by omega)) rfl O_l_thing_right.m O_l_thing_right.F.kp O_l_thing_right.b .nil pass0 (pa_cons (pv 1) (pa_cons (pv 6) (pa_cons (pv 5) (pa_cons (pv 8) pa_nil)))))))
    (pss_one (ps_ret pe_bl))
    pss_nil)))
    (pss_one (ps_if (PW.pt (pw_or (PW.pt (pw_and (pt_cmpR op_lt (pe_call G_l_many (hr.mono (by omega)) rfl O_l_many.m O_l_many.F.kp O_l_many.b .nil pass0 (pa_cons (pv 5) pa_nil)) pe_int (nomark _)) (pw_and1 (pt_not (pt_val (pe_call G_l_near_right (hr.mono (by omega)) rfl O_l_near_right.m O_l_near_right.F.kp O_l_near_right.b .nil pass0 (pa_cons (pv 6) (pa_cons (pe_call G_l_out (hr.mono (by omega)) rfl O_l_out.m O_l_out.F.kp O_l_out.b .nil pass0 (pa_cons (pv 5) pa_nil)) pa_nil)))))))) (pw_or1 (pt_cmpR op_ne (pe_callB (call_repr hg hu hn) (by rfl) T.n_repr (by decide +kernel) (pa_cons (pv 6) pa_nil)) (pv 7) (nomark _)))))
    (pss_one (ps_ret pe_bl))
    pss_nil)))))))))
    (pss_one (ps_ret (pe_and (pe_cmpR op_eq (pe_call G_asked_ahead (hr.mono (by omega)) rfl O_asked_ahead.m O_asked_ahead.F.kp O_asked_ahead.b .nil pass0 (pa_cons (pe_lst pa_nil) (pa_cons pe_str (pa_cons pe_int pa_nil)))) pe_int (nomark _)) (pe_one (pe_cmpR op_isN (pe_call G_so_manieth (hr.mono (by omega)) rfl O_so_manieth.m O_so_manieth.F.kp O_so_manieth.b .nil pass0 (pa_cons (pe_lst pa_nil) (pa_cons pe_str (pa_cons pe_int pa_nil)))) pe_non (nomark _)))))))), ?_⟩
  -- the dice
  refine ⟨_, rfl, a, ns, rfl, hS, hl, fun d d0 H1 s1 dn d0n hD => ?_⟩
  refine ⟨_, rfl, _, _, rfl, .inl (sqL_more s1 hS), _, _, rfl, _, _, rfl, rfl, _, rfl, ?_, ?_, ?_⟩
  · rw [List.length_map]; by_cases z : ((ns.length : Nat) : Int) < 7
    · rw [if_pos z]; omega
    · rw [if_neg z]; omega
  · rw [List.length_map]; by_cases z : ((ns.length : Nat) : Int) < 7
    · rw [if_pos z]; omega
    · rw [if_neg z]; omega
  have n12 : (3 + (if ((ns.map V.int).length : Int) < 7 then ((ns.map V.int).length : Int) else 7)).toNat ≤ 12 := by
    by_cases z : ((ns.map V.int).length : Int) < 7
    · rw [if_pos z]; omega
    · rw [if_neg z]; omega
  generalize (3 + (if ((ns.map V.int).length : Int) < 7 then ((ns.map V.int).length : Int) else 7)).toNat = n at n12
  refine for_range (lo := 0) (n := n) (fun i σ H' => ∃ (s2 s3 s4 s5 s6 s7 s8 : Option V), σ = [some (.ref a), some (.ref d), s2, s3, s4, s5, s6, s7, s8] ∧ Dice H' d d0 (i * 60000)) ⟨_, _, _, _, _, _, _, rfl, by simpa using hD⟩ ?_ ?_
  · rintro i σ H2 hi ⟨s2, s3, s4, s5, s6, s7, s8, rfl, hD2⟩
    have i12 : i < 12 := by omega
    obtain ⟨nd, nd0, ndd⟩ := hD2.at
    -- the names
    refine ⟨_, rfl, _, rfl, d, d0, _, 9, rfl, hD2, by omega, by omega, by omega, fun r1 H3 r10 r11 c3 hD3 => ⟨_, _, rfl, rfl, d, d0, _, _, rfl, hD3, by omega, by omega, by omega, fun nm H4 ys ynl yok ynd nmn c4 hnm nnd nnd0 hD4 => ?_⟩⟩
    obtain ⟨y0, yr, rfl⟩ : ∃ y0 yr, ys = y0 :: yr := by
      cases ys with
      | nil => simp at ynl; omega
      | cons y0 yr => exact ⟨_, _, rfl⟩
    generalize hys : y0 :: yr = ys at hnm ynl yok ynd
    -- far or near
    refine ⟨_, rfl, d, d0, _, 2, rfl, hD4, by omega, by omega, by omega, fun r2 H5 r20 r21 c5 hD5 => ⟨rfl, ?_⟩⟩
    have hnm5 := c5 _ _ nnd nnd0 hnm
    generalize decide (V.int r2 = V.int 0) = b
    refine ⟨_, rfl, _, rfl, (by show 2 ≤ sizeLine; decide), fun q1 hq1 => ⟨_, _, rfl, rfl, ⟨by decide, by decide, by decide⟩, (by show 2 ≤ sizeLine; decide), fun q2 hq2 => ⟨(by show 2 ≤ sizeLine; decide), fun q3 hq3 => ⟨_, rfl, .inr ⟨_, rfl, ?_⟩⟩⟩⟩⟩
    have u1 := same_new hq1 (.lst [.int 12, .int 3])
    have u2 := u1.trans (same_new hq2 (.lst [.int 40, .int (10 ^ (30 : Int).toNat)]))
    have u3 := u2.trans (same_new hq3 (.lst [.ref q1, .ref q2]))
    have f1 := (same_new hq3 (.lst [.ref q1, .ref q2])) q1 _ ((same_new hq2 (.lst [.int 40, .int (10 ^ (30 : Int).toNat)])) q1 _ (upd_same (H := H5) (a := q1) (o := .lst [.int 12, .int 3])))
    have f2 := (same_new hq3 (.lst [.ref q1, .ref q2])) q2 _ (upd_same (H := upd H5 q1 (.lst [.int 12, .int 3])) (a := q2) (o := .lst [.int 40, .int (10 ^ (30 : Int).toNat)]))
    have f3 : upd (upd (upd H5 q1 (.lst [.int 12, .int 3])) q2 (.lst [.int 40, .int (10 ^ (30 : Int).toNat)])) q3 (.lst [.ref q1, .ref q2]) q3 = some (.lst [.ref q1, .ref q2]) := upd_same
    have q2n : H5 q2 = none := u1.free hq2
    generalize upd (upd (upd H5 q1 (.lst [.int 12, .int 3])) q2 (.lst [.int 40, .int (10 ^ (30 : Int).toNat)])) q3 (.lst [.ref q1, .ref q2]) = H6 at u3 f1 f2 f3
    have hD6 := hD5.same u3
    obtain ⟨pl, a0, B, l, pk1, pk2, pk3, pk4, pk5, pk6, pk7, pk8, pk9, pk10⟩ : ∃ (pl : Addr) (a0 B : Int) (l : Nat), atI [V.ref q1, V.ref q2] (if b = true then 1 else 0) = some (.ref pl) ∧ H6 pl = some (.lst [.int a0, .int B]) ∧
        atI [V.int 1, V.int 4] (if b = true then 1 else 0) = some (.int (l : Nat)) ∧ pl ≠ d0 ∧ 10 ≤ a0 ∧ a0 ≤ 100 ∧ 2 ≤ B ∧ B ≤ 10 ^ 30 ∧ l ≤ 4 ∧ rolls l ≤ 51840 := by
      cases b
      · exact ⟨q1, 12, 3, 1, rfl, f1, rfl, fun z => hD5.at.2.1 (by rw [← z]; exact hq1), by decide, by decide, by decide, by decide, by decide, by decide⟩
      · exact ⟨q2, 40, 10 ^ (30 : Int).toNat, 4, rfl, f2, rfl, fun z => hD5.at.2.1 (by rw [← z]; exact q2n), by decide, by decide, by decide, by decide, by decide, by decide⟩
    refine ⟨_, _, _, _, rfl, rfl, SqL.of f3, pk1, (by show 2 ≤ sizeLine; decide), fun q4 hq4 => ⟨_, rfl, .inr ⟨_, rfl, _, _, _, _, rfl, rfl, SqL.of upd_same, pk3, ?_⟩⟩⟩
    have u4 := same_new hq4 (.lst [.int 1, .int 4])
    have hD7 := hD6.same u4
    have hnm7 := u4 _ _ (u3 _ _ hnm5)
    have hpl7 := u4 _ _ pk2
    generalize upd H6 q4 (.lst [.int 1, .int 4]) = H7 at u4 hD7 hnm7 hpl7
    have hS7 : ∀ x ∈ [d, d0], H7 x ≠ none := by
      intro x hx
      simp only [List.mem_cons, List.not_mem_nil, or_false] at hx
      rcases hx with rfl | rfl
      · exact hD7.at.1
      · exact hD7.at.2.1
    -- the row in lists
    refine ⟨d, d0, nm, pl, _, l, ys, a0, B, rfl, pk4, hD7, by omega, by omega, pk9, hnm7, (by rw [← hys]; exact List.cons_ne_nil _ _), by omega, yok, hpl7, by omega, pk6, pk7, pk8, fun ln H8 ds a' u8 hD8 hpl8 a'0 a'1 hd8 line8 oks8 w8 dp8 len8 ne8 => ?_⟩
    obtain ⟨xs, hln8n, hels8⟩ := hd8
    have ln0 := (new_some hln8n).1
    have hln8 := (new_some hln8n).2
    have lnd : ln ≠ d := fun z => hD7.at.1 (by rw [← z]; exact ln0)
    have lnd0 : ln ≠ d0 := fun z => hD7.at.2.1 (by rw [← z]; exact ln0)
    have in1 : d ∈ [d, d0, ln] := by simp
    have in2 : d0 ∈ [d, d0, ln] := by simp
    have in3 : ln ∈ [d, d0, ln] := by simp
    have inS : d ∈ [d, d0] := by simp
    have in0S : d0 ∈ [d, d0] := by simp
    have less2 : ∀ {H' : Hp}, Same (Hid [d, d0, ln] H') (Hid [d, d0] H') := fun {H'} => hid_less fun x hx => by
      simp only [List.mem_cons, List.not_mem_nil, or_false] at hx ⊢
      rcases hx with rfl | rfl
      · exact .inl rfl
      · exact .inr (.inl rfl)
    have to3 : Same (Hid [ln] (New H7 H8)) (Hid [d, d0, ln] H8) := fun b o e => by
      obtain ⟨e1, e2⟩ := hid_some e
      obtain ⟨e3, e4⟩ := new_some e2
      rw [hid_out (fun z => by
        simp only [List.mem_cons, List.not_mem_nil, or_false] at z
        rcases z with rfl | rfl | rfl
        · exact hD7.at.1 e3
        · exact hD7.at.2.1 e3
        · exact e1 (by simp))]
      exact e4
    have hels := hels8.mono to3
    have dpl : PyData.depthAll ds ≤ 8 := by omega
    have wl : wDs ds ≤ 400 := by omega
    have nel : ds ≠ [] := fun z => by
      have := ne8 (by omega)
      rw [z] at this
      simp at this
    have mB : max B 5 ≤ 10 ^ 30 := by omega
    have prow : partsD ds = true := lineL_parts mB (wDs ds) ds (Nat.le_refl _) line8
    have hrow : rowD (.list ds) = true := prow
    have nNil : dNil (.list ds) = false := by cases ds with
      | nil => exact absurd rfl nel
      | cons _ _ => rfl
    have M1 := (manyR_bound (.list ds) hrow).2.1 nNil
    have okl : okD (.list ds) = true := by simp only [okD]; exact oks8
    have depl : (PyData.list ds).depth ≤ 9 := by simp only [PyData.depth]; omega
    have wdl : wD (.list ds) ≤ 401 := by simp only [wD]; omega
    have line3 : ∀ {H' : Hp}, H' ln = some (.lst xs) → DDs (Hid [d, d0, ln] H') xs ds → DD H' (.ref ln) (.list ds) := fun {H'} h1 h2 => .lst h1 (h2.mono hid_same)
    have H89 := Same.refl H8
    obtain ⟨H9, s9', h9e⟩ : ∃ H9, Same H8 H9 ∧ H9 = H8 := ⟨H8, Same.refl _, rfl⟩
    rw [← h9e]
    have hD9 := hD8.same s9'
    have hln9 := s9' _ _ hln8
    have hels9 := hels.mono (Same.hid s9')
    -- dressed
    refine ⟨_, rfl, _, rfl, d, d0, ln, _, _, xs, ds, rfl, hD9, by omega, lnd, lnd0, hln9, hels9.mono less2, line8, by omega, oks8, by omega, fun hp H10 dd c10 hD10 hd10 kdd und => ?_⟩
    have hln10 := c10 _ _ lnd lnd0 hln9
    have hels10 := hels9.mono (c10.hid (S := [d, d0, ln]) in1 in2)
    have hand : DD H10 (.ref hp) dd := hd10.mono new_same
    obtain ⟨fo, fw, fd⟩ := undR_facts dd
    obtain ⟨ua, ub, uc, ud⟩ := undR_asks dd
    rw [und] at fo fw fd ua ub uc
    have okh : okD dd = true := by rw [← fo]; exact okl
    have deph : dd.depth ≤ 9 := by rw [← fd]; exact depl
    have wdh : wD dd ≤ 401 := by rw [← fw]; exact wdl
    have rowh : rowD dd = true := by rw [← ua]; exact hrow
    have uad : ∀ p, atR dd p = atR (.list ds) p := fun p => by rw [← ud p, und]
    have showh := okD_showable dd okh
    have fith := shown_fits okh (by omega)
    -- kept
    refine ⟨_, rfl, .ref hp, dd, rfl, hand, showh, by omega, fith, ?_⟩
    have nnp : nm ≠ pl := fun z => by
      rw [z, hpl7, ← hys] at hnm7
      cases hnm7
    have nmS : nm ∉ [d, d0, pl] := by simp [nnd, nnd0, nnp]
    have hnm8 : H8 nm = some (.lst (ys.map V.str)) := by
      have z := u8 nm _ (by rw [hid_out nmS]; exact hnm7)
      rw [hid_out nmS] at z
      exact z
    have hnm10 := c10 _ _ nnd nnd0 (s9' _ _ hnm8)
    have eo : outR dd = outR (.list ds) := by rw [← undR_out dd, und]
    -- the names asked for
    refine ⟨_, rfl, _, rfl, nm, _, rfl, SqL.of hnm10, fun p1 hp1 => ?_⟩
    rw [show cutV (ys.map V.str) none (some 6) = (ys.take 6).map V.str by rw [show (some (6 : Int)) = some ((6 : Nat) : Int) from rfl, cutV_take, List.map_take]]
    have v1 := same_new hp1 (.lst ((ys.take 6).map V.str))
    have f1 : upd H10 p1 (.lst ((ys.take 6).map V.str)) p1 = some (.lst ((ys.take 6).map V.str)) := upd_same
    generalize upd H10 p1 (.lst ((ys.take 6).map V.str)) = H11 at v1 f1
    refine ⟨(by show 1 ≤ sizeLine; decide), fun p2 hp2 => ?_⟩
    have v2 := v1.trans (same_new hp2 (.lst [.str (Str.ofString "nobody")]))
    have f12 := (same_new hp2 (.lst [.str (Str.ofString "nobody")])) _ _ f1
    refine ⟨p1, p2, _, _, rfl, rfl, f12, upd_same, ?_, fun g hg => ?_⟩
    · rw [List.length_map, List.length_take]; exact Nat.le_trans (show _ ≤ 7 by simp; omega) (by decide)
    have v3 := v2.trans (same_new hg (.lst ((ys.take 6).map V.str ++ [.str (Str.ofString "nobody")])))
    have fg : upd (upd H11 p2 (.lst [.str (Str.ofString "nobody")])) g (.lst ((ys.take 6).map V.str ++ [.str (Str.ofString "nobody")])) g = some (.lst ((ys.take 6).map V.str ++ [.str (Str.ofString "nobody")])) := upd_same
    have hD12 := (hD10.same v3).mono (show _ ≤ i * 60000 + 53000 by omega)
    generalize upd (upd H11 p2 (.lst [.str (Str.ofString "nobody")])) g (.lst ((ys.take 6).map V.str ++ [.str (Str.ofString "nobody")])) = H12 at v3 fg hD12
    replace fg : H12 g = some (.lst ((ys.take 6 ++ [Str.ofString "nobody"]).map V.str)) := by rw [fg, List.map_append]; rfl
    have gd : g ≠ d := fun z => by
      have := hD10.at.1
      have e := v2.free hg
      exact this (by rw [← z]; exact e)
    have gd0 : g ≠ d0 := fun z => by
      have := hD10.at.2.1
      have e := v2.free hg
      exact this (by rw [← z]; exact e)
    have allz : ∀ z ∈ ys.take 6 ++ [Str.ofString "nobody"], isThingS z = true := by
      intro z hz
      rcases List.mem_append.mp hz with h | h
      · exact List.all_eq_true.mp yok z (List.mem_of_mem_take h)
      · rw [List.mem_singleton.mp h]; decide +kernel
    have lz : (ys.take 6 ++ [Str.ofString "nobody"]).length ≤ 7 := by rw [List.length_append, List.length_take]; simp; omega
    generalize ys.take 6 ++ [Str.ofString "nobody"] = zs at fg allz lz
    have hand12 : DD (Hid [d, d0] H12) (.ref hp) dd := (hd10.mono (new_hid (S := [d, d0]) (fun x hx => by
      simp only [List.mem_cons, List.not_mem_nil, or_false] at hx
      rcases hx with rfl | rfl
      · exact hD9.at.1
      · exact hD9.at.2.1))).mono (Same.hid v3)
    have hln12 := v3 _ _ hln10
    have line12 : DD (Hid [d, d0] H12) (.ref ln) (.list ds) := .lst (by rw [hid_out (by simp [lnd, lnd0])]; exact hln12) ((hels10.mono (Same.hid v3)).mono less2)
    refine ⟨g, rfl, ⟨_, SqL.of fg⟩, ?_⟩
    refine for_list (K := K) (a := g) (xs := zs.map V.str) (fun j σ H' => ∃ (t8 : Option V), σ = [some (.ref a), some (.ref d), some (.int (0 + (i : Int))), some (.ref nm), some (.bl b), some (.ref ln), some (.ref hp), some (.str dd.shown), t8] ∧ Chg d d0 H12 H' ∧ Dice H' d d0 (i * 60000 + 53000 + 6 * j)) ⟨_, rfl, Chg.refl _ _ _, by simpa using hD12⟩ (fun j σ H' _ z => ?_) ?_ ?_
    · obtain ⟨_, _, z, _⟩ := z
      exact SqL.of (z _ _ gd gd0 fg)
    · rintro j v σ H13 hj ⟨t8, rfl, c13, hD13⟩
      obtain ⟨z, hz, rfl⟩ : ∃ z ∈ zs, v = V.str z := by
        obtain ⟨z, hz, e⟩ := List.mem_map.mp (List.mem_of_getElem? hj)
        exact ⟨z, hz, e.symm⟩
      have j7 : j < 7 := by
        have := (List.getElem?_eq_some_iff.mp hj).1
        rw [List.length_map] at this
        omega
      have m13 := c13.hid (S := [d, d0]) inS in0S
      refine ⟨_, rfl, _, rfl, _, rfl, _, rfl, d, d0, _, .ref hp, .ref ln, dd, .list ds, z, rfl, hD13, by omega, hand12.mono m13, line12.mono m13, okh, rowh, hrow, by omega, by omega, by omega, by omega, eo, allz z hz, fun H14 c14 hD14 => ⟨_, rfl, ?_⟩⟩
      refine ite2 (fun u => nomatch u) (fun _ => ?_)
      exact ⟨_, rfl, c13.trans c14, hD14.mono (by omega)⟩
    rintro σ H13 ⟨t8, rfl, c13, hD13⟩
    rw [List.length_map] at hD13
    have m13 := c13.hid (S := [d, d0]) inS in0S
    have hand13 := (hand12.mono m13).mono hid_same
    have line13 := (line12.mono m13).mono hid_same
    -- near rows
    refine ⟨_, rfl, .ref ln, .list ds, rfl, line13, hrow, by omega, by omega, by omega, fun H14 e14 => ⟨_, _, rfl, rfl, _, rfl, ?_⟩⟩
    refine ite2 (fun k1 => ?_) (fun k1 => ?_)
    · have k2 : manyR (.list ds) < 400 := by simpa using k1
      have emd : manyR dd = manyR (.list ds) := uc.symm
      refine ⟨_, rfl, _, rfl, .ref ln, .list ds, rfl, line13.mono e14, hrow, by omega, by omega, by omega, by omega, fun H15 ap e15 ap0 hap => ?_⟩
      have e135 := e14.trans e15
      refine ⟨.ref hp, ap, dd, rfl, hand13.mono e135, okh, rowh, by omega, by omega, by omega, by rw [eo]; exact hap, fun H16 e16 => ⟨_, rfl, ?_⟩⟩
      refine ite2 (fun u => nomatch u) (fun _ => ?_)
      have e136 := e135.trans e16
      have hand16 := hand13.mono e136
      have hD16 := hD13.same e136
      refine ⟨_, rfl, .ref hp, dd, rfl, hand16, showh, by omega, fith, _, rfl, rfl, _, rfl, ?_⟩
      refine ite2 (fun z => absurd z (by simp)) (fun _ => ?_)
      exact ⟨_, _, _, _, _, _, _, rfl, hD16.mono (by rw [Nat.succ_mul]; omega)⟩
    · have hand16 := hand13.mono e14
      have hD16 := hD13.same e14
      refine ⟨_, rfl, .ref hp, dd, rfl, hand16, showh, by omega, fith, _, rfl, rfl, _, rfl, ?_⟩
      refine ite2 (fun z => absurd z (by simp)) (fun _ => ?_)
      exact ⟨_, _, _, _, _, _, _, rfl, hD16.mono (by rw [Nat.succ_mul]; omega)⟩
  · rintro σ H2 ⟨s2, s3, s4, s5, s6, s7, s8, rfl, hD2⟩
    have ta : isThingS (Str.ofString "a") = true := by decide +kernel
    refine ⟨Nat.zero_le _, fun p1 hp1 => ⟨.ref p1, .list [], Str.ofString "a", 0, rfl, .lst upd_same .nil, rfl, ta, rfl, by decide, by decide, Int.le_refl 0, Int.le_refl 0, fun H3 s3 => ⟨rfl, _, rfl, ?_⟩⟩⟩
    rw [show ahd (.list []) (Str.ofString "a") 0 = 0 from rfl]
    refine ite2 (fun _ => ?_) (fun u => absurd (by decide) u)
    refine ⟨Nat.zero_le _, fun p2 hp2 => ⟨.ref p2, .list [], Str.ofString "a", 0, rfl, .lst upd_same .nil, rfl, ta, rfl, by decide, by decide, Int.le_refl 0, fun _ H4 s4 => ⟨rfl, ?_⟩, fun u => absurd u (by decide)⟩⟩
    rw [show decide (V.non = V.non) = true from decide_eq_true rfl]
    exact q H4
end
end K03

set_option Elab.async false
set_option linter.all false
set_option maxRecDepth 100000
set_option maxHeartbeats 4000000
namespace K03
open PySem PySem.Spec L2 MC
open PyProof.Rows hiding St
theorem all_mk {l : PySem.W.OpenLaw} {w : World} {K : PySem.W.Frag} {h : Heap} {mg : Str → Option Value} {fa : Addr} (X : K.In h) (G : h.Ns mainGlobals mg) (hfa : mg "law" = some (.ref fa))
    {f_is_whole : Addr} {f_is_thing : Addr} {f_are_things : Addr} {f_are_small : Addr} {f_is_row : Addr} {f_looks_again : Addr} {f_ask_at : Addr} {f_asked_ahead : Addr} {f_so_manieth : Addr} {f_asked_before : Addr} {f_check_row : Addr} {f_check_thing : Addr} {f_check_place : Addr} {f_count_asks : Addr} {f_part_asks : Addr} {f_thing_at : Addr} {f_part_with : Addr} {f_often_in : Addr} {f_part_often : Addr} {f_often_ahead : Addr} {f_place_of : Addr} {f_l_dice : Addr} {f_l_roll : Addr} {f_l_names : Addr} {f_l_row : Addr} {f_l_dressed : Addr} {f_l_many : Addr} {f_l_out : Addr} {f_l_same : Addr} {f_l_counted : Addr} {f_l_ahead : Addr} {f_l_thing_right : Addr} {f_l_near_right : Addr} {f_law : Addr} {od_is_whole an_is_whole : Option Addr} {od_is_thing an_is_thing : Option Addr} {od_are_things an_are_things : Option Addr} {od_are_small an_are_small : Option Addr} {od_is_row an_is_row : Option Addr} {od_looks_again an_looks_again : Option Addr} {od_ask_at an_ask_at : Option Addr} {od_asked_ahead an_asked_ahead : Option Addr} {od_so_manieth an_so_manieth : Option Addr} {od_asked_before an_asked_before : Option Addr} {od_check_row an_check_row : Option Addr} {od_check_thing an_check_thing : Option Addr} {od_check_place an_check_place : Option Addr} {od_count_asks an_count_asks : Option Addr} {od_part_asks an_part_asks : Option Addr} {od_thing_at an_thing_at : Option Addr} {od_part_with an_part_with : Option Addr} {od_often_in an_often_in : Option Addr} {od_part_often an_part_often : Option Addr} {od_often_ahead an_often_ahead : Option Addr} {od_place_of an_place_of : Option Addr} {od_l_dice an_l_dice : Option Addr} {od_l_roll an_l_roll : Option Addr} {od_l_names an_l_names : Option Addr} {od_l_row an_l_row : Option Addr} {od_l_dressed an_l_dressed : Option Addr} {od_l_many an_l_many : Option Addr} {od_l_out an_l_out : Option Addr} {od_l_same an_l_same : Option Addr} {od_l_counted an_l_counted : Option Addr} {od_l_ahead an_l_ahead : Option Addr} {od_l_thing_right an_l_thing_right : Option Addr} {od_l_near_right an_l_near_right : Option Addr} {od_law an_law : Option Addr} {sl_is_whole : Array (Option Value)} {sl_is_thing : Array (Option Value)} {sl_are_things : Array (Option Value)} {sl_are_small : Array (Option Value)} {sl_is_row : Array (Option Value)} {sl_looks_again : Array (Option Value)} {sl_ask_at : Array (Option Value)} {sl_asked_ahead : Array (Option Value)} {sl_so_manieth : Array (Option Value)} {sl_asked_before : Array (Option Value)} {sl_check_row : Array (Option Value)} {sl_check_thing : Array (Option Value)} {sl_check_place : Array (Option Value)} {sl_count_asks : Array (Option Value)} {sl_part_asks : Array (Option Value)} {sl_thing_at : Array (Option Value)} {sl_part_with : Array (Option Value)} {sl_often_in : Array (Option Value)} {sl_part_often : Array (Option Value)} {sl_often_ahead : Array (Option Value)} {sl_place_of : Array (Option Value)} {sl_l_dice : Array (Option Value)} {sl_l_roll : Array (Option Value)} {sl_l_names : Array (Option Value)} {sl_l_row : Array (Option Value)} {sl_l_dressed : Array (Option Value)} {sl_l_many : Array (Option Value)} {sl_l_out : Array (Option Value)} {sl_l_same : Array (Option Value)} {sl_l_counted : Array (Option Value)} {sl_l_ahead : Array (Option Value)} {sl_l_thing_right : Array (Option Value)} {sl_l_near_right : Array (Option Value)} {sl_law : Array (Option Value)} {oc_is_whole kV_is_whole dc_is_whole pm_is_whole cd_is_whole ct_is_whole : Value} {oc_is_thing kV_is_thing dc_is_thing pm_is_thing cd_is_thing ct_is_thing : Value} {oc_are_things kV_are_things dc_are_things pm_are_things cd_are_things ct_are_things : Value} {oc_are_small kV_are_small dc_are_small pm_are_small cd_are_small ct_are_small : Value} {oc_is_row kV_is_row dc_is_row pm_is_row cd_is_row ct_is_row : Value} {oc_looks_again kV_looks_again dc_looks_again pm_looks_again cd_looks_again ct_looks_again : Value} {oc_ask_at kV_ask_at dc_ask_at pm_ask_at cd_ask_at ct_ask_at : Value} {oc_asked_ahead kV_asked_ahead dc_asked_ahead pm_asked_ahead cd_asked_ahead ct_asked_ahead : Value} {oc_so_manieth kV_so_manieth dc_so_manieth pm_so_manieth cd_so_manieth ct_so_manieth : Value} {oc_asked_before kV_asked_before dc_asked_before pm_asked_before cd_asked_before ct_asked_before : Value} {oc_check_row kV_check_row dc_check_row pm_check_row cd_check_row ct_check_row : Value} {oc_check_thing kV_check_thing dc_check_thing pm_check_thing cd_check_thing ct_check_thing : Value} {oc_check_place kV_check_place dc_check_place pm_check_place cd_check_place ct_check_place : Value} {oc_count_asks kV_count_asks dc_count_asks pm_count_asks cd_count_asks ct_count_asks : Value} {oc_part_asks kV_part_asks dc_part_asks pm_part_asks cd_part_asks ct_part_asks : Value} {oc_thing_at kV_thing_at dc_thing_at pm_thing_at cd_thing_at ct_thing_at : Value} {oc_part_with kV_part_with dc_part_with pm_part_with cd_part_with ct_part_with : Value} {oc_often_in kV_often_in dc_often_in pm_often_in cd_often_in ct_often_in : Value} {oc_part_often kV_part_often dc_part_often pm_part_often cd_part_often ct_part_often : Value} {oc_often_ahead kV_often_ahead dc_often_ahead pm_often_ahead cd_often_ahead ct_often_ahead : Value} {oc_place_of kV_place_of dc_place_of pm_place_of cd_place_of ct_place_of : Value} {oc_l_dice kV_l_dice dc_l_dice pm_l_dice cd_l_dice ct_l_dice : Value} {oc_l_roll kV_l_roll dc_l_roll pm_l_roll cd_l_roll ct_l_roll : Value} {oc_l_names kV_l_names dc_l_names pm_l_names cd_l_names ct_l_names : Value} {oc_l_row kV_l_row dc_l_row pm_l_row cd_l_row ct_l_row : Value} {oc_l_dressed kV_l_dressed dc_l_dressed pm_l_dressed cd_l_dressed ct_l_dressed : Value} {oc_l_many kV_l_many dc_l_many pm_l_many cd_l_many ct_l_many : Value} {oc_l_out kV_l_out dc_l_out pm_l_out cd_l_out ct_l_out : Value} {oc_l_same kV_l_same dc_l_same pm_l_same cd_l_same ct_l_same : Value} {oc_l_counted kV_l_counted dc_l_counted pm_l_counted cd_l_counted ct_l_counted : Value} {oc_l_ahead kV_l_ahead dc_l_ahead pm_l_ahead cd_l_ahead ct_l_ahead : Value} {oc_l_thing_right kV_l_thing_right dc_l_thing_right pm_l_thing_right cd_l_thing_right ct_l_thing_right : Value} {oc_l_near_right kV_l_near_right dc_l_near_right pm_l_near_right cd_l_near_right ct_l_near_right : Value} {oc_law kV_law dc_law pm_law cd_law ct_law : Value} {t_LONGEST_THING : Nat} {t_MOST_TIMES : Nat} {t_DEEPEST_ROW : Nat} {osys : Obj}
    (a_is_whole : PySem.W.nsIn K mainGlobals "is_whole" = some (some (.ref f_is_whole))) (l_is_whole : K.lookup f_is_whole = some ⟨oc_is_whole, od_is_whole, .func (PySem.W.fnOf "is_whole" "is_whole" (defArgs s_is_whole) (defBody s_is_whole) (defScope s_is_whole) .none kV_is_whole dc_is_whole pm_is_whole an_is_whole cd_is_whole ct_is_whole), sl_is_whole⟩) (w_is_whole : PySem.W.codeIn K cd_is_whole "is_whole" = true) (k_is_whole : PySem.W.keepIn K (.ref f_is_whole) = true)
    (a_is_thing : PySem.W.nsIn K mainGlobals "is_thing" = some (some (.ref f_is_thing))) (l_is_thing : K.lookup f_is_thing = some ⟨oc_is_thing, od_is_thing, .func (PySem.W.fnOf "is_thing" "is_thing" (defArgs s_is_thing) (defBody s_is_thing) (defScope s_is_thing) .none kV_is_thing dc_is_thing pm_is_thing an_is_thing cd_is_thing ct_is_thing), sl_is_thing⟩) (w_is_thing : PySem.W.codeIn K cd_is_thing "is_thing" = true) (k_is_thing : PySem.W.keepIn K (.ref f_is_thing) = true)
    (a_are_things : PySem.W.nsIn K mainGlobals "are_things" = some (some (.ref f_are_things))) (l_are_things : K.lookup f_are_things = some ⟨oc_are_things, od_are_things, .func (PySem.W.fnOf "are_things" "are_things" (defArgs s_are_things) (defBody s_are_things) (defScope s_are_things) .none kV_are_things dc_are_things pm_are_things an_are_things cd_are_things ct_are_things), sl_are_things⟩) (w_are_things : PySem.W.codeIn K cd_are_things "are_things" = true) (k_are_things : PySem.W.keepIn K (.ref f_are_things) = true)
    (a_are_small : PySem.W.nsIn K mainGlobals "are_small" = some (some (.ref f_are_small))) (l_are_small : K.lookup f_are_small = some ⟨oc_are_small, od_are_small, .func (PySem.W.fnOf "are_small" "are_small" (defArgs s_are_small) (defBody s_are_small) (defScope s_are_small) .none kV_are_small dc_are_small pm_are_small an_are_small cd_are_small ct_are_small), sl_are_small⟩) (w_are_small : PySem.W.codeIn K cd_are_small "are_small" = true) (k_are_small : PySem.W.keepIn K (.ref f_are_small) = true)
    (a_is_row : PySem.W.nsIn K mainGlobals "is_row" = some (some (.ref f_is_row))) (l_is_row : K.lookup f_is_row = some ⟨oc_is_row, od_is_row, .func (PySem.W.fnOf "is_row" "is_row" (defArgs s_is_row) (defBody s_is_row) (defScope s_is_row) .none kV_is_row dc_is_row pm_is_row an_is_row cd_is_row ct_is_row), sl_is_row⟩) (w_is_row : PySem.W.codeIn K cd_is_row "is_row" = true) (k_is_row : PySem.W.keepIn K (.ref f_is_row) = true)
    (a_looks_again : PySem.W.nsIn K mainGlobals "_looks_again" = some (some (.ref f_looks_again))) (l_looks_again : K.lookup f_looks_again = some ⟨oc_looks_again, od_looks_again, .func (PySem.W.fnOf "_looks_again" "_looks_again" (defArgs s_looks_again) (defBody s_looks_again) (defScope s_looks_again) .none kV_looks_again dc_looks_again pm_looks_again an_looks_again cd_looks_again ct_looks_again), sl_looks_again⟩) (w_looks_again : PySem.W.codeIn K cd_looks_again "_looks_again" = true) (k_looks_again : PySem.W.keepIn K (.ref f_looks_again) = true)
    (a_ask_at : PySem.W.nsIn K mainGlobals "ask_at" = some (some (.ref f_ask_at))) (l_ask_at : K.lookup f_ask_at = some ⟨oc_ask_at, od_ask_at, .func (PySem.W.fnOf "ask_at" "ask_at" (defArgs s_ask_at) (defBody s_ask_at) (defScope s_ask_at) .none kV_ask_at dc_ask_at pm_ask_at an_ask_at cd_ask_at ct_ask_at), sl_ask_at⟩) (w_ask_at : PySem.W.codeIn K cd_ask_at "ask_at" = true) (k_ask_at : PySem.W.keepIn K (.ref f_ask_at) = true)
    (a_asked_ahead : PySem.W.nsIn K mainGlobals "asked_ahead" = some (some (.ref f_asked_ahead))) (l_asked_ahead : K.lookup f_asked_ahead = some ⟨oc_asked_ahead, od_asked_ahead, .func (PySem.W.fnOf "asked_ahead" "asked_ahead" (defArgs s_asked_ahead) (defBody s_asked_ahead) (defScope s_asked_ahead) .none kV_asked_ahead dc_asked_ahead pm_asked_ahead an_asked_ahead cd_asked_ahead ct_asked_ahead), sl_asked_ahead⟩) (w_asked_ahead : PySem.W.codeIn K cd_asked_ahead "asked_ahead" = true) (k_asked_ahead : PySem.W.keepIn K (.ref f_asked_ahead) = true)
    (a_so_manieth : PySem.W.nsIn K mainGlobals "so_manieth" = some (some (.ref f_so_manieth))) (l_so_manieth : K.lookup f_so_manieth = some ⟨oc_so_manieth, od_so_manieth, .func (PySem.W.fnOf "so_manieth" "so_manieth" (defArgs s_so_manieth) (defBody s_so_manieth) (defScope s_so_manieth) .none kV_so_manieth dc_so_manieth pm_so_manieth an_so_manieth cd_so_manieth ct_so_manieth), sl_so_manieth⟩) (w_so_manieth : PySem.W.codeIn K cd_so_manieth "so_manieth" = true) (k_so_manieth : PySem.W.keepIn K (.ref f_so_manieth) = true)
    (a_asked_before : PySem.W.nsIn K mainGlobals "asked_before" = some (some (.ref f_asked_before))) (l_asked_before : K.lookup f_asked_before = some ⟨oc_asked_before, od_asked_before, .func (PySem.W.fnOf "asked_before" "asked_before" (defArgs s_asked_before) (defBody s_asked_before) (defScope s_asked_before) .none kV_asked_before dc_asked_before pm_asked_before an_asked_before cd_asked_before ct_asked_before), sl_asked_before⟩) (w_asked_before : PySem.W.codeIn K cd_asked_before "asked_before" = true) (k_asked_before : PySem.W.keepIn K (.ref f_asked_before) = true)
    (a_check_row : PySem.W.nsIn K mainGlobals "check_row" = some (some (.ref f_check_row))) (l_check_row : K.lookup f_check_row = some ⟨oc_check_row, od_check_row, .func (PySem.W.fnOf "check_row" "check_row" (defArgs s_check_row) (defBody s_check_row) (defScope s_check_row) .none kV_check_row dc_check_row pm_check_row an_check_row cd_check_row ct_check_row), sl_check_row⟩) (w_check_row : PySem.W.codeIn K cd_check_row "check_row" = true) (k_check_row : PySem.W.keepIn K (.ref f_check_row) = true)
    (a_check_thing : PySem.W.nsIn K mainGlobals "check_thing" = some (some (.ref f_check_thing))) (l_check_thing : K.lookup f_check_thing = some ⟨oc_check_thing, od_check_thing, .func (PySem.W.fnOf "check_thing" "check_thing" (defArgs s_check_thing) (defBody s_check_thing) (defScope s_check_thing) .none kV_check_thing dc_check_thing pm_check_thing an_check_thing cd_check_thing ct_check_thing), sl_check_thing⟩) (w_check_thing : PySem.W.codeIn K cd_check_thing "check_thing" = true) (k_check_thing : PySem.W.keepIn K (.ref f_check_thing) = true)
    (a_check_place : PySem.W.nsIn K mainGlobals "check_place" = some (some (.ref f_check_place))) (l_check_place : K.lookup f_check_place = some ⟨oc_check_place, od_check_place, .func (PySem.W.fnOf "check_place" "check_place" (defArgs s_check_place) (defBody s_check_place) (defScope s_check_place) .none kV_check_place dc_check_place pm_check_place an_check_place cd_check_place ct_check_place), sl_check_place⟩) (w_check_place : PySem.W.codeIn K cd_check_place "check_place" = true) (k_check_place : PySem.W.keepIn K (.ref f_check_place) = true)
    (a_count_asks : PySem.W.nsIn K mainGlobals "count_asks" = some (some (.ref f_count_asks))) (l_count_asks : K.lookup f_count_asks = some ⟨oc_count_asks, od_count_asks, .func (PySem.W.fnOf "count_asks" "count_asks" (defArgs s_count_asks) (defBody s_count_asks) (defScope s_count_asks) .none kV_count_asks dc_count_asks pm_count_asks an_count_asks cd_count_asks ct_count_asks), sl_count_asks⟩) (w_count_asks : PySem.W.codeIn K cd_count_asks "count_asks" = true) (k_count_asks : PySem.W.keepIn K (.ref f_count_asks) = true)
    (a_part_asks : PySem.W.nsIn K mainGlobals "_part_asks" = some (some (.ref f_part_asks))) (l_part_asks : K.lookup f_part_asks = some ⟨oc_part_asks, od_part_asks, .func (PySem.W.fnOf "_part_asks" "_part_asks" (defArgs s_part_asks) (defBody s_part_asks) (defScope s_part_asks) .none kV_part_asks dc_part_asks pm_part_asks an_part_asks cd_part_asks ct_part_asks), sl_part_asks⟩) (w_part_asks : PySem.W.codeIn K cd_part_asks "_part_asks" = true) (k_part_asks : PySem.W.keepIn K (.ref f_part_asks) = true)
    (a_thing_at : PySem.W.nsIn K mainGlobals "thing_at" = some (some (.ref f_thing_at))) (l_thing_at : K.lookup f_thing_at = some ⟨oc_thing_at, od_thing_at, .func (PySem.W.fnOf "thing_at" "thing_at" (defArgs s_thing_at) (defBody s_thing_at) (defScope s_thing_at) .none kV_thing_at dc_thing_at pm_thing_at an_thing_at cd_thing_at ct_thing_at), sl_thing_at⟩) (w_thing_at : PySem.W.codeIn K cd_thing_at "thing_at" = true) (k_thing_at : PySem.W.keepIn K (.ref f_thing_at) = true)
    (a_part_with : PySem.W.nsIn K mainGlobals "_part_with" = some (some (.ref f_part_with))) (l_part_with : K.lookup f_part_with = some ⟨oc_part_with, od_part_with, .func (PySem.W.fnOf "_part_with" "_part_with" (defArgs s_part_with) (defBody s_part_with) (defScope s_part_with) .none kV_part_with dc_part_with pm_part_with an_part_with cd_part_with ct_part_with), sl_part_with⟩) (w_part_with : PySem.W.codeIn K cd_part_with "_part_with" = true) (k_part_with : PySem.W.keepIn K (.ref f_part_with) = true)
    (a_often_in : PySem.W.nsIn K mainGlobals "_often_in" = some (some (.ref f_often_in))) (l_often_in : K.lookup f_often_in = some ⟨oc_often_in, od_often_in, .func (PySem.W.fnOf "_often_in" "_often_in" (defArgs s_often_in) (defBody s_often_in) (defScope s_often_in) .none kV_often_in dc_often_in pm_often_in an_often_in cd_often_in ct_often_in), sl_often_in⟩) (w_often_in : PySem.W.codeIn K cd_often_in "_often_in" = true) (k_often_in : PySem.W.keepIn K (.ref f_often_in) = true)
    (a_part_often : PySem.W.nsIn K mainGlobals "_part_often" = some (some (.ref f_part_often))) (l_part_often : K.lookup f_part_often = some ⟨oc_part_often, od_part_often, .func (PySem.W.fnOf "_part_often" "_part_often" (defArgs s_part_often) (defBody s_part_often) (defScope s_part_often) .none kV_part_often dc_part_often pm_part_often an_part_often cd_part_often ct_part_often), sl_part_often⟩) (w_part_often : PySem.W.codeIn K cd_part_often "_part_often" = true) (k_part_often : PySem.W.keepIn K (.ref f_part_often) = true)
    (a_often_ahead : PySem.W.nsIn K mainGlobals "_often_ahead" = some (some (.ref f_often_ahead))) (l_often_ahead : K.lookup f_often_ahead = some ⟨oc_often_ahead, od_often_ahead, .func (PySem.W.fnOf "_often_ahead" "_often_ahead" (defArgs s_often_ahead) (defBody s_often_ahead) (defScope s_often_ahead) .none kV_often_ahead dc_often_ahead pm_often_ahead an_often_ahead cd_often_ahead ct_often_ahead), sl_often_ahead⟩) (w_often_ahead : PySem.W.codeIn K cd_often_ahead "_often_ahead" = true) (k_often_ahead : PySem.W.keepIn K (.ref f_often_ahead) = true)
    (a_place_of : PySem.W.nsIn K mainGlobals "_place_of" = some (some (.ref f_place_of))) (l_place_of : K.lookup f_place_of = some ⟨oc_place_of, od_place_of, .func (PySem.W.fnOf "_place_of" "_place_of" (defArgs s_place_of) (defBody s_place_of) (defScope s_place_of) .none kV_place_of dc_place_of pm_place_of an_place_of cd_place_of ct_place_of), sl_place_of⟩) (w_place_of : PySem.W.codeIn K cd_place_of "_place_of" = true) (k_place_of : PySem.W.keepIn K (.ref f_place_of) = true)
    (a_l_dice : PySem.W.nsIn K mainGlobals "_law_dice" = some (some (.ref f_l_dice))) (l_l_dice : K.lookup f_l_dice = some ⟨oc_l_dice, od_l_dice, .func (PySem.W.fnOf "_law_dice" "_law_dice" (defArgs s_l_dice) (defBody s_l_dice) (defScope s_l_dice) .none kV_l_dice dc_l_dice pm_l_dice an_l_dice cd_l_dice ct_l_dice), sl_l_dice⟩) (w_l_dice : PySem.W.codeIn K cd_l_dice "_law_dice" = true) (k_l_dice : PySem.W.keepIn K (.ref f_l_dice) = true)
    (a_l_roll : PySem.W.nsIn K mainGlobals "_law_roll" = some (some (.ref f_l_roll))) (l_l_roll : K.lookup f_l_roll = some ⟨oc_l_roll, od_l_roll, .func (PySem.W.fnOf "_law_roll" "_law_roll" (defArgs s_l_roll) (defBody s_l_roll) (defScope s_l_roll) .none kV_l_roll dc_l_roll pm_l_roll an_l_roll cd_l_roll ct_l_roll), sl_l_roll⟩) (w_l_roll : PySem.W.codeIn K cd_l_roll "_law_roll" = true) (k_l_roll : PySem.W.keepIn K (.ref f_l_roll) = true)
    (a_l_names : PySem.W.nsIn K mainGlobals "_law_names" = some (some (.ref f_l_names))) (l_l_names : K.lookup f_l_names = some ⟨oc_l_names, od_l_names, .func (PySem.W.fnOf "_law_names" "_law_names" (defArgs s_l_names) (defBody s_l_names) (defScope s_l_names) .none kV_l_names dc_l_names pm_l_names an_l_names cd_l_names ct_l_names), sl_l_names⟩) (w_l_names : PySem.W.codeIn K cd_l_names "_law_names" = true) (k_l_names : PySem.W.keepIn K (.ref f_l_names) = true)
    (a_l_row : PySem.W.nsIn K mainGlobals "_law_row" = some (some (.ref f_l_row))) (l_l_row : K.lookup f_l_row = some ⟨oc_l_row, od_l_row, .func (PySem.W.fnOf "_law_row" "_law_row" (defArgs s_l_row) (defBody s_l_row) (defScope s_l_row) .none kV_l_row dc_l_row pm_l_row an_l_row cd_l_row ct_l_row), sl_l_row⟩) (w_l_row : PySem.W.codeIn K cd_l_row "_law_row" = true) (k_l_row : PySem.W.keepIn K (.ref f_l_row) = true)
    (a_l_dressed : PySem.W.nsIn K mainGlobals "_law_dressed" = some (some (.ref f_l_dressed))) (l_l_dressed : K.lookup f_l_dressed = some ⟨oc_l_dressed, od_l_dressed, .func (PySem.W.fnOf "_law_dressed" "_law_dressed" (defArgs s_l_dressed) (defBody s_l_dressed) (defScope s_l_dressed) .none kV_l_dressed dc_l_dressed pm_l_dressed an_l_dressed cd_l_dressed ct_l_dressed), sl_l_dressed⟩) (w_l_dressed : PySem.W.codeIn K cd_l_dressed "_law_dressed" = true) (k_l_dressed : PySem.W.keepIn K (.ref f_l_dressed) = true)
    (a_l_many : PySem.W.nsIn K mainGlobals "_law_many" = some (some (.ref f_l_many))) (l_l_many : K.lookup f_l_many = some ⟨oc_l_many, od_l_many, .func (PySem.W.fnOf "_law_many" "_law_many" (defArgs s_l_many) (defBody s_l_many) (defScope s_l_many) .none kV_l_many dc_l_many pm_l_many an_l_many cd_l_many ct_l_many), sl_l_many⟩) (w_l_many : PySem.W.codeIn K cd_l_many "_law_many" = true) (k_l_many : PySem.W.keepIn K (.ref f_l_many) = true)
    (a_l_out : PySem.W.nsIn K mainGlobals "_law_out" = some (some (.ref f_l_out))) (l_l_out : K.lookup f_l_out = some ⟨oc_l_out, od_l_out, .func (PySem.W.fnOf "_law_out" "_law_out" (defArgs s_l_out) (defBody s_l_out) (defScope s_l_out) .none kV_l_out dc_l_out pm_l_out an_l_out cd_l_out ct_l_out), sl_l_out⟩) (w_l_out : PySem.W.codeIn K cd_l_out "_law_out" = true) (k_l_out : PySem.W.keepIn K (.ref f_l_out) = true)
    (a_l_same : PySem.W.nsIn K mainGlobals "_law_same" = some (some (.ref f_l_same))) (l_l_same : K.lookup f_l_same = some ⟨oc_l_same, od_l_same, .func (PySem.W.fnOf "_law_same" "_law_same" (defArgs s_l_same) (defBody s_l_same) (defScope s_l_same) .none kV_l_same dc_l_same pm_l_same an_l_same cd_l_same ct_l_same), sl_l_same⟩) (w_l_same : PySem.W.codeIn K cd_l_same "_law_same" = true) (k_l_same : PySem.W.keepIn K (.ref f_l_same) = true)
    (a_l_counted : PySem.W.nsIn K mainGlobals "_law_counted" = some (some (.ref f_l_counted))) (l_l_counted : K.lookup f_l_counted = some ⟨oc_l_counted, od_l_counted, .func (PySem.W.fnOf "_law_counted" "_law_counted" (defArgs s_l_counted) (defBody s_l_counted) (defScope s_l_counted) .none kV_l_counted dc_l_counted pm_l_counted an_l_counted cd_l_counted ct_l_counted), sl_l_counted⟩) (w_l_counted : PySem.W.codeIn K cd_l_counted "_law_counted" = true) (k_l_counted : PySem.W.keepIn K (.ref f_l_counted) = true)
    (a_l_ahead : PySem.W.nsIn K mainGlobals "_law_ahead" = some (some (.ref f_l_ahead))) (l_l_ahead : K.lookup f_l_ahead = some ⟨oc_l_ahead, od_l_ahead, .func (PySem.W.fnOf "_law_ahead" "_law_ahead" (defArgs s_l_ahead) (defBody s_l_ahead) (defScope s_l_ahead) .none kV_l_ahead dc_l_ahead pm_l_ahead an_l_ahead cd_l_ahead ct_l_ahead), sl_l_ahead⟩) (w_l_ahead : PySem.W.codeIn K cd_l_ahead "_law_ahead" = true) (k_l_ahead : PySem.W.keepIn K (.ref f_l_ahead) = true)
    (a_l_thing_right : PySem.W.nsIn K mainGlobals "_law_thing_right" = some (some (.ref f_l_thing_right))) (l_l_thing_right : K.lookup f_l_thing_right = some ⟨oc_l_thing_right, od_l_thing_right, .func (PySem.W.fnOf "_law_thing_right" "_law_thing_right" (defArgs s_l_thing_right) (defBody s_l_thing_right) (defScope s_l_thing_right) .none kV_l_thing_right dc_l_thing_right pm_l_thing_right an_l_thing_right cd_l_thing_right ct_l_thing_right), sl_l_thing_right⟩) (w_l_thing_right : PySem.W.codeIn K cd_l_thing_right "_law_thing_right" = true) (k_l_thing_right : PySem.W.keepIn K (.ref f_l_thing_right) = true)
    (a_l_near_right : PySem.W.nsIn K mainGlobals "_law_near_right" = some (some (.ref f_l_near_right))) (l_l_near_right : K.lookup f_l_near_right = some ⟨oc_l_near_right, od_l_near_right, .func (PySem.W.fnOf "_law_near_right" "_law_near_right" (defArgs s_l_near_right) (defBody s_l_near_right) (defScope s_l_near_right) .none kV_l_near_right dc_l_near_right pm_l_near_right an_l_near_right cd_l_near_right ct_l_near_right), sl_l_near_right⟩) (w_l_near_right : PySem.W.codeIn K cd_l_near_right "_law_near_right" = true) (k_l_near_right : PySem.W.keepIn K (.ref f_l_near_right) = true)
    (a_law : PySem.W.nsIn K mainGlobals "law" = some (some (.ref f_law))) (l_law : K.lookup f_law = some ⟨oc_law, od_law, .func (PySem.W.fnOf "law" "law" (defArgs s_law) (defBody s_law) (defScope s_law) .none kV_law dc_law pm_law an_law cd_law ct_law), sl_law⟩) (w_law : PySem.W.codeIn K cd_law "law" = true) (k_law : PySem.W.keepIn K (.ref f_law) = true)
    (z_isinstance : PySem.W.nsIn K mainGlobals "isinstance" = some none)
    (z_int : PySem.W.nsIn K mainGlobals "int" = some none)
    (z_bool : PySem.W.nsIn K mainGlobals "bool" = some none)
    (z_str : PySem.W.nsIn K mainGlobals "str" = some none)
    (z_list : PySem.W.nsIn K mainGlobals "list" = some none)
    (z_tuple : PySem.W.nsIn K mainGlobals "tuple" = some none)
    (z_len : PySem.W.nsIn K mainGlobals "len" = some none)
    (z_all : PySem.W.nsIn K mainGlobals "all" = some none)
    (z_range : PySem.W.nsIn K mainGlobals "range" = some none)
    (z_min : PySem.W.nsIn K mainGlobals "min" = some none)
    (z_repr : PySem.W.nsIn K mainGlobals "repr" = some none)
    (z_enumerate : PySem.W.nsIn K mainGlobals "enumerate" = some none)
    (z_sum : PySem.W.nsIn K mainGlobals "sum" = some none)
    (z_zip : PySem.W.nsIn K mainGlobals "zip" = some none)
    (z_divmod : PySem.W.nsIn K mainGlobals "divmod" = some none)
    (z_max : PySem.W.nsIn K mainGlobals "max" = some none)
    (q_LONGEST_THING : PySem.W.nsIn K mainGlobals "LONGEST_THING" = some (some (.int 8 t_LONGEST_THING)))
    (q_MOST_TIMES : PySem.W.nsIn K mainGlobals "MOST_TIMES" = some (some (.int 1000000000000000000000000000000 t_MOST_TIMES)))
    (q_DEEPEST_ROW : PySem.W.nsIn K mainGlobals "DEEPEST_ROW" = some (some (.int 2000000 t_DEEPEST_ROW)))
    (q_sys : K.lookup sysModules = some osys) :
    ∃ fd : FuncData, (∀ (s : Shared) (v : Value), BindsTo s fd ⟨[v], []⟩ [("_law_script", v)]) ∧ ∀ base : Heap, K.In base → base.Ns mainGlobals mg → FnA Clean l.prog w K mg base CX0 30 fa fd ["_law_script"] (spLaw K) := by
  have e := hfa.symm.trans (PySem.W.mg_of X G a_law)
  cases e
  have T : Txt K mg := ⟨PySem.W.mg_none_of X G z_isinstance, PySem.W.mg_none_of X G z_int, PySem.W.mg_none_of X G z_bool, PySem.W.mg_none_of X G z_str, PySem.W.mg_none_of X G z_list, PySem.W.mg_none_of X G z_tuple, PySem.W.mg_none_of X G z_len, PySem.W.mg_none_of X G z_all, PySem.W.mg_none_of X G z_range, PySem.W.mg_none_of X G z_min, PySem.W.mg_none_of X G z_repr, PySem.W.mg_none_of X G z_enumerate, PySem.W.mg_none_of X G z_sum, PySem.W.mg_none_of X G z_zip, PySem.W.mg_none_of X G z_divmod, PySem.W.mg_none_of X G z_max, ⟨_, PySem.W.mg_of X G q_LONGEST_THING⟩, ⟨_, PySem.W.mg_of X G q_MOST_TIMES⟩, ⟨_, PySem.W.mg_of X G q_DEEPEST_ROW⟩, ⟨_, q_sys⟩⟩
  have F_is_whole := fun_mk (st := s_is_whole) l_is_whole w_is_whole k_is_whole
  have O_is_whole : Own K mg "is_whole" s_is_whole _ _ ["value"] := ⟨F_is_whole, PySem.W.mg_of X G a_is_whole, F_is_whole.binds (ps := ["value"]) fun _ _ _ _ _ _ us hl => match us, hl with | [_], _ => rfl⟩
  have F_is_thing := fun_mk (st := s_is_thing) l_is_thing w_is_thing k_is_thing
  have O_is_thing : Own K mg "is_thing" s_is_thing _ _ ["thing"] := ⟨F_is_thing, PySem.W.mg_of X G a_is_thing, F_is_thing.binds (ps := ["thing"]) fun _ _ _ _ _ _ us hl => match us, hl with | [_], _ => rfl⟩
  have F_are_things := fun_mk (st := s_are_things) l_are_things w_are_things k_are_things
  have O_are_things : Own K mg "are_things" s_are_things _ _ ["values"] := ⟨F_are_things, PySem.W.mg_of X G a_are_things, F_are_things.binds (ps := ["values"]) fun _ _ _ _ _ _ us hl => match us, hl with | [_], _ => rfl⟩
  have F_are_small := fun_mk (st := s_are_small) l_are_small w_are_small k_are_small
  have O_are_small : Own K mg "are_small" s_are_small _ _ ["signs"] := ⟨F_are_small, PySem.W.mg_of X G a_are_small, F_are_small.binds (ps := ["signs"]) fun _ _ _ _ _ _ us hl => match us, hl with | [_], _ => rfl⟩
  have F_is_row := fun_mk (st := s_is_row) l_is_row w_is_row k_is_row
  have O_is_row : Own K mg "is_row" s_is_row _ _ ["thing"] := ⟨F_is_row, PySem.W.mg_of X G a_is_row, F_is_row.binds (ps := ["thing"]) fun _ _ _ _ _ _ us hl => match us, hl with | [_], _ => rfl⟩
  have F_looks_again := fun_mk (st := s_looks_again) l_looks_again w_looks_again k_looks_again
  have O_looks_again : Own K mg "_looks_again" s_looks_again _ _ ["part"] := ⟨F_looks_again, PySem.W.mg_of X G a_looks_again, F_looks_again.binds (ps := ["part"]) fun _ _ _ _ _ _ us hl => match us, hl with | [_], _ => rfl⟩
  have F_ask_at := fun_mk (st := s_ask_at) l_ask_at w_ask_at k_ask_at
  have O_ask_at : Own K mg "ask_at" s_ask_at _ _ ["row", "place"] := ⟨F_ask_at, PySem.W.mg_of X G a_ask_at, F_ask_at.binds (ps := ["row", "place"]) fun _ _ _ _ _ _ us hl => match us, hl with | [_, _], _ => rfl⟩
  have F_asked_ahead := fun_mk (st := s_asked_ahead) l_asked_ahead w_asked_ahead k_asked_ahead
  have O_asked_ahead : Own K mg "asked_ahead" s_asked_ahead _ _ ["row", "thing", "place"] := ⟨F_asked_ahead, PySem.W.mg_of X G a_asked_ahead, F_asked_ahead.binds (ps := ["row", "thing", "place"]) fun _ _ _ _ _ _ us hl => match us, hl with | [_, _, _], _ => rfl⟩
  have F_so_manieth := fun_mk (st := s_so_manieth) l_so_manieth w_so_manieth k_so_manieth
  have O_so_manieth : Own K mg "so_manieth" s_so_manieth _ _ ["row", "thing", "number"] := ⟨F_so_manieth, PySem.W.mg_of X G a_so_manieth, F_so_manieth.binds (ps := ["row", "thing", "number"]) fun _ _ _ _ _ _ us hl => match us, hl with | [_, _, _], _ => rfl⟩
  have F_asked_before := fun_mk (st := s_asked_before) l_asked_before w_asked_before k_asked_before
  have O_asked_before : Own K mg "asked_before" s_asked_before _ _ ["row", "place"] := ⟨F_asked_before, PySem.W.mg_of X G a_asked_before, F_asked_before.binds (ps := ["row", "place"]) fun _ _ _ _ _ _ us hl => match us, hl with | [_, _], _ => rfl⟩
  have F_check_row := fun_mk (st := s_check_row) l_check_row w_check_row k_check_row
  have O_check_row : Own K mg "check_row" s_check_row _ _ ["row"] := ⟨F_check_row, PySem.W.mg_of X G a_check_row, F_check_row.binds (ps := ["row"]) fun _ _ _ _ _ _ us hl => match us, hl with | [_], _ => rfl⟩
  have F_check_thing := fun_mk (st := s_check_thing) l_check_thing w_check_thing k_check_thing
  have O_check_thing : Own K mg "check_thing" s_check_thing _ _ ["thing"] := ⟨F_check_thing, PySem.W.mg_of X G a_check_thing, F_check_thing.binds (ps := ["thing"]) fun _ _ _ _ _ _ us hl => match us, hl with | [_], _ => rfl⟩
  have F_check_place := fun_mk (st := s_check_place) l_check_place w_check_place k_check_place
  have O_check_place : Own K mg "check_place" s_check_place _ _ ["place", "many"] := ⟨F_check_place, PySem.W.mg_of X G a_check_place, F_check_place.binds (ps := ["place", "many"]) fun _ _ _ _ _ _ us hl => match us, hl with | [_, _], _ => rfl⟩
  have F_count_asks := fun_mk (st := s_count_asks) l_count_asks w_count_asks k_count_asks
  have O_count_asks : Own K mg "count_asks" s_count_asks _ _ ["row"] := ⟨F_count_asks, PySem.W.mg_of X G a_count_asks, F_count_asks.binds (ps := ["row"]) fun _ _ _ _ _ _ us hl => match us, hl with | [_], _ => rfl⟩
  have F_part_asks := fun_mk (st := s_part_asks) l_part_asks w_part_asks k_part_asks
  have O_part_asks : Own K mg "_part_asks" s_part_asks _ _ ["part"] := ⟨F_part_asks, PySem.W.mg_of X G a_part_asks, F_part_asks.binds (ps := ["part"]) fun _ _ _ _ _ _ us hl => match us, hl with | [_], _ => rfl⟩
  have F_thing_at := fun_mk (st := s_thing_at) l_thing_at w_thing_at k_thing_at
  have O_thing_at : Own K mg "thing_at" s_thing_at _ _ ["row", "place"] := ⟨F_thing_at, PySem.W.mg_of X G a_thing_at, F_thing_at.binds (ps := ["row", "place"]) fun _ _ _ _ _ _ us hl => match us, hl with | [_, _], _ => rfl⟩
  have F_part_with := fun_mk (st := s_part_with) l_part_with w_part_with k_part_with
  have O_part_with : Own K mg "_part_with" s_part_with _ _ ["row", "place"] := ⟨F_part_with, PySem.W.mg_of X G a_part_with, F_part_with.binds (ps := ["row", "place"]) fun _ _ _ _ _ _ us hl => match us, hl with | [_, _], _ => rfl⟩
  have F_often_in := fun_mk (st := s_often_in) l_often_in w_often_in k_often_in
  have O_often_in : Own K mg "_often_in" s_often_in _ _ ["row", "thing"] := ⟨F_often_in, PySem.W.mg_of X G a_often_in, F_often_in.binds (ps := ["row", "thing"]) fun _ _ _ _ _ _ us hl => match us, hl with | [_, _], _ => rfl⟩
  have F_part_often := fun_mk (st := s_part_often) l_part_often w_part_often k_part_often
  have O_part_often : Own K mg "_part_often" s_part_often _ _ ["part", "thing"] := ⟨F_part_often, PySem.W.mg_of X G a_part_often, F_part_often.binds (ps := ["part", "thing"]) fun _ _ _ _ _ _ us hl => match us, hl with | [_, _], _ => rfl⟩
  have F_often_ahead := fun_mk (st := s_often_ahead) l_often_ahead w_often_ahead k_often_ahead
  have O_often_ahead : Own K mg "_often_ahead" s_often_ahead _ _ ["row", "thing", "place"] := ⟨F_often_ahead, PySem.W.mg_of X G a_often_ahead, F_often_ahead.binds (ps := ["row", "thing", "place"]) fun _ _ _ _ _ _ us hl => match us, hl with | [_, _, _], _ => rfl⟩
  have F_place_of := fun_mk (st := s_place_of) l_place_of w_place_of k_place_of
  have O_place_of : Own K mg "_place_of" s_place_of _ _ ["row", "thing", "number"] := ⟨F_place_of, PySem.W.mg_of X G a_place_of, F_place_of.binds (ps := ["row", "thing", "number"]) fun _ _ _ _ _ _ us hl => match us, hl with | [_, _, _], _ => rfl⟩
  have F_l_dice := fun_mk (st := s_l_dice) l_l_dice w_l_dice k_l_dice
  have O_l_dice : Own K mg "_law_dice" s_l_dice _ _ ["_law_script"] := ⟨F_l_dice, PySem.W.mg_of X G a_l_dice, F_l_dice.binds (ps := ["_law_script"]) fun _ _ _ _ _ _ us hl => match us, hl with | [_], _ => rfl⟩
  have F_l_roll := fun_mk (st := s_l_roll) l_l_roll w_l_roll k_l_roll
  have O_l_roll : Own K mg "_law_roll" s_l_roll _ _ ["_law_dice_here", "_law_many_here"] := ⟨F_l_roll, PySem.W.mg_of X G a_l_roll, F_l_roll.binds (ps := ["_law_dice_here", "_law_many_here"]) fun _ _ _ _ _ _ us hl => match us, hl with | [_, _], _ => rfl⟩
  have F_l_names := fun_mk (st := s_l_names) l_l_names w_l_names k_l_names
  have O_l_names : Own K mg "_law_names" s_l_names _ _ ["_law_dice_here", "_law_many_here"] := ⟨F_l_names, PySem.W.mg_of X G a_l_names, F_l_names.binds (ps := ["_law_dice_here", "_law_many_here"]) fun _ _ _ _ _ _ us hl => match us, hl with | [_, _], _ => rfl⟩
  have F_l_row := fun_mk (st := s_l_row) l_l_row w_l_row k_l_row
  have O_l_row : Own K mg "_law_row" s_l_row _ _ ["_law_dice_here", "_law_names_here", "_law_plan", "_law_layers"] := ⟨F_l_row, PySem.W.mg_of X G a_l_row, F_l_row.binds (ps := ["_law_dice_here", "_law_names_here", "_law_plan", "_law_layers"]) fun _ _ _ _ _ _ us hl => match us, hl with | [_, _, _, _], _ => rfl⟩
  have F_l_dressed := fun_mk (st := s_l_dressed) l_l_dressed w_l_dressed k_l_dressed
  have O_l_dressed : Own K mg "_law_dressed" s_l_dressed _ _ ["_law_dice_here", "_law_line"] := ⟨F_l_dressed, PySem.W.mg_of X G a_l_dressed, F_l_dressed.binds (ps := ["_law_dice_here", "_law_line"]) fun _ _ _ _ _ _ us hl => match us, hl with | [_, _], _ => rfl⟩
  have F_l_many := fun_mk (st := s_l_many) l_l_many w_l_many k_l_many
  have O_l_many : Own K mg "_law_many" s_l_many _ _ ["_law_line"] := ⟨F_l_many, PySem.W.mg_of X G a_l_many, F_l_many.binds (ps := ["_law_line"]) fun _ _ _ _ _ _ us hl => match us, hl with | [_], _ => rfl⟩
  have F_l_out := fun_mk (st := s_l_out) l_l_out w_l_out k_l_out
  have O_l_out : Own K mg "_law_out" s_l_out _ _ ["_law_line"] := ⟨F_l_out, PySem.W.mg_of X G a_l_out, F_l_out.binds (ps := ["_law_line"]) fun _ _ _ _ _ _ us hl => match us, hl with | [_], _ => rfl⟩
  have F_l_same := fun_mk (st := s_l_same) l_l_same w_l_same k_l_same
  have O_l_same : Own K mg "_law_same" s_l_same _ _ ["_law_found", "_law_due"] := ⟨F_l_same, PySem.W.mg_of X G a_l_same, F_l_same.binds (ps := ["_law_found", "_law_due"]) fun _ _ _ _ _ _ us hl => match us, hl with | [_, _], _ => rfl⟩
  have F_l_counted := fun_mk (st := s_l_counted) l_l_counted w_l_counted k_l_counted
  have O_l_counted : Own K mg "_law_counted" s_l_counted _ _ ["_law_line", "_law_name"] := ⟨F_l_counted, PySem.W.mg_of X G a_l_counted, F_l_counted.binds (ps := ["_law_line", "_law_name"]) fun _ _ _ _ _ _ us hl => match us, hl with | [_, _], _ => rfl⟩
  have F_l_ahead := fun_mk (st := s_l_ahead) l_l_ahead w_l_ahead k_l_ahead
  have O_l_ahead : Own K mg "_law_ahead" s_l_ahead _ _ ["_law_line", "_law_name", "_law_place"] := ⟨F_l_ahead, PySem.W.mg_of X G a_l_ahead, F_l_ahead.binds (ps := ["_law_line", "_law_name", "_law_place"]) fun _ _ _ _ _ _ us hl => match us, hl with | [_, _, _], _ => rfl⟩
  have F_l_thing_right := fun_mk (st := s_l_thing_right) l_l_thing_right w_l_thing_right k_l_thing_right
  have O_l_thing_right : Own K mg "_law_thing_right" s_l_thing_right _ _ ["_law_dice_here", "_law_handed", "_law_line", "_law_name"] := ⟨F_l_thing_right, PySem.W.mg_of X G a_l_thing_right, F_l_thing_right.binds (ps := ["_law_dice_here", "_law_handed", "_law_line", "_law_name"]) fun _ _ _ _ _ _ us hl => match us, hl with | [_, _, _, _], _ => rfl⟩
  have F_l_near_right := fun_mk (st := s_l_near_right) l_l_near_right w_l_near_right k_l_near_right
  have O_l_near_right : Own K mg "_law_near_right" s_l_near_right _ _ ["_law_handed", "_law_asks"] := ⟨F_l_near_right, PySem.W.mg_of X G a_l_near_right, F_l_near_right.binds (ps := ["_law_handed", "_law_asks"]) fun _ _ _ _ _ _ us hl => match us, hl with | [_, _], _ => rfl⟩
  have F_law := fun_mk (st := s_law) l_law w_law k_law
  have O_law : Own K mg "law" s_law _ _ ["_law_script"] := ⟨F_law, PySem.W.mg_of X G a_law, F_law.binds (ps := ["_law_script"]) fun _ _ _ _ _ _ us hl => match us, hl with | [_], _ => rfl⟩
  refine ⟨PySem.W.fnOf "law" "law" (defArgs s_law) (defBody s_law) (defScope s_law) .none kV_law dc_law pm_law an_law cd_law ct_law, fun s v => .of_eq rfl, fun base _ _ => ?_⟩
  have H_is_whole0 := ok_is_whole0 (P := l.prog) (w := w) (base := base) T O_is_whole
  have H_is_whole := ok_is_whole (P := l.prog) (w := w) (base := base) T O_is_whole
  have H_small := ok_are_small (P := l.prog) (w := w) (base := base) T O_are_small
  have H_things := ok_are_things T H_small O_are_small O_are_things
  have H_is_thing := ok_is_thing T H_small O_are_small O_is_thing
  have H_looks := ok_looks_again T H_is_whole O_is_whole O_looks_again
  have H_is_row := ok_is_row T H_things H_looks O_are_things O_looks_again O_is_row
  have H_check_row := ok_check_row T O_is_row O_check_row H_is_row
  have H_check_thing := ok_check_thing T O_is_thing O_check_thing H_is_thing
  have H_check_place := ok_check_place T O_is_whole O_check_place H_is_whole0
  have H_count := count_all (P := l.prog) (w := w) (base := base) T O_count_asks O_part_asks
  have H_pw := ok_part_with T O_part_asks O_part_with (H_count 12).2
  have H_pwE := ok_part_withE T O_part_asks O_part_with (H_count 12).2
  have H_ta := ta_all T O_count_asks O_part_with O_thing_at (H_count 13).1 H_pw 13
  have H_at := ok_ask_at T O_count_asks O_thing_at O_check_row O_check_place O_ask_at H_check_row H_check_place (H_count 13).1 H_ta
  have H_often := often_all (P := l.prog) (w := w) (base := base) T O_often_in O_part_often 13
  have H_ahead := ahead_all T O_count_asks O_part_with O_often_in O_often_ahead (H_count 13).1 H_pwE H_often.1 12
  have H_place := place_all T O_count_asks O_part_often O_often_in O_place_of (H_count 13).1 H_often.2 H_often.1 12
  have H_aa := ok_asked_ahead T O_check_row O_check_thing O_check_place O_count_asks O_often_ahead O_asked_ahead H_check_row H_check_thing H_check_place (H_count 13).1 H_ahead
  have H_so := ok_so_manieth T O_is_whole O_check_row O_check_thing O_often_in O_place_of O_so_manieth H_is_whole0 H_check_row H_check_thing H_often.1 H_place
  have H_be := ok_asked_before T O_check_row O_check_place O_count_asks O_thing_at O_often_ahead O_place_of O_asked_before H_check_row H_check_place (H_count 13).1 H_ta H_ahead H_place
  have H_dice := ok_dice (P := l.prog) (w := w) (base := base) T O_l_dice
  have H_rollW := ok_rollW (P := l.prog) (w := w) (base := base) T O_l_roll
  have H_roll := ok_roll (P := l.prog) (w := w) (base := base) T O_l_roll
  have H_names := ok_names T H_roll O_l_roll O_l_names
  have H_row := row_step T H_roll O_l_roll O_l_row (row_step T H_roll O_l_roll O_l_row (row_step T H_roll O_l_roll O_l_row (row_step T H_roll O_l_roll O_l_row (row_step T H_roll O_l_roll O_l_row row_none))))
  have H_dressed := dress_step T H_roll O_l_roll O_l_dressed (dress_step T H_roll O_l_roll O_l_dressed (dress_step T H_roll O_l_roll O_l_dressed (dress_step T H_roll O_l_roll O_l_dressed (dress_step T H_roll O_l_roll O_l_dressed dress_none))))
  have H_many := many_all (P := l.prog) (w := w) (base := base) T O_l_many 14
  have H_out := out_all (P := l.prog) (w := w) (base := base) T O_l_out 14
  have H_same := same_all (P := l.prog) (w := w) (base := base) T O_l_same 3
  have H_counted := counted_all (P := l.prog) (w := w) (base := base) T O_l_counted 14
  have H_lahead := l_ahead_all T O_l_many O_l_counted O_l_ahead H_many H_counted 12
  have H_tr := ok_thing_right T O_l_roll O_l_many O_l_same O_l_counted O_l_ahead O_asked_ahead O_so_manieth O_asked_before O_ask_at O_l_thing_right H_rollW H_many H_same H_counted H_lahead H_aa H_so H_be H_at
  have H_nr := ok_near_right T O_asked_before O_l_near_right H_be
  exact ok_law T H_aa H_so H_dice H_roll H_names H_row H_dressed H_many H_out H_tr H_nr O_asked_ahead O_so_manieth O_l_dice O_l_roll O_l_names O_l_row O_l_dressed O_l_many O_l_out O_l_thing_right O_l_near_right O_law
theorem walk {l : PySem.W.OpenLaw} {q : Program} {loose : List Str} {XP : (Str → Option Value) → Heap → Prop} {YP : World → Heap → Prop} {d : DefRec} {K : Params → PySem.W.Frag} (hn : l.most = some 63) (hdf : d.params.defaults = [])
    (hY : ∀ (w : World) (h : Heap), YP w h → (K w.params).In h)
    (F : ∀ (w : World) (mg : Str → Option Value) (fa : Addr) (h : Heap), (K w.params).In h → h.Ns mainGlobals mg → mg d.name = some (.ref fa) →
      ∃ fd : FuncData, (∀ (s : Shared) (u : Value), BindsTo s fd ⟨[u], []⟩ [("_law_script", u)]) ∧ ∀ base : Heap, (K w.params).In base → base.Ns mainGlobals mg → FnA Clean l.prog w (K w.params) mg base CX0 30 fa fd ["_law_script"] (spLaw (K w.params))) :
    PySem.W.WalkO q loose XP YP l.row.toRowW d [] (fun f vs => PySem.call f vs) :=
  walk_ofA (n := 63) (k := 30) (x := "_law_script") (sp := fun w => spLaw (K w.params)) hn (by decide) hdf ⟨rfl, by decide, by decide⟩ hY F (fun _ _ a ns hl _ hS => ⟨a, ns, rfl, hS, hl, fun _ => rfl⟩)
end K03
open PySem PySem.W PyProof.Rows in
set_option maxRecDepth 100000 in
set_option maxHeartbeats 0 in
theorem PySem.Challenge.cw_missclock_k03_so_often_ahead_holds : PySem.Challenge.rw_missclock_k03_so_often_ahead.Holds := by
  w_on; o_law; x_head; (case hw => w_witness2)
  k_fill
  refine K03.walk (l := PySem.Challenge.rw_missclock_k03_so_often_ahead) rfl rfl (fun w h Y => PySem.W.kIn_of Y) ?F
  case F =>
    intro w mg fa h KX G hmg
    refine' K03.all_mk KX G hmg ?a_is_whole ?l_is_whole ?w_is_whole ?k_is_whole ?a_is_thing ?l_is_thing ?w_is_thing ?k_is_thing ?a_are_things ?l_are_things ?w_are_things ?k_are_things ?a_are_small ?l_are_small ?w_are_small ?k_are_small ?a_is_row ?l_is_row ?w_is_row ?k_is_row ?a_looks_again ?l_looks_again ?w_looks_again ?k_looks_again ?a_ask_at ?l_ask_at ?w_ask_at ?k_ask_at ?a_asked_ahead ?l_asked_ahead ?w_asked_ahead ?k_asked_ahead ?a_so_manieth ?l_so_manieth ?w_so_manieth ?k_so_manieth ?a_asked_before ?l_asked_before ?w_asked_before ?k_asked_before ?a_check_row ?l_check_row ?w_check_row ?k_check_row ?a_check_thing ?l_check_thing ?w_check_thing ?k_check_thing ?a_check_place ?l_check_place ?w_check_place ?k_check_place ?a_count_asks ?l_count_asks ?w_count_asks ?k_count_asks ?a_part_asks ?l_part_asks ?w_part_asks ?k_part_asks ?a_thing_at ?l_thing_at ?w_thing_at ?k_thing_at ?a_part_with ?l_part_with ?w_part_with ?k_part_with ?a_often_in ?l_often_in ?w_often_in ?k_often_in ?a_part_often ?l_part_often ?w_part_often ?k_part_often ?a_often_ahead ?l_often_ahead ?w_often_ahead ?k_often_ahead ?a_place_of ?l_place_of ?w_place_of ?k_place_of ?a_l_dice ?l_l_dice ?w_l_dice ?k_l_dice ?a_l_roll ?l_l_roll ?w_l_roll ?k_l_roll ?a_l_names ?l_l_names ?w_l_names ?k_l_names ?a_l_row ?l_l_row ?w_l_row ?k_l_row ?a_l_dressed ?l_l_dressed ?w_l_dressed ?k_l_dressed ?a_l_many ?l_l_many ?w_l_many ?k_l_many ?a_l_out ?l_l_out ?w_l_out ?k_l_out ?a_l_same ?l_l_same ?w_l_same ?k_l_same ?a_l_counted ?l_l_counted ?w_l_counted ?k_l_counted ?a_l_ahead ?l_l_ahead ?w_l_ahead ?k_l_ahead ?a_l_thing_right ?l_l_thing_right ?w_l_thing_right ?k_l_thing_right ?a_l_near_right ?l_l_near_right ?w_l_near_right ?k_l_near_right ?a_law ?l_law ?w_law ?k_law ?z_isinstance ?z_int ?z_bool ?z_str ?z_list ?z_tuple ?z_len ?z_all ?z_range ?z_min ?z_repr ?z_enumerate ?z_sum ?z_zip ?z_divmod ?z_max ?q_LONGEST_THING ?q_MOST_TIMES ?q_DEEPEST_ROW ?q_sys
    (case a_is_whole => k_is)
    (case l_is_whole => k_is)
    (case w_is_whole => k_is)
    (case k_is_whole => k_is)
    (case a_is_thing => k_is)
    (case l_is_thing => k_is)
    (case w_is_thing => k_is)
    (case k_is_thing => k_is)
    (case a_are_things => k_is)
    (case l_are_things => k_is)
    (case w_are_things => k_is)
    (case k_are_things => k_is)
    (case a_are_small => k_is)
    (case l_are_small => k_is)
    (case w_are_small => k_is)
    (case k_are_small => k_is)
    (case a_is_row => k_is)
    (case l_is_row => k_is)
    (case w_is_row => k_is)
    (case k_is_row => k_is)
    (case a_looks_again => k_is)
    (case l_looks_again => k_is)
    (case w_looks_again => k_is)
    (case k_looks_again => k_is)
    (case a_ask_at => k_is)
    (case l_ask_at => k_is)
    (case w_ask_at => k_is)
    (case k_ask_at => k_is)
    (case a_asked_ahead => k_is)
    (case l_asked_ahead => k_is)
    (case w_asked_ahead => k_is)
    (case k_asked_ahead => k_is)
    (case a_so_manieth => k_is)
    (case l_so_manieth => k_is)
    (case w_so_manieth => k_is)
    (case k_so_manieth => k_is)
    (case a_asked_before => k_is)
    (case l_asked_before => k_is)
    (case w_asked_before => k_is)
    (case k_asked_before => k_is)
    (case a_check_row => k_is)
    (case l_check_row => k_is)
    (case w_check_row => k_is)
    (case k_check_row => k_is)
    (case a_check_thing => k_is)
    (case l_check_thing => k_is)
    (case w_check_thing => k_is)
    (case k_check_thing => k_is)
    (case a_check_place => k_is)
    (case l_check_place => k_is)
    (case w_check_place => k_is)
    (case k_check_place => k_is)
    (case a_count_asks => k_is)
    (case l_count_asks => k_is)
    (case w_count_asks => k_is)
    (case k_count_asks => k_is)
    (case a_part_asks => k_is)
    (case l_part_asks => k_is)
    (case w_part_asks => k_is)
    (case k_part_asks => k_is)
    (case a_thing_at => k_is)
    (case l_thing_at => k_is)
    (case w_thing_at => k_is)
    (case k_thing_at => k_is)
    (case a_part_with => k_is)
    (case l_part_with => k_is)
    (case w_part_with => k_is)
    (case k_part_with => k_is)
    (case a_often_in => k_is)
    (case l_often_in => k_is)
    (case w_often_in => k_is)
    (case k_often_in => k_is)
    (case a_part_often => k_is)
    (case l_part_often => k_is)
    (case w_part_often => k_is)
    (case k_part_often => k_is)
    (case a_often_ahead => k_is)
    (case l_often_ahead => k_is)
    (case w_often_ahead => k_is)
    (case k_often_ahead => k_is)
    (case a_place_of => k_is)
    (case l_place_of => k_is)
    (case w_place_of => k_is)
    (case k_place_of => k_is)
    (case a_l_dice => k_is)
    (case l_l_dice => k_is)
    (case w_l_dice => k_is)
    (case k_l_dice => k_is)
    (case a_l_roll => k_is)
    (case l_l_roll => k_is)
    (case w_l_roll => k_is)
    (case k_l_roll => k_is)
    (case a_l_names => k_is)
    (case l_l_names => k_is)
    (case w_l_names => k_is)
    (case k_l_names => k_is)
    (case a_l_row => k_is)
    (case l_l_row => k_is)
    (case w_l_row => k_is)
    (case k_l_row => k_is)
    (case a_l_dressed => k_is)
    (case l_l_dressed => k_is)
    (case w_l_dressed => k_is)
    (case k_l_dressed => k_is)
    (case a_l_many => k_is)
    (case l_l_many => k_is)
    (case w_l_many => k_is)
    (case k_l_many => k_is)
    (case a_l_out => k_is)
    (case l_l_out => k_is)
    (case w_l_out => k_is)
    (case k_l_out => k_is)
    (case a_l_same => k_is)
    (case l_l_same => k_is)
    (case w_l_same => k_is)
    (case k_l_same => k_is)
    (case a_l_counted => k_is)
    (case l_l_counted => k_is)
    (case w_l_counted => k_is)
    (case k_l_counted => k_is)
    (case a_l_ahead => k_is)
    (case l_l_ahead => k_is)
    (case w_l_ahead => k_is)
    (case k_l_ahead => k_is)
    (case a_l_thing_right => k_is)
    (case l_l_thing_right => k_is)
    (case w_l_thing_right => k_is)
    (case k_l_thing_right => k_is)
    (case a_l_near_right => k_is)
    (case l_l_near_right => k_is)
    (case w_l_near_right => k_is)
    (case k_l_near_right => k_is)
    (case a_law => k_is)
    (case l_law => k_is)
    (case w_law => k_is)
    (case k_law => k_is)
    (case z_isinstance => k_is)
    (case z_int => k_is)
    (case z_bool => k_is)
    (case z_str => k_is)
    (case z_list => k_is)
    (case z_tuple => k_is)
    (case z_len => k_is)
    (case z_all => k_is)
    (case z_range => k_is)
    (case z_min => k_is)
    (case z_repr => k_is)
    (case z_enumerate => k_is)
    (case z_sum => k_is)
    (case z_zip => k_is)
    (case z_divmod => k_is)
    (case z_max => k_is)
    (case q_LONGEST_THING => k_is)
    (case q_MOST_TIMES => k_is)
    (case q_DEEPEST_ROW => k_is)
    (case q_sys => k_is)
#print axioms PySem.Challenge.cw_missclock_k03_so_often_ahead_holds

