package flat

import "heriot/api"

// none is the operation of expressions that have no step of their own; many says that an expression may have any number of kids.
const (
	none = -1
	many = -1
)

// forms says how expressions of each kind are written: by which operation, how many kids they have, and how many of these, the last ones, are written as blocks; the others are arguments.
var forms = [...]struct{ op, kids, blocks int }{
	api.EInt:    {api.OInt, 0, 0},
	api.EBool:   {api.OBool, 0, 0},
	api.EUnit:   {api.OUnit, 0, 0},
	api.EName:   {none, 0, 0},
	api.ECall:   {api.OCall, many, 0},
	api.EMake:   {api.OMake, many, 0},
	api.ETuple:  {api.OTuple, many, 0},
	api.EGet:    {api.OGet, 1, 0},
	api.ELet:    {none, 2, 0},
	api.EIf:     {api.OIf, 3, 2},
	api.ECase:   {api.OCase, 1, 0},
	api.EFn:     {api.OFn, 1, 1},
	api.EApply:  {api.OApply, 2, 0},
	api.ERef:    {api.ORef, 1, 0},
	api.EDeref:  {api.ODeref, 1, 0},
	api.ESet:    {api.OSet, 2, 0},
	api.EArray:  {api.OArray, 2, 0},
	api.EAt:     {api.OAt, 2, 0},
	api.EPut:    {api.OPut, 3, 0},
	api.ELen:    {api.OLen, 1, 0},
	api.ERaise:  {api.ORaise, 1, 0},
	api.EHandle: {api.OHandle, 1, 1},
	api.EPrint:  {api.OPrint, 1, 0},
	api.ESeq:    {none, 2, 0},
	api.EAdd:    {api.OAdd, 2, 0},
	api.ESub:    {api.OSub, 2, 0},
	api.EMul:    {api.OMul, 2, 0},
	api.EDiv:    {api.ODiv, 2, 0},
	api.EMod:    {api.OMod, 2, 0},
	api.EEq:     {api.OEq, 2, 0},
	api.ELess:   {api.OLess, 2, 0},
}

// canBeWritten tells whether an expression has a kind that there is, and as many kids and arms as that may have.
func canBeWritten(e *api.Expr) bool {
	if e.Kind < 0 || e.Kind >= len(forms) {
		return false
	}
	if kids := forms[e.Kind].kids; kids != many && kids != len(e.Kids) {
		return false
	}
	if e.Kind == api.ETuple && len(e.Kids) < 2 {
		return false
	}
	return len(e.Arms) == 0 || e.Kind == api.ECase || e.Kind == api.EHandle
}

// expression writes the steps of an expression, and gives its variable.
func (w *writer) expression(e *api.Expr) int {
	w.visits++
	w.levels++
	if w.visits > mostVisits || w.levels > deepest {
		panic(api.ErrBig)
	}
	require(canBeWritten(e))
	var out int
	switch e.Kind {
	case api.EName:
		out = w.variable(e.Name)
	case api.ELet:
		w.open(e.Name, w.expression(&e.Kids[0]))
		out = w.expression(&e.Kids[1])
		w.close(e.Name)
	case api.ESeq:
		w.expression(&e.Kids[0])
		out = w.expression(&e.Kids[1])
	default:
		out = w.step(e)
	}
	w.levels--
	return out
}

// step writes an expression that has a step of its own, behind those of its arguments.
func (w *writer) step(e *api.Expr) int {
	form := forms[e.Kind]
	var args []int
	for i := range e.Kids[:len(e.Kids)-form.blocks] {
		args = append(args, w.expression(&e.Kids[i]))
	}
	s := api.Step{Op: form.op, Args: args, Code: w.code(e), Blocks: w.blocks(e)}
	s.Out = w.fresh()
	s.Type = w.copyOf(&e.Type, 1)
	switch e.Kind {
	case api.EInt, api.EBool, api.EGet:
		s.Int = e.Int
	case api.ECall:
		s.Types = w.copies(e.Inst)
	}
	if w.Enter(1, w.depth) {
		w.steps = append(w.steps, s)
	}
	return s.Out
}

// code is the number of what an expression names, if its step has one.
func (w *writer) code(e *api.Expr) int {
	var named map[string]int
	switch e.Kind {
	case api.ECall:
		named = w.funs
	case api.ERaise:
		named = w.exns
	case api.EMake:
		named = w.consOf(&e.Type)
	default:
		return 0
	}
	code, ok := named[e.Name]
	require(ok)
	return code
}

// consOf says the numbers of a data type's constructors.
func (w *writer) consOf(t *api.Type) map[string]int {
	require(t.Kind == api.TData && t.N >= 0 && t.N < len(w.cons))
	return w.cons[t.N]
}

func (w *writer) blocks(e *api.Expr) []api.Block {
	switch e.Kind {
	case api.EFn:
		return []api.Block{w.block(&e.Kids[0], e.Name)}
	case api.EIf:
		yes := w.block(&e.Kids[1])
		return []api.Block{yes, w.block(&e.Kids[2])}
	case api.ECase:
		return w.cases(e)
	case api.EHandle:
		return w.handle(e)
	}
	return nil
}

// cases writes the arms of a case in the order of the constructors.
func (w *writer) cases(e *api.Expr) []api.Block {
	t := &e.Kids[0].Type
	numbers := w.consOf(t)
	arms := make([]*api.Arm, len(w.Datas[t.N].Cons))
	for i := range e.Arms {
		con, ok := numbers[e.Arms[i].Name]
		require(ok && arms[con] == nil)
		arms[con] = &e.Arms[i]
	}
	var out []api.Block
	for _, arm := range arms {
		require(arm != nil)
		out = append(out, w.block(&arm.Body, arm.Vars...))
	}
	return out
}

func (w *writer) handle(e *api.Expr) []api.Block {
	body := w.block(&e.Kids[0])
	value := w.fresh()
	w.Enter(1, w.depth+1)
	out := []api.Block{body, {Bind: []int{value}, Value: value}}
	for i := range e.Arms {
		arm := &e.Arms[i]
		code, ok := w.exns[arm.Name]
		require(ok && len(arm.Vars) == 1)
		own := w.block(&arm.Body, arm.Vars...)
		own.Code = code
		out = append(out, own)
	}
	return out
}
