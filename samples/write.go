package samples

import (
	"strconv"
	"strings"

	"heriot/api"
)

// Write writes a program in steps as Program reads it, but for what the notation leaves away.
func Write(p api.Program) string {
	var out []string
	for _, d := range p.Datas {
		var cons []string
		for _, c := range d.Cons {
			cons = append(cons, joined(c.Name, typeTexts(c.Fields)...))
		}
		out = append(out, "data "+d.Name+" "+strconv.Itoa(len(d.Vars))+" = "+strings.Join(cons, " | ")+";")
	}
	for i, name := range p.Exns {
		if i > 2 {
			out = append(out, "exn "+name+";")
		}
	}
	for _, f := range p.Funs {
		head := joined("fun "+f.Name, numberTexts("", []int{f.Types, f.Regions, f.Effects})...)
		out = append(out, head+" "+effectText(f.Touch)+" ("+strings.Join(typeTexts(f.Params), " ")+") "+TypeText(f.Result)+" "+BlockText(f.Body)+";")
	}
	return strings.Join(out, "\n")
}

func joined(head string, more ...string) string {
	return strings.Join(append([]string{head}, more...), " ")
}

func numberTexts(sign string, list []int) []string {
	var out []string
	for _, n := range list {
		out = append(out, sign+strconv.Itoa(n))
	}
	return out
}

func typeTexts(list []api.Type) []string {
	var out []string
	for _, t := range list {
		out = append(out, TypeText(t))
	}
	return out
}

// TypeText writes a type.
func TypeText(t api.Type) string {
	head := strings.Fields(heads)[t.Kind]
	switch t.Kind {
	case api.TInt, api.TBool, api.TUnit:
		return head
	case api.TVar:
		return head + strconv.Itoa(t.N)
	case api.TData:
		head += strconv.Itoa(t.N)
	}
	text := joined("("+head, typeTexts(t.Args)...)
	if t.Region != 0 {
		text += " @" + strconv.Itoa(t.Region)
	}
	if len(t.Effect.Regions)+len(t.Effect.Vars) > 0 {
		text += " " + effectText(t.Effect)
	}
	return text + ")"
}

func effectText(e api.Effect) string {
	return "{" + strings.Join(append(numberTexts("", e.Regions), numberTexts("e", e.Vars)...), " ") + "}"
}

// BlockText writes a block.
func BlockText(b api.Block) string {
	text := "["
	if b.Code != 0 {
		text += "exn " + strconv.Itoa(b.Code) + "; "
	}
	if len(b.Bind) > 0 {
		text += joined("bind", numberTexts("", b.Bind)...) + "; "
	}
	for _, s := range b.Steps {
		text += stepText(s) + "; "
	}
	return text + "value " + strconv.Itoa(b.Value) + "]"
}

func stepText(s api.Step) string {
	text := strings.Fields(operations)[s.Op]
	if s.Out >= 0 {
		text = strconv.Itoa(s.Out) + " " + TypeText(s.Type) + " := " + text
	}
	if s.Int != 0 || s.Op == api.OInt || s.Op == api.OBool || s.Op == api.OGet {
		text += " #" + strconv.FormatInt(s.Int, 10)
	}
	if s.Code != 0 || s.Op == api.OMake || s.Op == api.OCall || s.Op == api.ORaise {
		text += " ." + strconv.Itoa(s.Code)
	}
	if len(s.Types) > 0 {
		text += " (" + strings.Join(typeTexts(s.Types), " ") + ")"
	}
	for _, e := range s.Effects {
		text += " " + effectText(e)
	}
	if s.Op == api.OHandle && len(s.Keep) > 0 {
		text += " " + effectText(api.Effect{Regions: s.Keep})
	}
	text = joined(text, numberTexts("@", s.Regions)...)
	for _, m := range s.Modes {
		text += [...]string{" keep", " last"}[m]
	}
	text = joined(text, numberTexts("", s.Args)...)
	if s.Region != 0 || s.Op == api.ONew || s.Op == api.OEnd {
		text += " @" + strconv.Itoa(s.Region)
	}
	for _, b := range s.Blocks {
		text += " " + BlockText(b)
	}
	return text
}
