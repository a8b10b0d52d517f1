package machine_test

import (
	"slices"

	"heriot/api"
	"heriot/samples"
)

// judgeLink joins objects; functions have the same bytes in objects and in images, and are copied as they are.
func judgeLink(objects [][]byte) ([]byte, api.Errno) {
	var all []*judged
	for _, bytes := range objects {
		j, ok := judgeObject(bytes)
		if !ok {
			return nil, api.ErrObject
		}
		all = append(all, j)
	}
	var image []byte
	if !isRight(func() { image = join(all) }) {
		return nil, api.ErrLink
	}
	return image, api.OK
}

func join(all []*judged) []byte {
	must(len(all) > 0)
	whole := &judged{}
	names := map[int]string{}
	var raw []byte
	for i, j := range all {
		must(i == 0 || j.unit > all[i-1].unit)
		must(j.ahead == len(whole.funs))
		must((j.main > 0) == (i == len(all)-1))
		whole.main = len(whole.funs) + j.main - 1
		whole.funs = append(whole.funs, j.funs...)
		raw = append(raw, j.raw...)
		for k, number := range j.exns {
			name, ok := names[number]
			must(!ok || name == j.names[k])
			names[number] = j.names[k]
		}
	}
	main := whole.funs[whole.main]
	must(len(whole.funs) <= api.MaxNodes && main.params <= api.MaxArgs && len(main.touch) == 0)
	for _, f := range whole.funs {
		for _, code := range f.codes {
			for _, s := range code {
				if s.op == 8 {
					whole.fits(s, s.n[1])
				}
			}
		}
	}
	image := append([]byte("HRI\x01"), samples.Number(uint64(len(whole.funs)))...)
	image = append(image, raw...)
	return append(append(image, exnsOf(names)...), samples.Number(uint64(whole.main))...)
}

func exnsOf(names map[int]string) []byte {
	var numbers []int
	for number := range names {
		numbers = append(numbers, number)
	}
	slices.Sort(numbers)
	out := samples.Number(uint64(len(numbers)))
	for _, number := range numbers {
		out = append(append(out, samples.Number(uint64(number))...), samples.Number(uint64(len(names[number])))...)
		out = append(out, names[number]...)
	}
	return out
}
