package wire

import (
	"strconv"
	"strings"

	"porter/api"
	"porter/words"
)

// The ways in which Print can tell a body.
const (
	byLength = 0
	byChunks = 1
)

// Print tells a request as bytes, its body by its length or in chunks of these sizes.
func Print(q api.Request, how int, sizes []int) (string, api.Errno) {
	if !printable(q) || !rightSizes(how, sizes, len(q.Body)) {
		return "", api.ErrArg
	}
	var out strings.Builder
	out.WriteString(q.Method + " " + q.Target + " " + version + "\r\n")
	for _, f := range q.Fields {
		writeField(&out, f.Name, f.Value)
	}
	if how == byLength {
		writeField(&out, words.LengthName, strconv.Itoa(len(q.Body)))
		out.WriteString("\r\n" + q.Body)
		return out.String(), api.OK
	}
	writeField(&out, words.CodingName, chunkedCoding)
	out.WriteString("\r\n")
	writeChunks(&out, q.Body, sizes)
	return out.String(), api.OK
}

// printable tells whether a request is of the form, and leaves the telling of its body to Print.
func printable(q api.Request) bool {
	if !words.IsMethod(q.Method) || !words.IsTarget(q.Target) {
		return false
	}
	hosts := 0
	for _, f := range q.Fields {
		switch {
		case !words.IsField(f) || words.Alike(f.Name, words.LengthName) || words.Alike(f.Name, words.CodingName):
			return false
		case words.Alike(f.Name, words.HostName):
			hosts++
		}
	}
	return hosts == 1
}

// rightSizes counts down from the length, since a sum of sizes could wrap round.
func rightSizes(how int, sizes []int, length int) bool {
	switch how {
	case byLength:
		return len(sizes) == 0
	case byChunks:
		left := length
		for _, size := range sizes {
			if size < 1 || size > left {
				return false
			}
			left -= size
		}
		return left == 0
	}
	return false
}

func writeField(out *strings.Builder, name string, value string) {
	out.WriteString(name)
	out.WriteString(": ")
	out.WriteString(value)
	out.WriteString("\r\n")
}

func writeChunks(out *strings.Builder, body string, sizes []int) {
	for _, size := range sizes {
		out.WriteString(strconv.FormatInt(int64(size), 16))
		out.WriteString("\r\n")
		out.WriteString(body[:size])
		out.WriteString("\r\n")
		body = body[size:]
	}
	out.WriteString("0\r\n\r\n")
}
